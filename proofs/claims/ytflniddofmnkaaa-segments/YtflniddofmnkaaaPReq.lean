/- A trap on its way in the program: what 'fits', 'mayRead', 'mayWrite' do. -/
import Derived.Test.YtflniddofmnkaaaPHome
open Go Go.Proofs Go.RowKit
namespace Go.Proofs.Ytflniddofmnkaaa

theorem sub_iff (a b : Nat) : sub a b = true ↔ a &&& b = a := by
  unfold sub
  rw [beq_iff_eq]
  constructor
  · intro h
    apply Nat.eq_of_testBit_eq
    intro i
    have := congrArg (fun n => n.testBit i) h
    simp only [Nat.testBit_or, Nat.testBit_and] at *
    cases ha : a.testBit i <;> cases hb : b.testBit i <;> simp_all
  · intro h
    apply Nat.eq_of_testBit_eq
    intro i
    have := congrArg (fun n => n.testBit i) h
    simp only [Nat.testBit_or, Nat.testBit_and] at *
    cases ha : a.testBit i <;> cases hb : b.testBit i <;> simp_all

theorem mis_zero (a b : Nat) : mis a b = 0 ↔ sub a b = true := by
  rw [sub_iff]
  have := and_le_self a b
  unfold mis
  omega

/-- The request lies in block rb. -/
def ReqAt (w : World) (rb kb tb u : Nat) : Prop := Blk w rb #[.pointer (some ⟨kb, 0, none⟩), .pointer (some ⟨tb, 0, none⟩), .int .i64 u]

/-- The request, its kernel and the thread that asks. -/
structure QK (w : World) (rb kb : Nat) (S : Nat → Th) (ws : Nat → List Int) (lq : Nat → Option Nat) (ph : Nat) (ob : Nat → Nat) (qp : Nat → Option Nat) (me u : Nat) : Prop where
  req : ReqAt w rb kb (ob me) u
  pk : PK w kb S ws lq ph ob qp
  ne : ¬ Foot kb S ob qp rb
  me32 : me < 32
  mek : (S me).kind = 2
  u8 : u < 256

section
variable {w w' : World} {rb kb : Nat} {S : Nat → Th} {ws : Nat → List Int} {lq : Nat → Option Nat} {ph : Nat} {ob : Nat → Nat} {qp : Nat → Option Nat} {me u : Nat}

theorem QK.cells (h : QK w rb kb S ws lq ph ob qp me u) : w.cell? ⟨rb, 0, none⟩ = some (.pointer (some ⟨kb, 0, none⟩)) ∧ w.cell? ⟨rb, 1, none⟩ = some (.pointer (some ⟨ob me, 0, none⟩)) ∧ w.cell? ⟨rb, 2, none⟩ = some (.int .i64 u) ∧ w.frozen? ⟨rb, 2, none⟩ = false := by
  refine ⟨?_, ?_, ?_, Blk.frozen h.req 2⟩ <;> rw [Blk.cell h.req] <;> rfl
theorem QK.lt (h : QK w rb kb S ws lq ph ob qp me u) : rb < w.heap.size := Blk.lt h.req
theorem QK.fr (h : QK w rb kb S ws lq ph ob qp me u) (f : Fr (fun _ => False) w w') : QK w' rb kb S ws lq ph ob qp me u :=
  ⟨Blk.fr h.req f id, h.pk.fr f (fun _ _ => id), h.ne, h.me32, h.mek, h.u8⟩
theorem QK.below (h : QK w rb kb S ws lq ph ob qp me u) (f : Below w.heap.size w w') : QK w' rb kb S ws lq ph ob qp me u := h.fr (Fr.of_below f)
theorem QK.used (h : QK w rb kb S ws lq ph ob qp me u) {n : Nat} (hn : n < 256) : QK (w.setCell ⟨rb, 2, none⟩ (.int .i64 n)) rb kb S ws lq ph ob qp me n :=
  ⟨Blk.set h.req 2 _, h.pk.fr (Fr.own _ _ _ _) (fun _ hk e => h.ne (e ▸ hk)), h.ne, h.me32, h.mek, hn⟩
theorem QK.owns (h : QK w rb kb S ws lq ph ob qp me u) : (S me).owns < 256 := (h.pk.wf me h.me32).2.2.2.2.2
theorem QK.label (h : QK w rb kb S ws lq ph ob qp me u) : (S me).label < 256 := (h.pk.wf me h.me32).2.2.2.2.1
end

set_option maxHeartbeats 1000000 in
theorem fits_any {w : World} {rb kb : Nat} {S : Nat → Th} {ws : Nat → List Int} {lq : Nat → Option Nat} {ph : Nat} {ob : Nat → Nat} {qp : Nat → Option Nat} {me u : Nat} (h : QK w rb kb S ws lq ph ob qp me u) (x y : Nat) (hx : x < 256) (hy : y < 256) :
    Calls Try.prog 81 #[.pointer (some ⟨rb, 0, none⟩), .int .i64 x, .int .i64 y] w fun e w' => e = .returned (.int .i64 (chk (S me).owns x y (u, 0)).2) ∧ QK w' rb kb S ws lq ph ob qp me (chk (S me).owns x y (u, 0)).1 ∧ Fr (fun k => k = rb) w w' := by
  obtain ⟨c0, c1, c2, f2⟩ := h.cells
  obtain ⟨t0, -⟩ := h.pk.thr h.me32 h.mek
  have han := i64_andNot x y hx hy
  have hm := mis_lt y hx
  have han2 := i64_andNot (mis x y) (S me).owns hm h.owns
  have hor := i64_or u (mis x y) h.u8 hm
  have H := hide h
  clear h
  by_cases hs : sub (mis x y) (S me).owns = true
  · have e0 := (mis_zero _ _).2 hs
    rw [e0] at han2
    have E1 : Hid (chk (S me).owns x y (u, 0) = (u ||| mis x y, 0)) := by unfold Hid chk; rw [if_neg (by simp), if_pos hs]
    clear e0 hs
    go_enter Try.func81, Try.ntmps81
    go_wp2_with fail
    go_ret
    rw [E1.out]
    exact ⟨rfl, H.out.used (or_lt H.out.u8 hm), Fr.own _ _ _ _⟩
  · have e0 : ¬ mis (mis x y) (S me).owns = 0 := fun e => hs ((mis_zero _ _).1 e)
    have e0' : ¬ ((mis (mis x y) (S me).owns : Nat) : Int) = 0 := by omega
    have E1 : Hid (chk (S me).owns x y (u, 0) = (u, 4)) := by unfold Hid chk; rw [if_neg (by simp), if_neg hs]
    clear e0 hs
    go_enter Try.func81, Try.ntmps81
    go_wp2_with fail
    go_ret
    rw [E1.out]
    exact ⟨rfl, H.out, Fr.refl _ _⟩

end Go.Proofs.Ytflniddofmnkaaa
