/- What the reference's 'first' does: NewSegment. -/
import Derived.Test.YtflniddofmnkaaaRefFirst
open Go Go.Proofs Go.RowKit
namespace Go.Proofs.Ytflniddofmnkaaa

theorem seg_wf {l : Nat} (hl : l < 256) (k i : Int) (a : Option Addr) (n c : Nat) : Th.wf ⟨k, l, i, a, n, c, 0, false, 0, 0, 0, 0⟩ := by
  refine ⟨?_, ?_, ?_, ?_, hl, ?_⟩ <;> simp

set_option maxHeartbeats 2000000 in
set_option maxRecDepth 100000 in
theorem first_new_no (n : Nat) (w : World) (ab b T O me lb lo cap : Nat) (p : Nat × Int) (r : RSt) (c s l : Nat) (h : AK w ab b T O p r) (hc : c < 32) (hs : s < 32) (hl : l < 256) (hd : deep r.S n c) (ha : Arg w lb lo [(c : Int), (s : Int), (l : Int)]) (hab : lb ≠ ab) (hp : (makingF r.S O T n c s l p).2 ≠ 0) :
    Calls Try.prog 55 #[.pointer (some ⟨ab, 0, none⟩), .int .i64 4, .int .i64 me, .slice (some ⟨lb, lo, none⟩) 3 cap] w fun e' w' => e' = .returned (.int .i64 0) ∧
      AK w' ab b T O (makingF r.S O T n c s l p) r ∧ Fr (fun k => k = ab) w w' := by
  have l0 := ha.c0
  have l1 := ha.c1
  have l2 := ha.c2
  have H := hide h
  have HA := hide ha
  have HD := hide hd
  have HP := hide hp
  clear h ha hd hp
  go_enter Try.func55, Try.ntmps55
  go_wp2_with fail
  go_still_tail 10, (by kernel_rfl)
  go_wp2_with fail
  refine (making_any _ _ _ _ _ _ _ n _ _ _ (H.out.fr ((Fr.refl _ _).drew)) hc hs hl HD.out).mono ?_
  rintro e w1 ⟨rfl, h1, g1⟩
  have H1 := hide h1
  have G1 : Hid (Fr (fun k => k = ab) w w1) := ((Fr.refl _ _).drew).trans g1
  have m1 := (HA.out.fr G1.out hab).c1
  have m2 := (HA.out.fr G1.out hab).c2
  have hlb := (HA.out.fr G1.out hab).lt
  clear h1 g1 l0 l1 l2
  have hmk : ∀ w, (Instr.makeSlice 32 (.int .i64 8) (.int .i64 8)).run Try.prog w = .ok (.slice (some ⟨w.heap.size, 0, none⟩) 8 8) (w.alloc (.cells #[.int .i64 0, .int .i64 0, .int .i64 0, .int .i64 0, .int .i64 0, .int .i64 0, .int .i64 0, .int .i64 0] 3)) := fun _ => by kernel_rfl
  go_wp2_with fail
  go_region_held3 (fun w' => w'.cell? ⟨lb, lo + 1, none⟩ = some (.int .i64 s) ∧ w'.cell? ⟨lb, lo + 2, none⟩ = some (.int .i64 l)) (go_keep)
    ((go_at_call 72; refine (put_not _ ab b T O (makingF r.S O T n c s l p) r s ⟨3, l, 0, some ⟨w1.heap.size, 0, none⟩, 8, 8, 0, false, 0, 0, 0, 0⟩ (H1.out.fr (by (repeat (first | exact Fr.refl _ _ | refine Fr.drew ?_ | refine Fr.drewN ?_ _ | refine Fr.alloc ?_ _)))) HP.out).mono ?_; rintro e w2 ⟨rfl, h2, g2⟩; have A2 := Arg.fr (Arg.fr (S := fun _ => False) (HA.out.fr G1.out hab) (by (repeat (first | exact Fr.refl _ _ | refine Fr.drew ?_ | refine Fr.drewN ?_ _ | refine Fr.alloc ?_ _))) id) g2 id; have m1' := A2.c1; have m2' := A2.c2; clear A2 m1 m2))
  go_wp2_with fail
  go_ret
  exact ⟨rfl, h2, (Fr.trans' G1.out (S' := fun _ => False) (by (repeat (first | exact Fr.refl _ _ | refine Fr.drew ?_ | refine Fr.drewN ?_ _ | refine Fr.alloc ?_ _))) (fun _ _ h => h.elim)).trans (g2.mono (fun _ _ h => h.elim))⟩

set_option maxHeartbeats 2000000 in
set_option maxRecDepth 100000 in
theorem first_new_yes (n : Nat) (w : World) (ab b T O me lb lo cap : Nat) (p : Nat × Int) (r : RSt) (c s l : Nat) (h : AK w ab b T O p r) (hc : c < 32) (hs : s < 32) (hl : l < 256) (hd : deep r.S n c) (ha : Arg w lb lo [(c : Int), (s : Int), (l : Int)]) (hab : lb ≠ ab) (hlb' : lb ≠ b) (u : Nat) (hp : makingF r.S O T n c s l p = (u, 0)) (hm : 0 ≤ r.made) (hm2 : r.made < 4611686018427387904) :
    Calls Try.prog 55 #[.pointer (some ⟨ab, 0, none⟩), .int .i64 4, .int .i64 me, .slice (some ⟨lb, lo, none⟩) 3 cap] w fun e' w' => e' = .returned (.int .i64 0) ∧
      ∃ g, w.heap.size ≤ g ∧ AK w' ab b T O (u, 0) ((r.mk1 (r.made + 1)).put s ⟨3, l, r.made + 1, some ⟨g, 0, none⟩, 8, 8, 0, false, 0, 0, 0, 0⟩) ∧
        Blk w' g #[.int .i64 0, .int .i64 0, .int .i64 0, .int .i64 0, .int .i64 0, .int .i64 0, .int .i64 0, .int .i64 0] ∧ Fr (fun k => k = ab ∨ k = b) w w' := by
  have l0 := ha.c0
  have l1 := ha.c1
  have l2 := ha.c2
  have H := hide h
  have HA := hide ha
  have HD := hide hd
  have HP := hide hp
  clear h ha hd hp
  go_enter Try.func55, Try.ntmps55
  go_wp2_with fail
  go_still_tail 10, (by kernel_rfl)
  go_wp2_with fail
  refine (making_any _ _ _ _ _ _ _ n _ _ _ (H.out.fr ((Fr.refl _ _).drew)) hc hs hl HD.out).mono ?_
  rintro e w1 ⟨rfl, h1, g1⟩
  rw [HP.out] at h1
  have H1 := hide h1
  have G1 : Hid (Fr (fun k => k = ab) w w1) := ((Fr.refl _ _).drew).trans g1
  have m1 := (HA.out.fr G1.out hab).c1
  have m2 := (HA.out.fr G1.out hab).c2
  have hlb := (HA.out.fr G1.out hab).lt
  clear h1 g1 l0 l1 l2
  have hmk : ∀ w, (Instr.makeSlice 32 (.int .i64 8) (.int .i64 8)).run Try.prog w = .ok (.slice (some ⟨w.heap.size, 0, none⟩) 8 8) (w.alloc (.cells #[.int .i64 0, .int .i64 0, .int .i64 0, .int .i64 0, .int .i64 0, .int .i64 0, .int .i64 0, .int .i64 0] 3)) := fun _ => by kernel_rfl
  go_wp2_with fail
  go_region_held3 (fun w' => w'.cell? ⟨lb, lo + 1, none⟩ = some (.int .i64 s) ∧ w'.cell? ⟨lb, lo + 2, none⟩ = some (.int .i64 l)) (go_keep)
    ((go_at_call 72; refine (put_any _ ab b T O u r s ⟨3, l, 0, some ⟨w1.heap.size, 0, none⟩, 8, 8, 0, false, 0, 0, 0, 0⟩ (H1.out.fr (by (repeat (first | exact Fr.refl _ _ | refine Fr.drew ?_ | refine Fr.drewN ?_ _ | refine Fr.alloc ?_ _)))) hs (seg_wf hl _ _ _ _ _) hm hm2).mono ?_; rintro e w2 ⟨rfl, h2, g2⟩; have A2 := Arg.fr (Arg.fr (S := fun _ => False) (HA.out.fr G1.out hab) (by (repeat (first | exact Fr.refl _ _ | refine Fr.drew ?_ | refine Fr.drewN ?_ _ | refine Fr.alloc ?_ _))) id) g2 hlb'; have m1' := A2.c1; have m2' := A2.c2; clear A2 m1 m2))
  go_wp2_with fail
  go_ret
  have hbw := H1.out.rk.lt
  have F2 : Fr (fun k => k = ab ∨ k = b) w w1 := G1.out.mono (fun _ _ h => Or.inl h)
  exact ⟨rfl, w1.heap.size, G1.out.size, h2, Blk.fr ((Blk.new w1 _ _).drew) g2 (by omega), (Fr.trans' F2 (S' := fun _ => False) (by (repeat (first | exact Fr.refl _ _ | refine Fr.drew ?_ | refine Fr.drewN ?_ _ | refine Fr.alloc ?_ _))) (fun _ _ h => h.elim)).trans (g2.mono (fun _ _ h => Or.inr h))⟩

end Go.Proofs.Ytflniddofmnkaaa
