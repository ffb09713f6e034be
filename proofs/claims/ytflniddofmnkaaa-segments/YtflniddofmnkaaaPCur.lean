/- What the program's 'holds' and 'current' do. -/
import Derived.Test.YtflniddofmnkaaaPBase
open Go Go.Proofs Go.RowKit
namespace Go.Proofs.Ytflniddofmnkaaa

set_option maxHeartbeats 1000000 in
theorem holds_yes (w : World) (kb g sl : Nat) (k l : Int) (hsl : sl < 32) (hk : w.cell? ⟨kb, sl, none⟩ = some (.iface 75 (.pointer (some ⟨g, 0, none⟩))))
    (h0 : w.cell? ⟨g, 0, none⟩ = some (.int .i64 sl)) (h1 : w.cell? ⟨g, 1, none⟩ = some (.int .i64 k)) (h2 : w.cell? ⟨g, 2, none⟩ = some (.int .i64 l)) (hkb : kb < w.heap.size) (hg : g < w.heap.size) :
    Calls Try.prog 44 #[.pointer (some ⟨kb, 0, none⟩), .iface 75 (.pointer (some ⟨g, 0, none⟩))] w fun e w' => e = .returned (.bool true) ∧ Below w.heap.size w w' := by
  have k0 := later_cell hk hkb
  have m0 : ∀ x : Later w, (method 270 75 (.pointer (some ⟨g, 0, none⟩)) "cloister/cloister.place").run Try.prog x.1 = .ok (29, .agg #[.int .i64 sl, .int .i64 k, .int .i64 l]) x.1 :=
    fun x => method_place_thread x.1 g _ _ _ (later_cell h0 hg x) (later_cell h1 hg x) (later_cell h2 hg x)
  have hq : ∀ w, (binOp .eql 73 (.iface 75 (.pointer (some ⟨g, 0, none⟩))) (.iface 75 (.pointer (some ⟨g, 0, none⟩)))).run Try.prog w = .ok (.bool true) w :=
    fun w => run_eql_iface_ptr_same w ⟨g, 0, none⟩ Try.underlying73 Try.underlying75 (i := Try.t75) (by kernel_rfl) (by kernel_rfl) (j := Try.t84) (by kernel_rfl)
  have hsi : (sl : Int) < 32 := by omega
  have hs0 : (0 : Int) ≤ (sl : Int) := by omega
  clear hk h0 h1 h2
  go_enter Try.func44, Try.ntmps44
  go_wp2_with fail
  have hne : Nonempty (Later w) := ⟨⟨w, Below.refl _ _⟩⟩
  refine wp_region_later (by kernel_rfl) (by kernel_rfl) ?_
  repeat (go_big_quiet_step (((go_at_call 29; exact Calls.later_of (place_any _ _ _ _)))))
  refine wpQuiet_nil ?_
  rintro _ ⟨wl, rfl⟩
  clear hne
  go_wp2_with fail
  go_ret
  exact ⟨rfl, wl.2⟩

/-- The current thread's slot, by what the quanta have. -/
def curP (S : Nat → Th) (lq : Nat → Option Nat) (ph : Nat) : Option Nat :=
  match lq ph with
  | none => none
  | some s => if (S s).awake = true then some s else none

section
variable {w : World} {kb : Nat} {S : Nat → Th} {ws : Nat → List Int} {lq : Nat → Option Nat} {ph : Nat} {ob : Nat → Nat} {qp : Nat → Option Nat}

theorem PK.live (h : PK w kb S ws lq ph ob qp) {q s : Nat} (hq : q < 8) (hs : lq q = some s) : s < 32 ∧ (S s).kind = 2 ∧ qp q = some (ob s) := by
  have hQ := h.quanta q hq
  unfold QOK at hQ
  cases hqp : qp q with
  | none => rw [hqp] at hQ; rw [hQ] at hs; cases hs
  | some g =>
    rw [hqp] at hQ
    obtain ⟨_, sl, lb, ow, aw, h1, _, h2⟩ := hQ
    rw [hs] at h2
    split at h2
    · rename_i hc
      injection h2 with h2
      subst h2
      exact ⟨h1, hc.1, by rw [hc.2]⟩
    · cases h2
end

set_option maxHeartbeats 1000000 in
theorem pcurrent_yes {w : World} {kb : Nat} {S : Nat → Th} {ws : Nat → List Int} {lq : Nat → Option Nat} {ph : Nat} {ob : Nat → Nat} {qp : Nat → Option Nat} (h : PK w kb S ws lq ph ob qp) {s : Nat} (hc : curP S lq ph = some s) :
    Calls Try.prog 28 #[.pointer (some ⟨kb, 0, none⟩)] w fun e w' => e = .returned (.pointer (some ⟨ob s, 0, none⟩)) ∧ Below w.heap.size w w' := by
  have hl : lq ph = some s ∧ (S s).awake = true := by
    unfold curP at hc
    split at hc
    · cases hc
    · split at hc
      · injection hc with hc; subst hc; exact ⟨‹_›, ‹_›⟩
      · cases hc
  obtain ⟨hs, hk, hqp⟩ := h.live h.ph8 hl.1
  have p0 := h.phase
  have hp8 : (ph : Int) < 8 := by have := h.ph8; omega
  have q0 := h.quant h.ph8
  rw [hqp] at q0
  simp only [ptrV] at q0
  obtain ⟨b0, b1, b2⟩ := h.base hs (by omega)
  obtain ⟨t0, t1⟩ := h.thr hs hk
  rw [hl.2] at t1
  have s0 := h.slot hs
  have e0 : obV (S s) (ob s) = .iface 75 (.pointer (some ⟨ob s, 0, none⟩)) := by unfold obV; rw [if_neg (by omega), if_pos hk]
  rw [e0] at s0
  have HB0 := hide b0
  have HB1 := hide b1
  have HB2 := hide b2
  have HS0 := hide s0
  have hlt1 := h.lt
  have hlt2 := h.oblt hs (by omega)
  clear hc hl e0 b0 b1 b2 s0 hk t0 hqp h
  go_enter Try.func28, Try.ntmps28
  go_wp2_with fail
  go_quiet (fail)
  go_wp2_with fail
  refine (holds_yes _ kb (ob s) s (S s).kind (S s).label hs (by exact HS0.out) (by exact HB0.out) (by exact HB1.out) (by exact HB2.out) (by exact hlt1) (by exact hlt2)).mono ?_
  rintro e w1 ⟨rfl, hb⟩
  go_wp2_with fail
  go_ret
  exact ⟨rfl, (below_drewN (Below.refl _ _) _).trans hb⟩

end Go.Proofs.Ytflniddofmnkaaa
