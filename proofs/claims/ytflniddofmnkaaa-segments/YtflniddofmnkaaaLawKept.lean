/- What the law's 'kept' does. -/
import Derived.Test.YtflniddofmnkaaaLawRoomy
open Go Go.Proofs Go.RowKit
namespace Go.Proofs.Ytflniddofmnkaaa

theorem kept_nil (w : World) :
    Calls Try.prog 43 #[.slice none 0 0, .slice none 0 0] w fun e w' => e = .returned (.bool true) ∧ w' = w := by
  have he := fun w => Lib.run_eql_slice_nil (P := Try.prog) w 32 3 none 0 0 0 0 Try.underlying32
  go_enter Try.func43, Try.ntmps43
  go_wp2_with fail
  go_ret
  exact ⟨rfl, rfl⟩

theorem Row.cell {w : World} {g : Nat} {xs : List Int} (h : Row w g xs) {i : Nat} {x : Int} (hx : xs[i]? = some x) : w.cell? ⟨g, i, none⟩ = some (.int .i64 x) := by
  obtain ⟨cs, h1, _, h3⟩ := h.blk
  rw [h1.cell, h3 i x hx]

theorem padded_lo {xs : List Int} {i : Nat} (h : i < xs.length) : (padded xs)[i]? = some (xs.getD i 0) := by
  unfold padded
  rw [List.getElem?_append_left h, List.getElem?_eq_getElem h, List.getD_eq_getElem?_getD, List.getElem?_eq_getElem h]; rfl
theorem padded_hi {xs : List Int} {i : Nat} (h : xs.length ≤ i) (h2 : i < xs.length + 8) : (padded xs)[i]? = some (-77) := by
  unfold padded
  rw [List.getElem?_append_right h]
  have : i - xs.length < 8 := by omega
  generalize i - xs.length = j at *
  have hj : j = 0 ∨ j = 1 ∨ j = 2 ∨ j = 3 ∨ j = 4 ∨ j = 5 ∨ j = 6 ∨ j = 7 := by omega
  rcases hj with rfl | rfl | rfl | rfl | rfl | rfl | rfl | rfl <;> rfl

set_option maxHeartbeats 2000000 in
theorem kept_any (w : World) (g c cap : Nat) (la : Addr) (xs : List Int) (hm : xs.length ≤ 17592186043904) (hc : xs.length + 8 ≤ c) (hr : Row w g (padded xs)) (hl : xs = [] ∨ ∃ lb lo, la = ⟨lb, lo, none⟩ ∧ Arg w lb lo xs) :
    Calls Try.prog 43 #[.slice (some ⟨g, 0, none⟩) xs.length c, .slice (some la) xs.length cap] w fun e w' => e = .returned (.bool true) ∧ w' = w := by
  have he := fun w => Lib.run_eql_slice_nil (P := Try.prog) w 32 3 (some la) xs.length cap 0 0 Try.underlying32
  have HR := hide hr
  have HL := hide hl
  have hci : (xs.length : Int) + 8 ≤ (c : Int) := by omega
  clear hr hl
  go_enter Try.func43, Try.ntmps43
  go_wp2_with fail
  go_loop [6] (fun i => ∃ k : Nat, k ≤ xs.length + 8 ∧ i = .int .i64 k) (fun i => xs.length + 8 - (intOf i).toNat)
  case atStart => exact ⟨0, by omega, rfl⟩
  case round =>
    obtain ⟨k, hk, rfl⟩ := hrel
    by_cases hkn : k < xs.length
    · have hki : (k : Int) < (xs.length : Int) := by omega
      have hki2 : (k : Int) < (xs.length : Int) + 8 := by omega
      rcases HL.out with h | ⟨lb, lo, h, ha⟩
      · subst h; simp at hkn
      · subst h
        have c0 := HR.out.cell (padded_lo hkn)
        have c1 := ha.cell k (xs.getD k 0) (by rw [List.getD_eq_getElem?_getD, List.getElem?_eq_getElem hkn]; rfl)
        clear ha
        go_wp2_with fail
        go_round
        case rel => exact ⟨k + 1, by omega, by go_num⟩
        case measure => simp [intOf]; omega
    · by_cases hk8 : k < xs.length + 8
      · have hki : ¬ (k : Int) < (xs.length : Int) := by omega
        have hki2 : (k : Int) < (xs.length : Int) + 8 := by omega
        have c0 := HR.out.cell (padded_hi (by omega) hk8)
        go_wp2_with fail
        go_round
        case rel => exact ⟨k + 1, by omega, by go_num⟩
        case measure => simp [intOf]; omega
      · have hki2 : ¬ (k : Int) < (xs.length : Int) + 8 := by omega
        go_wp2_with fail
        go_ret
        exact ⟨rfl, rfl⟩

end Go.Proofs.Ytflniddofmnkaaa
