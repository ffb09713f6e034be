/- What the program's 'admits' does. -/
import Derived.Test.YtflniddofmnkaaaRefArgs
open Go Go.Proofs Go.RowKit
namespace Go.Proofs.Ytflniddofmnkaaa

/-- The arguments ahead of k are within their bounds. -/
def admTo (bs : List (Int × Int)) (xs : List Int) : Nat → Bool
  | 0 => true
  | k + 1 => admTo bs xs k && decide ((bs.getD k (0, 0)).1 ≤ xs.getD k 0 ∧ xs.getD k 0 ≤ (bs.getD k (0, 0)).2)

theorem admTo_false {bs : List (Int × Int)} {xs : List Int} {k n : Nat} (h : admTo bs xs k = false) (hn : k ≤ n) : admTo bs xs n = false := by
  induction n with
  | zero => have : k = 0 := by omega
            subst this; exact h
  | succ n ih =>
    by_cases e : k = n + 1
    · subst e; exact h
    · unfold admTo; rw [ih (by omega)]; rfl

theorem admits_nil (w : World) (f : Value) (l : Value) :
    Calls Try.prog 32 #[.agg #[.slice none 0 0, f], l] w fun e w' => e = .returned (.bool true) ∧ Below w.heap.size w w' := by
  go_enter Try.func32, Try.ntmps32
  go_wp2_with fail
  refine wp_loop_rounds 1 ?_
  rw [rounds_succ]
  go_wp2_with fail
  go_ret
  exact ⟨rfl, by (repeat (first | exact Below.refl _ _ | refine Below.drew ?_ | refine below_drewN ?_ _ | refine Below.alloc ?_ (by simp <;> omega) _))⟩

set_option maxHeartbeats 2000000 in
theorem admits_any (w : World) (f : Value) (g lb lo cap : Nat) (bs : List (Int × Int)) (xs : List Int) (hl : bs.length = xs.length) (hm : xs.length ≤ 1000) (hg : g < w.heap.size)
    (hb : ∀ i b, bs[i]? = some b → w.cell? ⟨g, i * 2, none⟩ = some (.int .i64 b.1) ∧ w.cell? ⟨g, i * 2 + 1, none⟩ = some (.int .i64 b.2)) (ha : Arg w lb lo xs) :
    Calls Try.prog 32 #[.agg #[.slice (some ⟨g, 0, none⟩) xs.length xs.length, f], .slice (some ⟨lb, lo, none⟩) xs.length cap] w fun e w' => e = .returned (.bool (admTo bs xs xs.length)) ∧ Below w.heap.size w w' := by
  have HX := hide ha
  have HL := hide hl
  have HB := hide hb
  have hlb := ha.lt
  clear ha hl hb
  go_enter Try.func32, Try.ntmps32
  go_wp2_with fail
  go_loopw [10] (fun i w' => ∃ k : Nat, k ≤ xs.length ∧ i = .int .i64 k ∧ admTo bs xs k = true ∧ Below w.heap.size w w') (fun i _ => xs.length - (intOf i).toNat)
  case atStart => exact ⟨0, by omega, rfl, rfl, by (repeat (first | exact Below.refl _ _ | refine Below.drew ?_ | refine below_drewN ?_ _ | refine Below.alloc ?_ (by simp <;> omega) _))⟩
  case round =>
    obtain ⟨k, hk, rfl, hmay, hW⟩ := hrel
    have HM := hide hmay
    have HW := hide hW
    have hsz := hW.size
    clear hmay hW
    by_cases hkn : k < xs.length
    · have hxk : xs[k]? = some (xs.getD k 0) := by
        rw [List.getD_eq_getElem?_getD, List.getElem?_eq_getElem hkn]; rfl
      have hbk : bs[k]? = some (bs.getD k (0, 0)) := by
        have := HL.out
        rw [List.getD_eq_getElem?_getD, List.getElem?_eq_getElem (by omega)]; rfl
      have c0 := (HX.out.below HW.out hlb).cell k _ hxk
      obtain ⟨d0, d1⟩ := HB.out k _ hbk
      have e0 := (cell_same' (HW.out.block g hg) (k * 2)).trans d0
      have e1 := (cell_same' (HW.out.block g hg) (k * 2 + 1)).trans d1
      have hki : (k : Int) < (xs.length : Int) := by omega
      have hki0 : (0 : Int) ≤ (k : Int) := by omega
      have hlb' : lb < wr.heap.size := by omega
      have HS : Hid (∀ v, decide ((bs.getD k (0, 0)).1 ≤ xs.getD k 0 ∧ xs.getD k 0 ≤ (bs.getD k (0, 0)).2) = v → admTo bs xs (k + 1) = v) := fun v h => by
        unfold admTo; rw [HM.out, h]; rfl
      have HF : Hid (admTo bs xs (k + 1) = false → admTo bs xs xs.length = false) := fun h => admTo_false h (by omega)
      clear hxk hbk d0 d1
      generalize xs.getD k 0 = x at *
      generalize (bs.getD k (0, 0)).1 = p at *
      generalize (bs.getD k (0, 0)).2 = q at *
      by_cases h1 : x < p
      · have h1b : decide (x < p) = true := by simpa using h1
        have hP : Hid (¬ (p ≤ x ∧ x ≤ q)) := by unfold Hid; omega
        go_wp2_with fail
        go_quiet (fail)
        go_wp2_with fail
        go_ret
        exact ⟨ret_bool (HF.out (HS.out _ (decide_eq_false hP.out))).symm, below_drewN (HW.out.alloc HW.out.size _) _⟩
      · have h1b : decide (x < p) = false := by simpa using h1
        by_cases h2 : q < x
        · have h2b : decide (q < x) = true := by simpa using h2
          have hP : Hid (¬ (p ≤ x ∧ x ≤ q)) := by unfold Hid; omega
          go_wp2_with fail
          go_quiet (fail)
          go_wp2_with fail
          go_ret
          exact ⟨ret_bool (HF.out (HS.out _ (decide_eq_false hP.out))).symm, below_drewN (HW.out.alloc HW.out.size _) _⟩
        · have h2b : decide (q < x) = false := by simpa using h2
          have hP : Hid (p ≤ x ∧ x ≤ q) := by unfold Hid; omega
          go_wp2_with fail
          go_quiet (fail)
          go_wp2_with fail
          exact ⟨⟨k + 1, by omega, by go_num, HS.out _ (decide_eq_true hP.out), below_drewN (HW.out.alloc HW.out.size _) _⟩, by simp [intOf]; omega⟩
    · have : k = xs.length := by omega
      subst this
      go_wp2_with fail
      go_ret
      exact ⟨ret_bool HM.out.symm, HW.out⟩

end Go.Proofs.Ytflniddofmnkaaa
