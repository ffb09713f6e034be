/- What the reference's 'may' does: may the arguments be? -/
import Derived.Test.YtflniddofmnkaaaRefWithin
import Derived.Deep.QuietTactic
open Go Go.Proofs Go.RowKit
namespace Go.Proofs.Ytflniddofmnkaaa

/-- A list of numbers lies at an address. -/
def Ints (w : World) (a : Option Addr) (xs : List Int) : Prop :=
  xs = [] ∨ ∃ b o, a = some ⟨b, o, none⟩ ∧ b < w.heap.size ∧ ∀ i x, xs[i]? = some x → w.cell? ⟨b, o + i, none⟩ = some (.int .i64 x)

/-- May an argument be (its letter, the one ahead of it)? -/
def okAt (c : UInt8) (pre x : Int) : Bool :=
  if c = 115 then decide (0 ≤ x ∧ x ≤ 31) else if c = 113 then decide (0 ≤ x ∧ x ≤ 7) else if c = 108 then decide (0 ≤ x ∧ x ≤ 255)
  else if c = 105 then decide (0 ≤ x ∧ x ≤ 7) else if c = 97 then decide (1 ≤ x ∧ x ≤ 32) else if c = 98 then decide (pre ≤ x ∧ x ≤ 32)
  else if c = 103 then decide (0 ≤ x ∧ x ≤ 8) else if c = 104 then decide (pre ≤ x ∧ x ≤ 8) else true

/-- The arguments ahead of k may be. -/
def mayTo (cs : List UInt8) (xs : List Int) : Nat → Bool
  | 0 => true
  | k + 1 => mayTo cs xs k && okAt (cs.getD k 0) (xs.getD (k - 1) 0) (xs.getD k 0)

theorem mayTo_false {cs : List UInt8} {xs : List Int} {k n : Nat} (h : mayTo cs xs k = false) (hn : k ≤ n) : mayTo cs xs n = false := by
  induction n with
  | zero => have : k = 0 := by omega
            subst this; exact h
  | succ n ih =>
    by_cases e : k = n + 1
    · subst e; exact h
    · unfold mayTo; rw [ih (by omega)]; rfl

/-- The letters in which 'b' and 'h' stand behind another one. -/
def goodL (cs : List UInt8) : Prop := ∀ k, k < cs.length → (cs.getD k 0 = 98 ∨ cs.getD k 0 = 104) → 0 < k

theorem drewN_more {w w' : World} (h : ∃ m, w' = w.drewN m) (n : Nat) : ∃ m, w'.drewN n = w.drewN m := by
  obtain ⟨m, rfl⟩ := h
  exact ⟨m + n, by rw [World.drewN_drewN]⟩

set_option maxRecDepth 100000 in
set_option maxHeartbeats 4000000 in
theorem may_any (w : World) (cs : List UInt8) (xs : List Int) (b o cap : Nat) (hl : cs.length = xs.length) (hg : goodL cs) (hm : xs.length ≤ 1000) (_hb : b < w.heap.size)
    (hx : ∀ i x, xs[i]? = some x → w.cell? ⟨b, o + i, none⟩ = some (.int .i64 x)) :
    Calls Try.prog 54 #[.string ⟨cs.toArray⟩, .slice (some ⟨b, o, none⟩) xs.length cap] w fun e w' => e = .returned (.bool (mayTo cs xs xs.length)) ∧ ∃ m, w' = w.drewN m := by
  have HX := hide hx
  have HL := hide hl
  have HG := hide hg
  clear hx hl hg
  go_enter Try.func54, Try.ntmps54
  go_wp2_with fail
  go_loopw [5] (fun i w' => ∃ k : Nat, k ≤ xs.length ∧ i = .int .i64 k ∧ mayTo cs xs k = true ∧ ∃ m, w' = w.drewN m) (fun i _ => xs.length - (intOf i).toNat)
  case atStart => exact ⟨0, by omega, rfl, rfl, 0, rfl⟩
  case round =>
    obtain ⟨k, hk, rfl, hmay, hW⟩ := hrel
    have HXr : Hid (∀ i x, xs[i]? = some x → wr.cell? ⟨b, o + i, none⟩ = some (.int .i64 x)) := fun i x h => by
      obtain ⟨m, rfl⟩ := hW
      exact HX.out i x h
    have HW := hide hW
    clear hW
    have HM := hide hmay
    clear hmay
    by_cases hkn : k < xs.length
    · have hc : cs[k]? = some (cs.getD k 0) := by
        have := HL.out
        rw [List.getD_eq_getElem?_getD, List.getElem?_eq_getElem (by omega)]; rfl
      have hxk : xs[k]? = some (xs.getD k 0) := by
        rw [List.getD_eq_getElem?_getD, List.getElem?_eq_getElem hkn]; rfl
      have c0 := HXr.out k _ hxk
      have hki : (k : Int) < (xs.length : Int) := by omega
      have hki0 : (0 : Int) ≤ (k : Int) := by omega
      have hks : k < cs.length := by have := HL.out; omega
      have HC := hide hc
      clear hc hxk
      iterate 46 (first | go_step | go_simp)
      have hcc : ({ data := cs.toArray } : ByteArray)[k].toNat = (cs.getD k 0).toNat := by
        congr 1
        show cs.toArray[k] = _
        rw [List.getD_eq_getElem?_getD, List.getElem?_eq_getElem hks]; simp
      rw [hcc]
      clear hcc
      have HS : Hid (∀ v, okAt (cs.getD k 0) (xs.getD (k - 1) 0) (xs.getD k 0) = v → mayTo cs xs (k + 1) = v) := fun v h => by
        unfold mayTo; rw [HM.out, h]; rfl
      have HGk := hide (HG.out k hks)
      generalize cs.getD k 0 = c at *
      generalize hx0 : xs.getD k 0 = x at *
      clear hx0
      have HF : Hid (mayTo cs xs (k + 1) = false → mayTo cs xs xs.length = false) := fun h => mayTo_false h (by omega)
      by_cases hs : c.toNat = 115
      · have hcs : c = 115 := UInt8.toNat_inj.1 hs
        generalize xs.getD (k - 1) 0 = y at *
        have HO : Hid (okAt c y x = decide (0 ≤ x ∧ x ≤ 31)) := by rw [hcs]; rfl
        rw [hs]
        clear hs hcs
        by_cases hP : 0 ≤ x ∧ x ≤ 31
        · have HP := hide hP
          clear hP
          go_wp2_with fail
          refine (within_yes _ _ _ _ HP.out).mono ?_
          rintro e w' ⟨rfl, rfl⟩
          go_wp2_with fail
          exact ⟨⟨k + 1, by omega, by go_num, HS.out _ (by rw [HO.out]; exact decide_eq_true HP.out), HW.out⟩, by simp [intOf]; omega⟩
        · have HP := hide hP
          clear hP
          go_wp2_with fail
          refine (within_no _ _ _ _ HP.out).mono ?_
          rintro e w' ⟨rfl, rfl⟩
          go_wp2_with fail
          go_ret
          exact ⟨ret_bool (HF.out (HS.out _ (by rw [HO.out]; exact decide_eq_false HP.out))).symm, HW.out⟩
      by_cases hq : c.toNat = 113
      · have hcq : c = 113 := UInt8.toNat_inj.1 hq
        generalize xs.getD (k - 1) 0 = y at *
        have HO : Hid (okAt c y x = decide (0 ≤ x ∧ x ≤ 7)) := by rw [hcq]; rfl
        rw [hq]
        clear hq hcq
        by_cases hP : 0 ≤ x ∧ x ≤ 7
        · have HP := hide hP
          clear hP
          go_wp2_with fail
          refine (within_yes _ _ _ _ HP.out).mono ?_
          rintro e w' ⟨rfl, rfl⟩
          go_wp2_with fail
          exact ⟨⟨k + 1, by omega, by go_num, HS.out _ (by rw [HO.out]; exact decide_eq_true HP.out), HW.out⟩, by simp [intOf]; omega⟩
        · have HP := hide hP
          clear hP
          go_wp2_with fail
          refine (within_no _ _ _ _ HP.out).mono ?_
          rintro e w' ⟨rfl, rfl⟩
          go_wp2_with fail
          go_ret
          exact ⟨ret_bool (HF.out (HS.out _ (by rw [HO.out]; exact decide_eq_false HP.out))).symm, HW.out⟩
      by_cases hl : c.toNat = 108
      · have hcl : c = 108 := UInt8.toNat_inj.1 hl
        generalize xs.getD (k - 1) 0 = y at *
        have HO : Hid (okAt c y x = decide (0 ≤ x ∧ x ≤ 255)) := by rw [hcl]; rfl
        rw [hl]
        clear hl hcl
        by_cases hP : 0 ≤ x ∧ x ≤ 255
        · have HP := hide hP
          clear hP
          go_wp2_with fail
          refine (within_yes _ _ _ _ HP.out).mono ?_
          rintro e w' ⟨rfl, rfl⟩
          go_wp2_with fail
          exact ⟨⟨k + 1, by omega, by go_num, HS.out _ (by rw [HO.out]; exact decide_eq_true HP.out), HW.out⟩, by simp [intOf]; omega⟩
        · have HP := hide hP
          clear hP
          go_wp2_with fail
          refine (within_no _ _ _ _ HP.out).mono ?_
          rintro e w' ⟨rfl, rfl⟩
          go_wp2_with fail
          go_ret
          exact ⟨ret_bool (HF.out (HS.out _ (by rw [HO.out]; exact decide_eq_false HP.out))).symm, HW.out⟩
      by_cases hi : c.toNat = 105
      · have hci : c = 105 := UInt8.toNat_inj.1 hi
        generalize xs.getD (k - 1) 0 = y at *
        have HO : Hid (okAt c y x = decide (0 ≤ x ∧ x ≤ 7)) := by rw [hci]; rfl
        rw [hi]
        clear hi hci
        by_cases hP : 0 ≤ x ∧ x ≤ 7
        · have HP := hide hP
          clear hP
          go_wp2_with fail
          refine (within_yes _ _ _ _ HP.out).mono ?_
          rintro e w' ⟨rfl, rfl⟩
          go_wp2_with fail
          exact ⟨⟨k + 1, by omega, by go_num, HS.out _ (by rw [HO.out]; exact decide_eq_true HP.out), HW.out⟩, by simp [intOf]; omega⟩
        · have HP := hide hP
          clear hP
          go_wp2_with fail
          refine (within_no _ _ _ _ HP.out).mono ?_
          rintro e w' ⟨rfl, rfl⟩
          go_wp2_with fail
          go_ret
          exact ⟨ret_bool (HF.out (HS.out _ (by rw [HO.out]; exact decide_eq_false HP.out))).symm, HW.out⟩
      by_cases ha : c.toNat = 97
      · have hca : c = 97 := UInt8.toNat_inj.1 ha
        generalize xs.getD (k - 1) 0 = y at *
        have HO : Hid (okAt c y x = decide (1 ≤ x ∧ x ≤ 32)) := by rw [hca]; rfl
        rw [ha]
        clear ha hca
        by_cases hP : 1 ≤ x ∧ x ≤ 32
        · have HP := hide hP
          clear hP
          go_wp2_with fail
          refine (within_yes _ _ _ _ HP.out).mono ?_
          rintro e w' ⟨rfl, rfl⟩
          go_wp2_with fail
          exact ⟨⟨k + 1, by omega, by go_num, HS.out _ (by rw [HO.out]; exact decide_eq_true HP.out), HW.out⟩, by simp [intOf]; omega⟩
        · have HP := hide hP
          clear hP
          go_wp2_with fail
          refine (within_no _ _ _ _ HP.out).mono ?_
          rintro e w' ⟨rfl, rfl⟩
          go_wp2_with fail
          go_ret
          exact ⟨ret_bool (HF.out (HS.out _ (by rw [HO.out]; exact decide_eq_false HP.out))).symm, HW.out⟩
      by_cases hb : c.toNat = 98
      · have hcb : c = 98 := UInt8.toNat_inj.1 hb
        obtain ⟨j, rfl⟩ : ∃ j, k = j + 1 := ⟨k - 1, by have := HGk.out (by simp [hcb]); omega⟩
        have hy : xs[j]? = some (xs.getD j 0) := by
          rw [List.getD_eq_getElem?_getD, List.getElem?_eq_getElem (by omega)]; rfl
        have c1 := HXr.out j _ hy
        have ej : j + 1 - 1 = j := by omega
        rw [ej] at HS
        generalize hyy : xs.getD j 0 = y at *
        clear hyy hy ej
        have hkj : (j : Int) + 1 < (xs.length : Int) := by omega
        have hkj0 : (0 : Int) ≤ (j : Int) + 1 := by omega
        have hj0 : (j : Int) < (xs.length : Int) := by omega
        have hj1 : (0 : Int) ≤ (j : Int) := by omega
        have hw1 : IntKind.i64.wrap ((j : Int) + 1 - 1) = (j : Int) := by simp [IntKind.wrap, IntKind.bits, IntKind.signed]; omega
        have hw2 : IntKind.i64.wrap (j : Int) = (j : Int) := by simp [IntKind.wrap, IntKind.bits, IntKind.signed]; omega
        have hw3 : wrap64 ((j : Int) + 1 - 1) = (j : Int) := by unfold wrap64; omega
        simp only [Int.natCast_add, Int.natCast_one] at *
        have HO : Hid (okAt c y x = decide (y ≤ x ∧ x ≤ 32)) := by rw [hcb]; rfl
        rw [hb]
        clear hb hcb
        by_cases hP : y ≤ x ∧ x ≤ 32
        · have HP := hide hP
          clear hP
          go_wp2_with fail
          go_quiet ((go_at_call 68; exact Calls.quiet_of_same (within_yes _ _ _ _ HP.out)))
          go_wp2_with fail
          exact ⟨⟨j + 1 + 1, by omega, by go_num, HS.out _ (by rw [HO.out]; exact decide_eq_true HP.out), drewN_more HW.out _⟩, by simp [intOf]; omega⟩
        · have HP := hide hP
          clear hP
          go_wp2_with fail
          go_quiet ((go_at_call 68; exact Calls.quiet_of_same (within_no _ _ _ _ HP.out)))
          go_wp2_with fail
          go_ret
          exact ⟨ret_bool (HF.out (HS.out _ (by rw [HO.out]; exact decide_eq_false HP.out))).symm, drewN_more HW.out _⟩
      by_cases hg : c.toNat = 103
      · have hcg : c = 103 := UInt8.toNat_inj.1 hg
        generalize xs.getD (k - 1) 0 = y at *
        have HO : Hid (okAt c y x = decide (0 ≤ x ∧ x ≤ 8)) := by rw [hcg]; rfl
        rw [hg]
        clear hg hcg
        by_cases hP : 0 ≤ x ∧ x ≤ 8
        · have HP := hide hP
          clear hP
          go_wp2_with fail
          refine (within_yes _ _ _ _ HP.out).mono ?_
          rintro e w' ⟨rfl, rfl⟩
          go_wp2_with fail
          exact ⟨⟨k + 1, by omega, by go_num, HS.out _ (by rw [HO.out]; exact decide_eq_true HP.out), HW.out⟩, by simp [intOf]; omega⟩
        · have HP := hide hP
          clear hP
          go_wp2_with fail
          refine (within_no _ _ _ _ HP.out).mono ?_
          rintro e w' ⟨rfl, rfl⟩
          go_wp2_with fail
          go_ret
          exact ⟨ret_bool (HF.out (HS.out _ (by rw [HO.out]; exact decide_eq_false HP.out))).symm, HW.out⟩
      by_cases hh : c.toNat = 104
      · have hch : c = 104 := UInt8.toNat_inj.1 hh
        obtain ⟨j, rfl⟩ : ∃ j, k = j + 1 := ⟨k - 1, by have := HGk.out (by simp [hch]); omega⟩
        have hy : xs[j]? = some (xs.getD j 0) := by
          rw [List.getD_eq_getElem?_getD, List.getElem?_eq_getElem (by omega)]; rfl
        have c1 := HXr.out j _ hy
        have ej : j + 1 - 1 = j := by omega
        rw [ej] at HS
        generalize hyy : xs.getD j 0 = y at *
        clear hyy hy ej
        have hkj : (j : Int) + 1 < (xs.length : Int) := by omega
        have hkj0 : (0 : Int) ≤ (j : Int) + 1 := by omega
        have hj0 : (j : Int) < (xs.length : Int) := by omega
        have hj1 : (0 : Int) ≤ (j : Int) := by omega
        have hw1 : IntKind.i64.wrap ((j : Int) + 1 - 1) = (j : Int) := by simp [IntKind.wrap, IntKind.bits, IntKind.signed]; omega
        have hw2 : IntKind.i64.wrap (j : Int) = (j : Int) := by simp [IntKind.wrap, IntKind.bits, IntKind.signed]; omega
        have hw3 : wrap64 ((j : Int) + 1 - 1) = (j : Int) := by unfold wrap64; omega
        simp only [Int.natCast_add, Int.natCast_one] at *
        have HO : Hid (okAt c y x = decide (y ≤ x ∧ x ≤ 8)) := by rw [hch]; rfl
        rw [hh]
        clear hh hch
        by_cases hP : y ≤ x ∧ x ≤ 8
        · have HP := hide hP
          clear hP
          go_wp2_with fail
          go_quiet ((go_at_call 68; exact Calls.quiet_of_same (within_yes _ _ _ _ HP.out)))
          go_wp2_with fail
          exact ⟨⟨j + 1 + 1, by omega, by go_num, HS.out _ (by rw [HO.out]; exact decide_eq_true HP.out), drewN_more HW.out _⟩, by simp [intOf]; omega⟩
        · have HP := hide hP
          clear hP
          go_wp2_with fail
          go_quiet ((go_at_call 68; exact Calls.quiet_of_same (within_no _ _ _ _ HP.out)))
          go_wp2_with fail
          go_ret
          exact ⟨ret_bool (HF.out (HS.out _ (by rw [HO.out]; exact decide_eq_false HP.out))).symm, drewN_more HW.out _⟩
      have HO : Hid (okAt c (xs.getD (k - 1) 0) x = true) := by
        unfold Hid okAt
        repeat rw [if_neg (fun h => by subst h; simp_all)]
      go_wp2_with fail
      exact ⟨⟨k + 1, by omega, by go_num, HS.out _ HO.out, HW.out⟩, by simp [intOf]; omega⟩
    · have : k = xs.length := by omega
      subst this
      go_wp2_with fail
      go_ret
      exact ⟨ret_bool HM.out.symm, HW.out⟩

theorem may_nil (w : World) (s : ByteArray) (la : Option Addr) (cap : Nat) :
    Calls Try.prog 54 #[.string s, .slice la 0 cap] w fun e w' => e = .returned (.bool true) ∧ w' = w := by
  go_enter Try.func54, Try.ntmps54
  go_wp2_with fail
  refine wp_loop_rounds 1 ?_
  rw [rounds_succ]
  go_wp2_with fail
  go_ret
  exact ⟨rfl, rfl⟩

end Go.Proofs.Ytflniddofmnkaaa
