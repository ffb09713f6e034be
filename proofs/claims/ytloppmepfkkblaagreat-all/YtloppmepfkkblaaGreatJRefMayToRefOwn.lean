/- What the reference's 'may' does: may the arguments be? -/
import Derived.Deep.QuietTactic
import Derived.Test.YtloppmepfkkblaaGreatProg
import Derived.BigRegion
import Derived.Deep.RegionHeld3
import Derived.StillTailTactics
import Derived.Deep.AppendLies
import Derived.Test.YtloppmepfkkblaaGreatJRefAskToRefWithin
import Derived.Test.YtloppmepfkkblaaGreatJBaseToTreeKeeps

section
open Go Go.Proofs Go.RowKit
namespace Go.Proofs.YtloppmepfkkblaaGreat

/-- A list of numbers lies at an address. -/
def Ints (w : World) (a : Option Addr) (xs : List Int) : Prop :=
  xs = [] ∨ ∃ b o, a = some ⟨b, o, none⟩ ∧ b < w.heap.size ∧ ∀ i x, xs[i]? = some x → w.cell? ⟨b, o + i, none⟩ = some (.int .i64 x)

theorem mayTo_false {cs : List UInt8} {xs : List Int} {k n : Nat} (h : mayTo cs xs k = false) (hn : k ≤ n) : mayTo cs xs n = false := by
  induction n with
  | zero => have : k = 0 := by omega
            subst this; exact h
  | succ n ih =>
    by_cases e : k = n + 1
    · subst e; exact h
    · unfold mayTo; rw [ih (by omega)]; rfl

/-- The letters in which 'b' and 'h' stand behind another one. -/
def goodL (cs : List UInt8) : Prop := ∀ k, k < cs.length → (cs.getD k 0 = 98 ∨ cs.getD k 0 = 104) → 0 < k

theorem drewN_more {w w' : World} (h : ∃ m, w' = w.drewN m) (n : Nat) : ∃ m, w'.drewN n = w.drewN m := by
  obtain ⟨m, rfl⟩ := h
  exact ⟨m + n, by rw [World.drewN_drewN]⟩

set_option maxRecDepth 100000 in
set_option maxHeartbeats 4000000 in
theorem may_any (w : World) (cs : List UInt8) (xs : List Int) (b o cap : Nat) (hl : cs.length = xs.length) (hg : goodL cs) (hm : xs.length ≤ 1000) (_hb : b < w.heap.size)
    (hx : ∀ i x, xs[i]? = some x → w.cell? ⟨b, o + i, none⟩ = some (.int .i64 x)) :
    Calls Tryz.prog 40 #[.string ⟨cs.toArray⟩, .slice (some ⟨b, o, none⟩) xs.length cap] w fun e w' => e = .returned (.bool (mayTo cs xs xs.length)) ∧ ∃ m, w' = w.drewN m := by
  have HX := hide hx
  have HL := hide hl
  have HG := hide hg
  clear hx hl hg
  go_enter Tryz.func40, Tryz.ntmps40
  go_wp2_with fail
  go_loopw [5] (fun i w' => ∃ k : Nat, k ≤ xs.length ∧ i = .int .i64 k ∧ mayTo cs xs k = true ∧ ∃ m, w' = w.drewN m) (fun i _ => xs.length - (intOf i).toNat)
  case atStart => exact ⟨0, by omega, rfl, rfl, 0, rfl⟩
  case round =>
    obtain ⟨k, hk, rfl, hmay, hW⟩ := hrel
    have HXr : Hid (∀ i x, xs[i]? = some x → wr.cell? ⟨b, o + i, none⟩ = some (.int .i64 x)) := fun i x h => by
      obtain ⟨m, rfl⟩ := hW
      exact HX.out i x h
    have HW := hide hW
    clear hW
    have HM := hide hmay
    clear hmay
    by_cases hkn : k < xs.length
    · have hc : cs[k]? = some (cs.getD k 0) := by
        have := HL.out
        rw [List.getD_eq_getElem?_getD, List.getElem?_eq_getElem (by omega)]; rfl
      have hxk : xs[k]? = some (xs.getD k 0) := by
        rw [List.getD_eq_getElem?_getD, List.getElem?_eq_getElem hkn]; rfl
      have c0 := HXr.out k _ hxk
      have hki : (k : Int) < (xs.length : Int) := by omega
      have hki0 : (0 : Int) ≤ (k : Int) := by omega
      have hks : k < cs.length := by have := HL.out; omega
      have HC := hide hc
      clear hc hxk
      iterate 46 (first | go_step | go_simp)
      have hcc : ({ data := cs.toArray } : ByteArray)[k].toNat = (cs.getD k 0).toNat := by
        congr 1
        show cs.toArray[k] = _
        rw [List.getD_eq_getElem?_getD, List.getElem?_eq_getElem hks]; simp
      rw [hcc]
      clear hcc
      have HS : Hid (∀ v, okAt (cs.getD k 0) (xs.getD (k - 1) 0) (xs.getD k 0) = v → mayTo cs xs (k + 1) = v) := fun v h => by
        unfold mayTo; rw [HM.out, h]; rfl
      have HGk := hide (HG.out k hks)
      generalize cs.getD k 0 = c at *
      generalize hx0 : xs.getD k 0 = x at *
      clear hx0
      have HF : Hid (mayTo cs xs (k + 1) = false → mayTo cs xs xs.length = false) := fun h => mayTo_false h (by omega)
      by_cases hs : c.toNat = 115
      · have hcs : c = 115 := UInt8.toNat_inj.1 hs
        generalize xs.getD (k - 1) 0 = y at *
        have HO : Hid (okAt c y x = decide (0 ≤ x ∧ x ≤ 31)) := by rw [hcs]; rfl
        rw [hs]
        clear hs hcs
        by_cases hP : 0 ≤ x ∧ x ≤ 31
        · have HP := hide hP
          clear hP
          go_wp2_with fail
          refine (within_yes _ _ _ _ HP.out).mono ?_
          rintro e w' ⟨rfl, rfl⟩
          go_wp2_with fail
          exact ⟨⟨k + 1, by omega, by go_num, HS.out _ (by rw [HO.out]; exact decide_eq_true HP.out), HW.out⟩, by simp [intOf]; omega⟩
        · have HP := hide hP
          clear hP
          go_wp2_with fail
          refine (within_no _ _ _ _ HP.out).mono ?_
          rintro e w' ⟨rfl, rfl⟩
          go_wp2_with fail
          go_ret
          exact ⟨ret_bool (HF.out (HS.out _ (by rw [HO.out]; exact decide_eq_false HP.out))).symm, HW.out⟩
      by_cases hq : c.toNat = 113
      · have hcq : c = 113 := UInt8.toNat_inj.1 hq
        generalize xs.getD (k - 1) 0 = y at *
        have HO : Hid (okAt c y x = decide (0 ≤ x ∧ x ≤ 7)) := by rw [hcq]; rfl
        rw [hq]
        clear hq hcq
        by_cases hP : 0 ≤ x ∧ x ≤ 7
        · have HP := hide hP
          clear hP
          go_wp2_with fail
          refine (within_yes _ _ _ _ HP.out).mono ?_
          rintro e w' ⟨rfl, rfl⟩
          go_wp2_with fail
          exact ⟨⟨k + 1, by omega, by go_num, HS.out _ (by rw [HO.out]; exact decide_eq_true HP.out), HW.out⟩, by simp [intOf]; omega⟩
        · have HP := hide hP
          clear hP
          go_wp2_with fail
          refine (within_no _ _ _ _ HP.out).mono ?_
          rintro e w' ⟨rfl, rfl⟩
          go_wp2_with fail
          go_ret
          exact ⟨ret_bool (HF.out (HS.out _ (by rw [HO.out]; exact decide_eq_false HP.out))).symm, HW.out⟩
      by_cases hl : c.toNat = 108
      · have hcl : c = 108 := UInt8.toNat_inj.1 hl
        generalize xs.getD (k - 1) 0 = y at *
        have HO : Hid (okAt c y x = decide (0 ≤ x ∧ x ≤ 255)) := by rw [hcl]; rfl
        rw [hl]
        clear hl hcl
        by_cases hP : 0 ≤ x ∧ x ≤ 255
        · have HP := hide hP
          clear hP
          go_wp2_with fail
          refine (within_yes _ _ _ _ HP.out).mono ?_
          rintro e w' ⟨rfl, rfl⟩
          go_wp2_with fail
          exact ⟨⟨k + 1, by omega, by go_num, HS.out _ (by rw [HO.out]; exact decide_eq_true HP.out), HW.out⟩, by simp [intOf]; omega⟩
        · have HP := hide hP
          clear hP
          go_wp2_with fail
          refine (within_no _ _ _ _ HP.out).mono ?_
          rintro e w' ⟨rfl, rfl⟩
          go_wp2_with fail
          go_ret
          exact ⟨ret_bool (HF.out (HS.out _ (by rw [HO.out]; exact decide_eq_false HP.out))).symm, HW.out⟩
      by_cases hi : c.toNat = 105
      · have hci : c = 105 := UInt8.toNat_inj.1 hi
        generalize xs.getD (k - 1) 0 = y at *
        have HO : Hid (okAt c y x = decide (0 ≤ x ∧ x ≤ 7)) := by rw [hci]; rfl
        rw [hi]
        clear hi hci
        by_cases hP : 0 ≤ x ∧ x ≤ 7
        · have HP := hide hP
          clear hP
          go_wp2_with fail
          refine (within_yes _ _ _ _ HP.out).mono ?_
          rintro e w' ⟨rfl, rfl⟩
          go_wp2_with fail
          exact ⟨⟨k + 1, by omega, by go_num, HS.out _ (by rw [HO.out]; exact decide_eq_true HP.out), HW.out⟩, by simp [intOf]; omega⟩
        · have HP := hide hP
          clear hP
          go_wp2_with fail
          refine (within_no _ _ _ _ HP.out).mono ?_
          rintro e w' ⟨rfl, rfl⟩
          go_wp2_with fail
          go_ret
          exact ⟨ret_bool (HF.out (HS.out _ (by rw [HO.out]; exact decide_eq_false HP.out))).symm, HW.out⟩
      by_cases ha : c.toNat = 97
      · have hca : c = 97 := UInt8.toNat_inj.1 ha
        generalize xs.getD (k - 1) 0 = y at *
        have HO : Hid (okAt c y x = decide (1 ≤ x ∧ x ≤ 32)) := by rw [hca]; rfl
        rw [ha]
        clear ha hca
        by_cases hP : 1 ≤ x ∧ x ≤ 32
        · have HP := hide hP
          clear hP
          go_wp2_with fail
          refine (within_yes _ _ _ _ HP.out).mono ?_
          rintro e w' ⟨rfl, rfl⟩
          go_wp2_with fail
          exact ⟨⟨k + 1, by omega, by go_num, HS.out _ (by rw [HO.out]; exact decide_eq_true HP.out), HW.out⟩, by simp [intOf]; omega⟩
        · have HP := hide hP
          clear hP
          go_wp2_with fail
          refine (within_no _ _ _ _ HP.out).mono ?_
          rintro e w' ⟨rfl, rfl⟩
          go_wp2_with fail
          go_ret
          exact ⟨ret_bool (HF.out (HS.out _ (by rw [HO.out]; exact decide_eq_false HP.out))).symm, HW.out⟩
      by_cases hb : c.toNat = 98
      · have hcb : c = 98 := UInt8.toNat_inj.1 hb
        obtain ⟨j, rfl⟩ : ∃ j, k = j + 1 := ⟨k - 1, by have := HGk.out (by simp [hcb]); omega⟩
        have hy : xs[j]? = some (xs.getD j 0) := by
          rw [List.getD_eq_getElem?_getD, List.getElem?_eq_getElem (by omega)]; rfl
        have c1 := HXr.out j _ hy
        have ej : j + 1 - 1 = j := by omega
        rw [ej] at HS
        generalize hyy : xs.getD j 0 = y at *
        clear hyy hy ej
        have hkj : (j : Int) + 1 < (xs.length : Int) := by omega
        have hkj0 : (0 : Int) ≤ (j : Int) + 1 := by omega
        have hj0 : (j : Int) < (xs.length : Int) := by omega
        have hj1 : (0 : Int) ≤ (j : Int) := by omega
        have hw1 : IntKind.i64.wrap ((j : Int) + 1 - 1) = (j : Int) := by simp [IntKind.wrap, IntKind.bits, IntKind.signed]; omega
        have hw2 : IntKind.i64.wrap (j : Int) = (j : Int) := by simp [IntKind.wrap, IntKind.bits, IntKind.signed]; omega
        have hw3 : wrap64 ((j : Int) + 1 - 1) = (j : Int) := by unfold wrap64; omega
        simp only [Int.natCast_add, Int.natCast_one] at *
        have HO : Hid (okAt c y x = decide (y ≤ x ∧ x ≤ 32)) := by rw [hcb]; rfl
        rw [hb]
        clear hb hcb
        by_cases hP : y ≤ x ∧ x ≤ 32
        · have HP := hide hP
          clear hP
          go_wp2_with fail
          go_quiet ((go_at_call 68; exact Calls.quiet_of_same (within_yes _ _ _ _ HP.out)))
          go_wp2_with fail
          exact ⟨⟨j + 1 + 1, by omega, by go_num, HS.out _ (by rw [HO.out]; exact decide_eq_true HP.out), drewN_more HW.out _⟩, by simp [intOf]; omega⟩
        · have HP := hide hP
          clear hP
          go_wp2_with fail
          go_quiet ((go_at_call 68; exact Calls.quiet_of_same (within_no _ _ _ _ HP.out)))
          go_wp2_with fail
          go_ret
          exact ⟨ret_bool (HF.out (HS.out _ (by rw [HO.out]; exact decide_eq_false HP.out))).symm, drewN_more HW.out _⟩
      by_cases hg : c.toNat = 103
      · have hcg : c = 103 := UInt8.toNat_inj.1 hg
        generalize xs.getD (k - 1) 0 = y at *
        have HO : Hid (okAt c y x = decide (0 ≤ x ∧ x ≤ 8)) := by rw [hcg]; rfl
        rw [hg]
        clear hg hcg
        by_cases hP : 0 ≤ x ∧ x ≤ 8
        · have HP := hide hP
          clear hP
          go_wp2_with fail
          refine (within_yes _ _ _ _ HP.out).mono ?_
          rintro e w' ⟨rfl, rfl⟩
          go_wp2_with fail
          exact ⟨⟨k + 1, by omega, by go_num, HS.out _ (by rw [HO.out]; exact decide_eq_true HP.out), HW.out⟩, by simp [intOf]; omega⟩
        · have HP := hide hP
          clear hP
          go_wp2_with fail
          refine (within_no _ _ _ _ HP.out).mono ?_
          rintro e w' ⟨rfl, rfl⟩
          go_wp2_with fail
          go_ret
          exact ⟨ret_bool (HF.out (HS.out _ (by rw [HO.out]; exact decide_eq_false HP.out))).symm, HW.out⟩
      by_cases hh : c.toNat = 104
      · have hch : c = 104 := UInt8.toNat_inj.1 hh
        obtain ⟨j, rfl⟩ : ∃ j, k = j + 1 := ⟨k - 1, by have := HGk.out (by simp [hch]); omega⟩
        have hy : xs[j]? = some (xs.getD j 0) := by
          rw [List.getD_eq_getElem?_getD, List.getElem?_eq_getElem (by omega)]; rfl
        have c1 := HXr.out j _ hy
        have ej : j + 1 - 1 = j := by omega
        rw [ej] at HS
        generalize hyy : xs.getD j 0 = y at *
        clear hyy hy ej
        have hkj : (j : Int) + 1 < (xs.length : Int) := by omega
        have hkj0 : (0 : Int) ≤ (j : Int) + 1 := by omega
        have hj0 : (j : Int) < (xs.length : Int) := by omega
        have hj1 : (0 : Int) ≤ (j : Int) := by omega
        have hw1 : IntKind.i64.wrap ((j : Int) + 1 - 1) = (j : Int) := by simp [IntKind.wrap, IntKind.bits, IntKind.signed]; omega
        have hw2 : IntKind.i64.wrap (j : Int) = (j : Int) := by simp [IntKind.wrap, IntKind.bits, IntKind.signed]; omega
        have hw3 : wrap64 ((j : Int) + 1 - 1) = (j : Int) := by unfold wrap64; omega
        simp only [Int.natCast_add, Int.natCast_one] at *
        have HO : Hid (okAt c y x = decide (y ≤ x ∧ x ≤ 8)) := by rw [hch]; rfl
        rw [hh]
        clear hh hch
        by_cases hP : y ≤ x ∧ x ≤ 8
        · have HP := hide hP
          clear hP
          go_wp2_with fail
          go_quiet ((go_at_call 68; exact Calls.quiet_of_same (within_yes _ _ _ _ HP.out)))
          go_wp2_with fail
          exact ⟨⟨j + 1 + 1, by omega, by go_num, HS.out _ (by rw [HO.out]; exact decide_eq_true HP.out), drewN_more HW.out _⟩, by simp [intOf]; omega⟩
        · have HP := hide hP
          clear hP
          go_wp2_with fail
          go_quiet ((go_at_call 68; exact Calls.quiet_of_same (within_no _ _ _ _ HP.out)))
          go_wp2_with fail
          go_ret
          exact ⟨ret_bool (HF.out (HS.out _ (by rw [HO.out]; exact decide_eq_false HP.out))).symm, drewN_more HW.out _⟩
      have HO : Hid (okAt c (xs.getD (k - 1) 0) x = true) := by
        unfold Hid okAt
        repeat rw [if_neg (fun h => by subst h; simp_all)]
      go_wp2_with fail
      exact ⟨⟨k + 1, by omega, by go_num, HS.out _ HO.out, HW.out⟩, by simp [intOf]; omega⟩
    · have : k = xs.length := by omega
      subst this
      go_wp2_with fail
      go_ret
      exact ⟨ret_bool HM.out.symm, HW.out⟩

theorem may_nil (w : World) (s : ByteArray) (la : Option Addr) (cap : Nat) :
    Calls Tryz.prog 40 #[.string s, .slice la 0 cap] w fun e w' => e = .returned (.bool true) ∧ w' = w := by
  go_enter Tryz.func40, Tryz.ntmps40
  go_wp2_with fail
  refine wp_loop_rounds 1 ?_
  rw [rounds_succ]
  go_wp2_with fail
  go_ret
  exact ⟨rfl, rfl⟩

end Go.Proofs.YtloppmepfkkblaaGreat
end

section
/- What the reference's 'Current', 'Tick' and 'Now' do. -/
open Go Go.Proofs Go.RowKit
namespace Go.Proofs.YtloppmepfkkblaaGreat

set_option maxHeartbeats 1000000 in
theorem current_any (w : World) (b : Nat) (r : RSt) (hr : RK w b r) (hq : r.wq) :
    Calls Tryz.prog 28 #[.pointer (some ⟨b, 0, none⟩)] w fun e w' => e = .returned (.int .i64 (oi (curF r))) ∧ Below w.heap.size w w' := by
  have hlt := hr.lt
  have p0 := hr.phase
  have hp8 : (r.phase : Int) < 8 := by have := hq.1; omega
  obtain ⟨q0, q1⟩ := hr.turn hq.1
  have hqs := hq.2 _ hq.1
  obtain ⟨c0, c1, c2, c3, c4, c5, c6, c7, c8, c9⟩ := hr.things hqs
  have hqi : ((r.qs r.phase : Nat) : Int) < 32 := by omega
  clear hr hq
  by_cases h1 : r.qi r.phase = 0
  · have e1 : curF r = none := by unfold curF; rw [if_pos (Or.inl h1)]
    have E1 := hide e1
    clear e1
    rw [h1] at q1
    go_enter Tryz.func28, Tryz.ntmps28
    go_wp2_with fail
    go_region
    go_wp2_with fail
    go_region
    go_wp2_with fail
    go_ret
    exact ⟨ret_i64 (by rw [E1.out]; rfl), by (repeat (first | exact Below.refl _ _ | refine Below.drew ?_ | refine below_drewN ?_ _ | refine Below.alloc ?_ (by simp <;> omega) _))⟩
  have h1b : (r.qi r.phase == 0) = false := by simpa using h1
  by_cases h2 : (r.S (r.qs r.phase)).id = r.qi r.phase
  · rw [h2] at c2
    rcases h3 : (r.S (r.qs r.phase)).awake
    · have e1 : curF r = none := by unfold curF; rw [if_pos (Or.inr (Or.inr h3))]
      have E1 := hide e1
      rw [h3] at c5
      clear e1 h1 h2 h3
      go_enter Tryz.func28, Tryz.ntmps28
      go_wp2_with fail
      go_region
      go_wp2_with fail
      go_region
      go_wp2_with fail
      go_ret
      exact ⟨ret_i64 (by rw [E1.out]; rfl), by (repeat (first | exact Below.refl _ _ | refine Below.drew ?_ | refine below_drewN ?_ _ | refine Below.alloc ?_ (by simp <;> omega) _))⟩
    · have e1 : curF r = some (r.qs r.phase) := by unfold curF; rw [if_neg (by simp [h1, h2, h3])]
      have E1 := hide e1
      rw [h3] at c5
      clear e1 h1 h2 h3
      go_enter Tryz.func28, Tryz.ntmps28
      go_wp2_with fail
      go_region
      go_wp2_with fail
      go_region
      go_wp2_with fail
      go_ret
      exact ⟨ret_i64 (by rw [E1.out]; rfl), by (repeat (first | exact Below.refl _ _ | refine Below.drew ?_ | refine below_drewN ?_ _ | refine Below.alloc ?_ (by simp <;> omega) _))⟩
  · have e1 : curF r = none := by unfold curF; rw [if_pos (Or.inr (Or.inl h2))]
    have E1 := hide e1
    clear e1 h1
    go_enter Tryz.func28, Tryz.ntmps28
    go_wp2_with fail
    go_region
    go_wp2_with fail
    go_region
    go_wp2_with fail
    go_ret
    exact ⟨ret_i64 (by rw [E1.out]; rfl), by (repeat (first | exact Below.refl _ _ | refine Below.drew ?_ | refine below_drewN ?_ _ | refine Below.alloc ?_ (by simp <;> omega) _))⟩

theorem rtick_any (w : World) (b : Nat) (r : RSt) (hr : RK w b r) (hq : r.wq) :
    Calls Tryz.prog 19 #[.pointer (some ⟨b, 0, none⟩)] w fun e w' => e = .returned (.tuple #[]) ∧ RK w' b { r with phase := (r.phase + 1) % 8 } ∧ Fr (fun k => k = b) w w' := by
  have hlt := hr.lt
  have p0 := hr.phase
  have f0 := hr.frozen 336
  have hp8 : (r.phase : Int) < 8 := by have := hq.1; omega
  have H := hide hr
  clear hr hq
  go_enter Tryz.func19, Tryz.ntmps19
  go_wp2
  go_end0
  have e1 : ((r.phase : Int) + 1) % 8 = (((r.phase + 1) % 8 : Nat) : Int) := by omega
  rw [e1]
  exact ⟨rfl, H.out.putPhase _, Fr.own _ _ _ _⟩

end Go.Proofs.YtloppmepfkkblaaGreat
end

section
/- What the reference's 'Now' does. -/
open Go Go.Proofs Go.RowKit
namespace Go.Proofs.YtloppmepfkkblaaGreat

/-- What Now tells. -/
def nowF (r : RSt) : Value := match curF r with
  | none => nowV r.phase (-1) 0
  | some s => nowV r.phase s (r.S s).label

theorem curF_lt {r : RSt} (hq : r.wq) {s : Nat} (h : curF r = some s) : s < 32 := by
  unfold curF at h
  split at h
  · cases h
  · simp at h; rw [← h]; exact hq.2 _ hq.1

set_option maxHeartbeats 1000000 in
theorem rnow_any (w : World) (b : Nat) (r : RSt) (hr : RK w b r) (hq : r.wq) :
    Calls Tryz.prog 13 #[.pointer (some ⟨b, 0, none⟩)] w fun e w' => e = .returned (nowF r) ∧ Below w.heap.size w w' := by
  have hlt := hr.lt
  have HR := hide hr
  have HQ := hide hq
  clear hr hq
  rcases hc : curF r with _ | s
  · have e1 : nowF r = nowV r.phase (-1) 0 := by unfold nowF; rw [hc]
    have HC := hide hc
    have E1 := hide e1
    clear hc e1
    go_enter Tryz.func13, Tryz.ntmps13
    go_wp2_with fail
    refine (current_any _ _ _ (HR.out.alloc _) HQ.out).mono ?_
    rintro e w1 ⟨rfl, hb⟩
    rw [HC.out, oi]
    have hz : w.heap.size + 1 ≤ w1.heap.size := by have := hb.size; simp at this; omega
    have p0 := (HR.out.alloc _).below hb (by simp; omega) |>.phase
    have B1 := hide (Blk.below (Blk.new w _ _) hb (by simp))
    have x0 : w1.cell? ⟨w.heap.size, 0, none⟩ = some (.int .i64 0) := by rw [Blk.cell B1.out]; rfl
    have x1 : w1.cell? ⟨w.heap.size, 1, none⟩ = some (.int .i64 0) := by rw [Blk.cell B1.out]; rfl
    have x2 : w1.cell? ⟨w.heap.size, 2, none⟩ = some (.int .i64 0) := by rw [Blk.cell B1.out]; rfl
    have y0 := Blk.frozen B1.out 0
    have y1 := Blk.frozen B1.out 1
    have y2 := Blk.frozen B1.out 2
    have hb0 := Below.trans (((Below.refl w.heap.size w).alloc (Nat.le_refl _) _)) (hb.mono (by simp))
    have HB := hide hb0
    clear hb hb0
    go_wp2_with fail
    refine bodyPost_ret (v := .agg #[.int .i64 r.phase, .int .i64 (-1), .int .i64 0]) (by simp [results, Tryz.results13, go_sem, x0, x1, x2]) rfl ⟨by rw [E1.out]; rfl, ?_⟩
    exact ((HB.out.setCell (by simp) _).setCell (by simp) _).setCell (by simp) _
  · have hs := curF_lt HQ.out hc
    have hsi : (s : Int) < 32 := by omega
    have hs0 : ¬ (s : Int) < 0 := by omega
    have e1 : nowF r = nowV r.phase s (r.S s).label := by unfold nowF; rw [hc]
    have HC := hide hc
    have E1 := hide e1
    clear hc e1
    go_enter Tryz.func13, Tryz.ntmps13
    go_wp2_with fail
    refine (current_any _ _ _ (HR.out.alloc _) HQ.out).mono ?_
    rintro e w1 ⟨rfl, hb⟩
    rw [HC.out, oi]
    have hz : w.heap.size + 1 ≤ w1.heap.size := by have := hb.size; simp at this; omega
    have hr1 := (HR.out.alloc _).below hb (by simp; omega)
    have p0 := hr1.phase
    obtain ⟨-, c1, -⟩ := hr1.things hs
    clear hr1
    have B1 := hide (Blk.below (Blk.new w _ _) hb (by simp))
    have x0 : w1.cell? ⟨w.heap.size, 0, none⟩ = some (.int .i64 0) := by rw [Blk.cell B1.out]; rfl
    have x1 : w1.cell? ⟨w.heap.size, 1, none⟩ = some (.int .i64 0) := by rw [Blk.cell B1.out]; rfl
    have x2 : w1.cell? ⟨w.heap.size, 2, none⟩ = some (.int .i64 0) := by rw [Blk.cell B1.out]; rfl
    have y0 := Blk.frozen B1.out 0
    have y1 := Blk.frozen B1.out 1
    have y2 := Blk.frozen B1.out 2
    have hb0 := Below.trans (((Below.refl w.heap.size w).alloc (Nat.le_refl _) _)) (hb.mono (by simp))
    have HB := hide hb0
    clear hb hb0
    go_wp2_with fail
    go_region
    go_wp2_with fail
    refine bodyPost_ret (v := .agg #[.int .i64 r.phase, .int .i64 s, .int .i64 (r.S s).label]) (by simp [results, Tryz.results13, go_sem, x0, x1, x2]) rfl ⟨by rw [E1.out]; rfl, ?_⟩
    refine Below.drew ?_
    exact ((HB.out.setCell (by simp) _).setCell (by simp) _).setCell (by simp) _

end Go.Proofs.YtloppmepfkkblaaGreat
end

section
/- What the reference's 'first' does: the traps 1 to 6. -/
open Go Go.Proofs Go.RowKit
namespace Go.Proofs.YtloppmepfkkblaaGreat

theorem there_F (w : World) (ab b T O : Nat) (p : Nat × Int) (r : RSt) (s : Nat) (h : AK w ab b T O p r) (hs : s < 32) :
    Calls Tryz.prog 70 #[.pointer (some ⟨ab, 0, none⟩), .int .i64 s] w fun e' w' => e' = .returned (.tuple #[]) ∧ AK w' ab b T O (thereF r.S s p) r ∧ Fr (fun k => k = ab) w w' := there_any w ab b T O p r s h hs
theorem kind_F (w : World) (ab b T O : Nat) (p : Nat × Int) (r : RSt) (s : Nat) (k : Int) (h : AK w ab b T O p r) (hs : s < 32) :
    Calls Tryz.prog 75 #[.pointer (some ⟨ab, 0, none⟩), .int .i64 s, .int .i64 k] w fun e' w' => e' = .returned (.tuple #[]) ∧ AK w' ab b T O (kindF r.S s k p) r ∧ Fr (fun k => k = ab) w w' := kind_any w ab b T O p r s k h hs

theorem first_self (w : World) (ab me : Nat) (v : Value) :
    Calls Tryz.prog 41 #[.pointer (some ⟨ab, 0, none⟩), .int .i64 1, .int .i64 me, v] w fun e' w' => e' = .returned (.int .i64 me) ∧ w' = w := by
  go_enter Tryz.func41, Tryz.ntmps41
  go_wp2_with fail
  go_ret
  exact ⟨rfl, rfl⟩

set_option maxHeartbeats 1000000 in
theorem first_kind (n : Nat) (w : World) (ab b T O me lb lo cap : Nat) (p : Nat × Int) (r : RSt) (s : Nat) (h : AK w ab b T O p r) (hs : s < 32) (hd : deep r.S n s) (ha : Arg w lb lo [(s : Int)]) (hab : lb ≠ ab) :
    Calls Tryz.prog 41 #[.pointer (some ⟨ab, 0, none⟩), .int .i64 2, .int .i64 me, .slice (some ⟨lb, lo, none⟩) 1 cap] w fun e' w' => e' = .returned (.int .i64 (r.S s).kind) ∧ AK w' ab b T O (pathF r.S O T n s p) r ∧ Fr (fun k => k = ab) w w' := by
  have l0 := ha.c0
  have hsi : (s : Int) < 32 := by omega
  have H := hide h
  have HA := hide ha
  have HD := hide hd
  clear h ha hd
  go_enter Tryz.func41, Tryz.ntmps41
  go_wp2_with fail
  refine (path_any n _ _ _ _ _ _ _ _ H.out hs HD.out).mono ?_
  rintro e w1 ⟨rfl, h1, g1⟩
  have m0 := (HA.out.fr g1 hab).c0
  obtain ⟨a0, -⟩ := h1.ask.cells
  obtain ⟨k0, -⟩ := h1.rk.things hs
  have H1 := hide h1
  have G1 := hide g1
  clear h1 g1 l0
  go_wp2_with fail
  go_quiet (fail)
  go_wp2_with fail
  go_ret
  exact ⟨rfl, H1.out.fr ((Fr.refl _ _).drewN _), G1.out.drewN _⟩

set_option maxHeartbeats 1000000 in
theorem first_label (n : Nat) (w : World) (ab b T O me lb lo cap : Nat) (p : Nat × Int) (r : RSt) (s : Nat) (h : AK w ab b T O p r) (hs : s < 32) (hd : deep r.S n s) (ha : Arg w lb lo [(s : Int)]) (hab : lb ≠ ab) :
    Calls Tryz.prog 41 #[.pointer (some ⟨ab, 0, none⟩), .int .i64 3, .int .i64 me, .slice (some ⟨lb, lo, none⟩) 1 cap] w fun e' w' => e' = .returned (.int .i64 (r.S s).label) ∧
      AK w' ab b T O (thereF r.S s (pathF r.S O T n s p)) r ∧ Fr (fun k => k = ab) w w' := by
  have l0 := ha.c0
  have hsi : (s : Int) < 32 := by omega
  have H := hide h
  have HA := hide ha
  have HD := hide hd
  clear h ha hd
  go_enter Tryz.func41, Tryz.ntmps41
  go_wp2_with fail
  refine (path_any n _ _ _ _ _ _ _ _ H.out hs HD.out).mono ?_
  rintro e w1 ⟨rfl, h1, g1⟩
  have m0 := (HA.out.fr g1 hab).c0
  have H1 := hide h1
  have G1 := hide g1
  clear h1 g1 l0
  go_wp2_with fail
  refine (there_F _ _ _ _ _ _ _ _ H1.out hs).mono ?_
  rintro e w2 ⟨rfl, h2, g2⟩
  have o0 := (HA.out.fr (G1.out.trans g2) hab).c0
  obtain ⟨a0, -⟩ := h2.ask.cells
  obtain ⟨-, k1, -⟩ := h2.rk.things hs
  have H2 := hide h2
  have G2 := hide (G1.out.trans g2)
  clear h2 g2 m0
  go_wp2_with fail
  go_quiet (fail)
  go_wp2_with fail
  go_ret
  exact ⟨rfl, H2.out.fr ((Fr.refl _ _).drewN _), G2.out.drewN _⟩

/-- What Read asks. -/
def readF (S : Nat → Th) (O T n s : Nat) (p : Nat × Int) : Nat × Int := kindF S s 3 (chk O (S s).label T (thereF S s (pathF S O T n s p)))
/-- What Write asks. -/
def writeF (S : Nat → Th) (O T n s : Nat) (p : Nat × Int) : Nat × Int := kindF S s 3 (chk O T (S s).label (thereF S s (pathF S O T n s p)))


set_option maxHeartbeats 2000000 in
theorem first_read_no (n : Nat) (w : World) (ab b T O me lb lo cap : Nat) (p : Nat × Int) (r : RSt) (s : Nat) (i : Nat) (h : AK w ab b T O p r) (hs : s < 32) (hd : deep r.S n s) (ha : Arg w lb lo [(s : Int), (i : Int)]) (_hab : lb ≠ ab) (hp : (readF r.S O T n s p).2 ≠ 0) :
    Calls Tryz.prog 41 #[.pointer (some ⟨ab, 0, none⟩), .int .i64 5, .int .i64 me, .slice (some ⟨lb, lo, none⟩) 2 cap] w fun e' w' => e' = .returned (.int .i64 0) ∧
      AK w' ab b T O (readF r.S O T n s p) r ∧ Fr (fun k => k = ab) w w' := by
  have l0 := ha.c0
  have hsi : (s : Int) < 32 := by omega
  have H := hide h
  have HA := hide ha
  have HD := hide hd
  have HLS := hide (wf_label h.wf hs)
  clear h ha hd
  have hpb : ((readF r.S O T n s p).2 == 0) = false := by simpa using hp
  have HP := hide hp
  clear hp
  go_enter Tryz.func41, Tryz.ntmps41
  go_wp2_with fail
  refine (path_any n _ _ _ _ _ _ _ _ H.out hs HD.out).mono ?_
  rintro e w1 ⟨rfl, h1, g1⟩
  have H1 := hide h1
  have G1 := hide g1
  clear h1 g1 l0
  go_wp2_with fail
  refine (there_F _ _ _ _ _ _ _ _ H1.out hs).mono ?_
  rintro e w2 ⟨rfl, h2, g2⟩
  obtain ⟨a0, -⟩ := h2.ask.cells
  obtain ⟨-, k1, -⟩ := h2.rk.things hs
  have H2 := hide h2
  have G2 := hide (G1.out.trans g2)
  clear h2 g2
  go_wp2_with fail
  refine (read_any _ _ _ _ _ _ _ _ H2.out HLS.out).mono ?_
  rintro e w3 ⟨rfl, h3, g3⟩
  have H3 := hide h3
  have G3 := hide (G2.out.trans g3)
  clear h3 g3 a0 k1
  go_wp2_with fail
  refine (kind_F _ _ _ _ _ _ _ _ 3 H3.out hs).mono ?_
  rintro e w4 ⟨rfl, h4, g4⟩
  have H4 : Hid (AK w4 ab b T O (readF r.S O T n s p) r) := h4
  have G4 := hide (G3.out.trans g4)
  clear h4 g4
  obtain ⟨b0, b1, b2, b3, b4, -⟩ := H4.out.ask.cells
  go_wp2_with fail
  go_ret
  exact ⟨rfl, H4.out, G4.out⟩

set_option maxHeartbeats 2000000 in
theorem first_write_no (n : Nat) (w : World) (ab b T O me lb lo cap : Nat) (p : Nat × Int) (r : RSt) (s : Nat) (i : Nat) (v : Int) (h : AK w ab b T O p r) (hs : s < 32) (hd : deep r.S n s) (ha : Arg w lb lo [(s : Int), (i : Int), v]) (_hab : lb ≠ ab) (hp : (writeF r.S O T n s p).2 ≠ 0) :
    Calls Tryz.prog 41 #[.pointer (some ⟨ab, 0, none⟩), .int .i64 6, .int .i64 me, .slice (some ⟨lb, lo, none⟩) 3 cap] w fun e' w' => e' = .returned (.int .i64 0) ∧
      AK w' ab b T O (writeF r.S O T n s p) r ∧ Fr (fun k => k = ab) w w' := by
  have l0 := ha.c0
  have hsi : (s : Int) < 32 := by omega
  have H := hide h
  have HA := hide ha
  have HD := hide hd
  have HLS := hide (wf_label h.wf hs)
  clear h ha hd
  have hpb : ((writeF r.S O T n s p).2 == 0) = false := by simpa using hp
  have HP := hide hp
  clear hp
  go_enter Tryz.func41, Tryz.ntmps41
  go_wp2_with fail
  refine (path_any n _ _ _ _ _ _ _ _ H.out hs HD.out).mono ?_
  rintro e w1 ⟨rfl, h1, g1⟩
  have H1 := hide h1
  have G1 := hide g1
  clear h1 g1 l0
  go_wp2_with fail
  refine (there_F _ _ _ _ _ _ _ _ H1.out hs).mono ?_
  rintro e w2 ⟨rfl, h2, g2⟩
  obtain ⟨a0, -⟩ := h2.ask.cells
  obtain ⟨-, k1, -⟩ := h2.rk.things hs
  have H2 := hide h2
  have G2 := hide (G1.out.trans g2)
  clear h2 g2
  go_wp2_with fail
  refine (write_any _ _ _ _ _ _ _ _ H2.out HLS.out).mono ?_
  rintro e w3 ⟨rfl, h3, g3⟩
  have H3 := hide h3
  have G3 := hide (G2.out.trans g3)
  clear h3 g3 a0 k1
  go_wp2_with fail
  refine (kind_F _ _ _ _ _ _ _ _ 3 H3.out hs).mono ?_
  rintro e w4 ⟨rfl, h4, g4⟩
  have H4 : Hid (AK w4 ab b T O (writeF r.S O T n s p) r) := h4
  have G4 := hide (G3.out.trans g4)
  clear h4 g4
  obtain ⟨b0, b1, b2, b3, b4, -⟩ := H4.out.ask.cells
  go_wp2_with fail
  go_ret
  exact ⟨rfl, H4.out, G4.out⟩

end Go.Proofs.YtloppmepfkkblaaGreat
end

section
/- What the reference's 'first' does where nothing is wrong: Read, Write. -/
open Go Go.Proofs Go.RowKit
namespace Go.Proofs.YtloppmepfkkblaaGreat

theorem frozen_same {w w' : World} {b : Nat} (e : w'.heap[b]? = w.heap[b]?) (n : Nat) : w'.frozen? ⟨b, n, none⟩ = w.frozen? ⟨b, n, none⟩ := by
  simp only [World.frozen?, e]

set_option maxHeartbeats 2000000 in
theorem first_read_yes (n : Nat) (w : World) (ab b T O me lb lo cap : Nat) (p : Nat × Int) (r : RSt) (s : Nat) (i : Nat) (h : AK w ab b T O p r) (hs : s < 32) (hd : deep r.S n s) (ha : Arg w lb lo [(s : Int), (i : Int)]) (hab : lb ≠ ab) (g : Nat) (x : Int) (hg : (r.S s).Wa = some ⟨g, 0, none⟩) (hn : (r.S s).Wn = 8) (hgab : g ≠ ab) (hgl : g < w.heap.size) (hx : w.cell? ⟨g, i, none⟩ = some (.int .i64 x)) (hi : i < 8) (hp : (readF r.S O T n s p).2 = 0) :
    Calls Tryz.prog 41 #[.pointer (some ⟨ab, 0, none⟩), .int .i64 5, .int .i64 me, .slice (some ⟨lb, lo, none⟩) 2 cap] w fun e' w' => e' = .returned (.int .i64 x) ∧
      AK w' ab b T O (readF r.S O T n s p) r ∧ Fr (fun k => k = ab) w w' := by
  have l0 := ha.c0
  have hsi : (s : Int) < 32 := by omega
  have H := hide h
  have HA := hide ha
  have HD := hide hd
  have HLS := hide (wf_label h.wf hs)
  clear h ha hd
  have hii : (i : Int) < 8 := by omega
  have HG := hide hg
  have HN := hide hn
  have HX := hide hx
  clear hg hn hx
  have HP := hide hp
  clear hp
  go_enter Tryz.func41, Tryz.ntmps41
  go_wp2_with fail
  refine (path_any n _ _ _ _ _ _ _ _ H.out hs HD.out).mono ?_
  rintro e w1 ⟨rfl, h1, g1⟩
  have H1 := hide h1
  have G1 := hide g1
  clear h1 g1 l0
  go_wp2_with fail
  refine (there_F _ _ _ _ _ _ _ _ H1.out hs).mono ?_
  rintro e w2 ⟨rfl, h2, g2⟩
  obtain ⟨a0, -⟩ := h2.ask.cells
  obtain ⟨-, k1, -⟩ := h2.rk.things hs
  have H2 := hide h2
  have G2 := hide (G1.out.trans g2)
  clear h2 g2
  go_wp2_with fail
  refine (read_any _ _ _ _ _ _ _ _ H2.out HLS.out).mono ?_
  rintro e w3 ⟨rfl, h3, g3⟩
  have H3 := hide h3
  have G3 := hide (G2.out.trans g3)
  clear h3 g3 a0 k1
  go_wp2_with fail
  refine (kind_F _ _ _ _ _ _ _ _ 3 H3.out hs).mono ?_
  rintro e w4 ⟨rfl, h4, g4⟩
  have H4 : Hid (AK w4 ab b T O (readF r.S O T n s p) r) := h4
  have G4 := hide (G3.out.trans g4)
  clear h4 g4
  obtain ⟨b0, b1, b2, b3, b4, -⟩ := H4.out.ask.cells
  rw [HP.out] at b4
  obtain ⟨-, -, -, q3, -⟩ := H4.out.rk.things hs
  rw [HG.out, HN.out] at q3
  have y0 := HX.out
  rw [← cell_same (G4.out.block g hgl hgab)] at y0
  have l1 := (HA.out.fr G4.out hab).c1
  have l0 := (HA.out.fr G4.out hab).c0
  go_wp2_with fail
  go_quiet (fail)
  go_wp2_with fail
  go_ret
  exact ⟨rfl, H4.out.fr ((Fr.refl _ _).drewN _), G4.out.drewN _⟩

set_option maxHeartbeats 2000000 in
theorem first_write_yes (n : Nat) (w : World) (ab b T O me lb lo cap : Nat) (p : Nat × Int) (r : RSt) (s : Nat) (i : Nat) (v : Int) (h : AK w ab b T O p r) (hs : s < 32) (hd : deep r.S n s) (ha : Arg w lb lo [(s : Int), (i : Int), v]) (hab : lb ≠ ab) (g : Nat) (x : Int) (hg : (r.S s).Wa = some ⟨g, 0, none⟩) (hn : (r.S s).Wn = 8) (hgab : g ≠ ab) (_hgb : g ≠ b) (hgl : g < w.heap.size) (hx : w.cell? ⟨g, i, none⟩ = some (.int .i64 x)) (hfz : w.frozen? ⟨g, i, none⟩ = false) (hi : i < 8) (hp : (writeF r.S O T n s p).2 = 0) :
    Calls Tryz.prog 41 #[.pointer (some ⟨ab, 0, none⟩), .int .i64 6, .int .i64 me, .slice (some ⟨lb, lo, none⟩) 3 cap] w fun e' w' => e' = .returned (.int .i64 0) ∧
      ∃ w4, AK w4 ab b T O (writeF r.S O T n s p) r ∧ Fr (fun k => k = ab) w w4 ∧ w' = (w4.setCell ⟨g, i, none⟩ (.int .i64 v)).drew := by
  have l0 := ha.c0
  have hsi : (s : Int) < 32 := by omega
  have H := hide h
  have HA := hide ha
  have HD := hide hd
  have HLS := hide (wf_label h.wf hs)
  clear h ha hd
  have hii : (i : Int) < 8 := by omega
  have HG := hide hg
  have HN := hide hn
  have HX := hide hx
  have HZ := hide hfz
  clear hg hn hx hfz
  have HP := hide hp
  clear hp
  go_enter Tryz.func41, Tryz.ntmps41
  go_wp2_with fail
  refine (path_any n _ _ _ _ _ _ _ _ H.out hs HD.out).mono ?_
  rintro e w1 ⟨rfl, h1, g1⟩
  have H1 := hide h1
  have G1 := hide g1
  clear h1 g1 l0
  go_wp2_with fail
  refine (there_F _ _ _ _ _ _ _ _ H1.out hs).mono ?_
  rintro e w2 ⟨rfl, h2, g2⟩
  obtain ⟨a0, -⟩ := h2.ask.cells
  obtain ⟨-, k1, -⟩ := h2.rk.things hs
  have H2 := hide h2
  have G2 := hide (G1.out.trans g2)
  clear h2 g2
  go_wp2_with fail
  refine (write_any _ _ _ _ _ _ _ _ H2.out HLS.out).mono ?_
  rintro e w3 ⟨rfl, h3, g3⟩
  have H3 := hide h3
  have G3 := hide (G2.out.trans g3)
  clear h3 g3 a0 k1
  go_wp2_with fail
  refine (kind_F _ _ _ _ _ _ _ _ 3 H3.out hs).mono ?_
  rintro e w4 ⟨rfl, h4, g4⟩
  have H4 : Hid (AK w4 ab b T O (writeF r.S O T n s p) r) := h4
  have G4 := hide (G3.out.trans g4)
  clear h4 g4
  obtain ⟨b0, b1, b2, b3, b4, -⟩ := H4.out.ask.cells
  rw [HP.out] at b4
  obtain ⟨-, -, -, q3, -⟩ := H4.out.rk.things hs
  rw [HG.out, HN.out] at q3
  have y0 := HX.out
  rw [← cell_same (G4.out.block g hgl hgab)] at y0
  have y1 := HZ.out
  rw [← frozen_same (G4.out.block g hgl hgab)] at y1
  have l1 := (HA.out.fr G4.out hab).c1
  have l0 := (HA.out.fr G4.out hab).c0
  have l2 := (HA.out.fr G4.out hab).c2
  go_wp2_with fail
  go_region
  go_wp2_with fail
  go_ret
  exact ⟨rfl, w4, H4.out, G4.out, rfl⟩

end Go.Proofs.YtloppmepfkkblaaGreat
end

section
/- What the reference's 'first' does: NewSegment. -/
open Go Go.Proofs Go.RowKit
namespace Go.Proofs.YtloppmepfkkblaaGreat

theorem seg_wf {l : Nat} (hl : l < 256) (k i : Int) (a : Option Addr) (n c : Nat) : Th.wf ⟨k, l, i, a, n, c, 0, false, 0, 0, 0, 0⟩ := by
  refine ⟨?_, ?_, ?_, ?_, hl, ?_⟩ <;> simp

set_option maxHeartbeats 2000000 in
set_option maxRecDepth 100000 in
theorem first_new_no (n : Nat) (w : World) (ab b T O me lb lo cap : Nat) (p : Nat × Int) (r : RSt) (c s l : Nat) (h : AK w ab b T O p r) (hc : c < 32) (hs : s < 32) (hl : l < 256) (hd : deep r.S n c) (ha : Arg w lb lo [(c : Int), (s : Int), (l : Int)]) (hab : lb ≠ ab) (hp : (makingF r.S O T n c s l p).2 ≠ 0) :
    Calls Tryz.prog 41 #[.pointer (some ⟨ab, 0, none⟩), .int .i64 4, .int .i64 me, .slice (some ⟨lb, lo, none⟩) 3 cap] w fun e' w' => e' = .returned (.int .i64 0) ∧
      AK w' ab b T O (makingF r.S O T n c s l p) r ∧ Fr (fun k => k = ab) w w' := by
  have l0 := ha.c0
  have l1 := ha.c1
  have l2 := ha.c2
  have H := hide h
  have HA := hide ha
  have HD := hide hd
  have HP := hide hp
  clear h ha hd hp
  go_enter Tryz.func41, Tryz.ntmps41
  go_wp2_with fail
  go_still_tail 10, (by kernel_rfl)
  go_wp2_with fail
  refine (making_any _ _ _ _ _ _ _ n _ _ _ (H.out.fr ((Fr.refl _ _).drew)) hc hs hl HD.out).mono ?_
  rintro e w1 ⟨rfl, h1, g1⟩
  have H1 := hide h1
  have G1 : Hid (Fr (fun k => k = ab) w w1) := ((Fr.refl _ _).drew).trans g1
  have m1 := (HA.out.fr G1.out hab).c1
  have m2 := (HA.out.fr G1.out hab).c2
  have hlb := (HA.out.fr G1.out hab).lt
  clear h1 g1 l0 l1 l2
  have hmk : ∀ w, (Instr.makeSlice 32 (.int .i64 8) (.int .i64 8)).run Tryz.prog w = .ok (.slice (some ⟨w.heap.size, 0, none⟩) 8 8) (w.alloc (.cells #[.int .i64 0, .int .i64 0, .int .i64 0, .int .i64 0, .int .i64 0, .int .i64 0, .int .i64 0, .int .i64 0] 3)) := fun _ => by kernel_rfl
  go_wp2_with fail
  go_region_held3 (fun w' => w'.cell? ⟨lb, lo + 1, none⟩ = some (.int .i64 s) ∧ w'.cell? ⟨lb, lo + 2, none⟩ = some (.int .i64 l)) (go_keep)
    ((go_at_call 72; refine (put_not _ ab b T O (makingF r.S O T n c s l p) r s ⟨3, l, 0, some ⟨w1.heap.size, 0, none⟩, 8, 8, 0, false, 0, 0, 0, 0⟩ (H1.out.fr (by (repeat (first | exact Fr.refl _ _ | refine Fr.drew ?_ | refine Fr.drewN ?_ _ | refine Fr.alloc ?_ _)))) HP.out).mono ?_; rintro e w2 ⟨rfl, h2, g2⟩; have A2 := Arg.fr (Arg.fr (S := fun _ => False) (HA.out.fr G1.out hab) (by (repeat (first | exact Fr.refl _ _ | refine Fr.drew ?_ | refine Fr.drewN ?_ _ | refine Fr.alloc ?_ _))) id) g2 id; have m1' := A2.c1; have m2' := A2.c2; clear A2 m1 m2))
  go_wp2_with fail
  go_ret
  exact ⟨rfl, h2, (Fr.trans' G1.out (S' := fun _ => False) (by (repeat (first | exact Fr.refl _ _ | refine Fr.drew ?_ | refine Fr.drewN ?_ _ | refine Fr.alloc ?_ _))) (fun _ _ h => h.elim)).trans (g2.mono (fun _ _ h => h.elim))⟩

set_option maxHeartbeats 2000000 in
set_option maxRecDepth 100000 in
theorem first_new_yes (n : Nat) (w : World) (ab b T O me lb lo cap : Nat) (p : Nat × Int) (r : RSt) (c s l : Nat) (h : AK w ab b T O p r) (hc : c < 32) (hs : s < 32) (hl : l < 256) (hd : deep r.S n c) (ha : Arg w lb lo [(c : Int), (s : Int), (l : Int)]) (hab : lb ≠ ab) (hlb' : lb ≠ b) (u : Nat) (hp : makingF r.S O T n c s l p = (u, 0)) (hm : 0 ≤ r.made) (hm2 : r.made < 4611686018427387904) :
    Calls Tryz.prog 41 #[.pointer (some ⟨ab, 0, none⟩), .int .i64 4, .int .i64 me, .slice (some ⟨lb, lo, none⟩) 3 cap] w fun e' w' => e' = .returned (.int .i64 0) ∧
      ∃ g, w.heap.size ≤ g ∧ AK w' ab b T O (u, 0) ((r.mk1 (r.made + 1)).put s ⟨3, l, r.made + 1, some ⟨g, 0, none⟩, 8, 8, 0, false, 0, 0, 0, 0⟩) ∧
        Blk w' g #[.int .i64 0, .int .i64 0, .int .i64 0, .int .i64 0, .int .i64 0, .int .i64 0, .int .i64 0, .int .i64 0] ∧ Fr (fun k => k = ab ∨ k = b) w w' := by
  have l0 := ha.c0
  have l1 := ha.c1
  have l2 := ha.c2
  have H := hide h
  have HA := hide ha
  have HD := hide hd
  have HP := hide hp
  clear h ha hd hp
  go_enter Tryz.func41, Tryz.ntmps41
  go_wp2_with fail
  go_still_tail 10, (by kernel_rfl)
  go_wp2_with fail
  refine (making_any _ _ _ _ _ _ _ n _ _ _ (H.out.fr ((Fr.refl _ _).drew)) hc hs hl HD.out).mono ?_
  rintro e w1 ⟨rfl, h1, g1⟩
  rw [HP.out] at h1
  have H1 := hide h1
  have G1 : Hid (Fr (fun k => k = ab) w w1) := ((Fr.refl _ _).drew).trans g1
  have m1 := (HA.out.fr G1.out hab).c1
  have m2 := (HA.out.fr G1.out hab).c2
  have hlb := (HA.out.fr G1.out hab).lt
  clear h1 g1 l0 l1 l2
  have hmk : ∀ w, (Instr.makeSlice 32 (.int .i64 8) (.int .i64 8)).run Tryz.prog w = .ok (.slice (some ⟨w.heap.size, 0, none⟩) 8 8) (w.alloc (.cells #[.int .i64 0, .int .i64 0, .int .i64 0, .int .i64 0, .int .i64 0, .int .i64 0, .int .i64 0, .int .i64 0] 3)) := fun _ => by kernel_rfl
  go_wp2_with fail
  go_region_held3 (fun w' => w'.cell? ⟨lb, lo + 1, none⟩ = some (.int .i64 s) ∧ w'.cell? ⟨lb, lo + 2, none⟩ = some (.int .i64 l)) (go_keep)
    ((go_at_call 72; refine (put_any _ ab b T O u r s ⟨3, l, 0, some ⟨w1.heap.size, 0, none⟩, 8, 8, 0, false, 0, 0, 0, 0⟩ (H1.out.fr (by (repeat (first | exact Fr.refl _ _ | refine Fr.drew ?_ | refine Fr.drewN ?_ _ | refine Fr.alloc ?_ _)))) hs (seg_wf hl _ _ _ _ _) hm hm2).mono ?_; rintro e w2 ⟨rfl, h2, g2⟩; have A2 := Arg.fr (Arg.fr (S := fun _ => False) (HA.out.fr G1.out hab) (by (repeat (first | exact Fr.refl _ _ | refine Fr.drew ?_ | refine Fr.drewN ?_ _ | refine Fr.alloc ?_ _))) id) g2 hlb'; have m1' := A2.c1; have m2' := A2.c2; clear A2 m1 m2))
  go_wp2_with fail
  go_ret
  have hbw := H1.out.rk.lt
  have F2 : Fr (fun k => k = ab ∨ k = b) w w1 := G1.out.mono (fun _ _ h => Or.inl h)
  exact ⟨rfl, w1.heap.size, G1.out.size, h2, Blk.fr ((Blk.new w1 _ _).drew) g2 (by omega), (Fr.trans' F2 (S' := fun _ => False) (by (repeat (first | exact Fr.refl _ _ | refine Fr.drew ?_ | refine Fr.drewN ?_ _ | refine Fr.alloc ?_ _))) (fun _ _ h => h.elim)).trans (g2.mono (fun _ _ h => Or.inr h))⟩

end Go.Proofs.YtloppmepfkkblaaGreat
end

section
/- What the reference's 'Trap' does: what is wrong ahead of the trap itself. -/
open Go Go.Proofs Go.RowKit
namespace Go.Proofs.YtloppmepfkkblaaGreat

set_option maxHeartbeats 1000000 in
theorem rtrap_idle (w : World) (b : Nat) (r : RSt) (n : Int) (l : Value) (hr : RK w b r) (hq : r.wq) (hc : curF r = none) :
    Calls Tryz.prog 30 #[.pointer (some ⟨b, 0, none⟩), .int .i64 n, l] w fun e w' => e = .returned (outV 1 0 0) ∧ Below w.heap.size w w' := by
  have hlt := hr.lt
  have HR := hide hr
  have HQ := hide hq
  have HC := hide hc
  clear hr hq hc
  go_enter Tryz.func30, Tryz.ntmps30
  go_wp2_with fail
  refine (current_any _ _ _ (HR.out.alloc _) HQ.out).mono ?_
  rintro e w1 ⟨rfl, hb⟩
  rw [HC.out, oi]
  have B1 := hide (Blk.zero3 hb)
  have HB := hide (Below.first hb)
  have x0 : w1.cell? ⟨w.heap.size, 0, none⟩ = some (.int .i64 0) := by rw [Blk.cell B1.out]; rfl
  have x1 : w1.cell? ⟨w.heap.size, 1, none⟩ = some (.int .i64 0) := by rw [Blk.cell B1.out]; rfl
  have x2 : w1.cell? ⟨w.heap.size, 2, none⟩ = some (.int .i64 0) := by rw [Blk.cell B1.out]; rfl
  have y0 := Blk.frozen B1.out 0
  have y1 := Blk.frozen B1.out 1
  have y2 := Blk.frozen B1.out 2
  clear hb
  go_wp2_with fail
  refine bodyPost_ret (v := .agg #[.int .i64 1, .int .i64 0, .int .i64 0]) (by simp [results, Tryz.results30, go_sem, x0, x1, x2]) rfl ⟨rfl, ?_⟩
  exact ((HB.out.setCell (by simp) _).setCell (by simp) _).setCell (by simp) _

set_option maxHeartbeats 1000000 in
theorem rtrap_bad (w : World) (b : Nat) (r : RSt) (n : Int) (la : Option Addr) (ln cap : Nat) (s : Nat) (hr : RK w b r) (hq : r.wq) (hc : curF r = some s) (hn : n < 1 ∨ 17 ≤ n ∨ (shapeL n).length ≠ ln) :
    Calls Tryz.prog 30 #[.pointer (some ⟨b, 0, none⟩), .int .i64 n, .slice la ln cap] w fun e w' => e = .returned (outV 2 0 0) ∧ Below w.heap.size w w' := by
  have hlt := hr.lt
  have HR := hide hr
  have HQ := hide hq
  have HC := hide hc
  have hs0 : ¬ (s : Int) < 0 := by omega
  have HN := hide hn
  clear hr hq hc hn
  go_enter Tryz.func30, Tryz.ntmps30
  go_wp2_with fail
  refine (current_any _ _ _ (HR.out.alloc _) HQ.out).mono ?_
  rintro e w1 ⟨rfl, hb⟩
  rw [HC.out, oi]
  have B1 := hide (Blk.zero3 hb)
  have HB := hide (Below.first hb)
  have hz1 : w.heap.size + 1 ≤ w1.heap.size := by have := hb.size; simp at this; omega
  clear hb
  go_wp2_with fail
  by_cases hv : n < 1 ∨ 17 ≤ n
  · refine (shape_not _ _ hv).mono ?_
    rintro e w2 ⟨rfl, hb2⟩
    have B2 := hide (Blk.below B1.out hb2 (by omega))
    have HB2 := hide (HB.out.trans (hb2.mono (by omega)))
    have x0 : w2.cell? ⟨w.heap.size, 0, none⟩ = some (.int .i64 0) := by rw [Blk.cell B2.out]; rfl
    have x1 : w2.cell? ⟨w.heap.size, 1, none⟩ = some (.int .i64 0) := by rw [Blk.cell B2.out]; rfl
    have x2 : w2.cell? ⟨w.heap.size, 2, none⟩ = some (.int .i64 0) := by rw [Blk.cell B2.out]; rfl
    have y0 := Blk.frozen B2.out 0
    have y1 := Blk.frozen B2.out 1
    have y2 := Blk.frozen B2.out 2
    clear hb2
    go_wp2_with fail
    refine bodyPost_ret (v := .agg #[.int .i64 2, .int .i64 0, .int .i64 0]) (by simp [results, Tryz.results30, go_sem, x0, x1, x2]) rfl ⟨rfl, ?_⟩
    exact ((HB2.out.setCell (by simp) _).setCell (by simp) _).setCell (by simp) _
  · have hne : (shapeL n).length ≠ ln := by rcases HN.out with h | h | h <;> first | exact h | omega
    refine (shape_yes _ _ (by omega) (by omega)).mono ?_
    rintro e w2 ⟨rfl, hb2⟩
    have B2 := hide (Blk.below B1.out hb2 (by omega))
    have HB2 := hide (HB.out.trans (hb2.mono (by omega)))
    have x0 : w2.cell? ⟨w.heap.size, 0, none⟩ = some (.int .i64 0) := by rw [Blk.cell B2.out]; rfl
    have x1 : w2.cell? ⟨w.heap.size, 1, none⟩ = some (.int .i64 0) := by rw [Blk.cell B2.out]; rfl
    have x2 : w2.cell? ⟨w.heap.size, 2, none⟩ = some (.int .i64 0) := by rw [Blk.cell B2.out]; rfl
    have y0 := Blk.frozen B2.out 0
    have y1 := Blk.frozen B2.out 1
    have y2 := Blk.frozen B2.out 2
    clear hb2 hv
    generalize shapeL n = L at *
    go_wp2_with fail
    refine bodyPost_ret (v := .agg #[.int .i64 2, .int .i64 0, .int .i64 0]) (by simp [results, Tryz.results30, go_sem, x0, x1, x2]) rfl ⟨rfl, ?_⟩
    exact ((HB2.out.setCell (by simp) _).setCell (by simp) _).setCell (by simp) _

set_option maxHeartbeats 1000000 in
theorem rtrap_arg (w : World) (b : Nat) (r : RSt) (n : Int) (la : Option Addr) (ln cap : Nat) (s : Nat) (hr : RK w b r) (hq : r.wq) (hc : curF r = some s) (h1 : 1 ≤ n) (h2 : n < 17) (hln : (shapeL n).length = ln)
    (hmay : ∀ w2, Below w.heap.size w w2 → Calls Tryz.prog 40 #[.string ⟨(shapeL n).toArray⟩, .slice la ln cap] w2 fun e w' => e = .returned (.bool false) ∧ ∃ m, w' = w2.drewN m) :
    Calls Tryz.prog 30 #[.pointer (some ⟨b, 0, none⟩), .int .i64 n, .slice la ln cap] w fun e w' => e = .returned (outV 3 0 0) ∧ Below w.heap.size w w' := by
  have HMAY := hide hmay
  clear hmay
  have hlt := hr.lt
  have HR := hide hr
  have HQ := hide hq
  have HC := hide hc
  have hs0 : ¬ (s : Int) < 0 := by omega
  have HLN := hide hln
  clear hr hq hc hln
  go_enter Tryz.func30, Tryz.ntmps30
  go_wp2_with fail
  refine (current_any _ _ _ (HR.out.alloc _) HQ.out).mono ?_
  rintro e w1 ⟨rfl, hb⟩
  rw [HC.out, oi]
  have B1 := hide (Blk.zero3 hb)
  have HB := hide (Below.first hb)
  have hz1 : w.heap.size + 1 ≤ w1.heap.size := by have := hb.size; simp at this; omega
  have HR1 := hide ((HR.out.alloc _).below hb (by simp; omega))
  clear hb
  go_wp2_with fail
  refine (shape_yes _ _ h1 h2).mono ?_
  rintro e w2 ⟨rfl, hb2⟩
  have B2 := hide (Blk.below B1.out hb2 (by omega))
  have HB2 := hide (HB.out.trans (hb2.mono (by omega)))
  have HR2 := hide (HR1.out.below hb2 (by have := HR1.out.lt; omega))
  have hz2 : w.heap.size + 1 ≤ w2.heap.size := by have := hb2.size; omega
  clear hb2 B1 HB HR1
  generalize hL : shapeL n = L at *
  have HL := hide hL
  clear hL
  have hll : L.length = ln := HLN.out
  clear HLN
  go_wp2_with fail
  refine (HMAY.out _ HB2.out).mono ?_
  rintro e w3 ⟨rfl, m, rfl⟩
  have x0 : (w2.drewN m).cell? ⟨w.heap.size, 0, none⟩ = some (.int .i64 0) := by rw [Blk.cell (B2.out.drewN m)]; rfl
  have x1 : (w2.drewN m).cell? ⟨w.heap.size, 1, none⟩ = some (.int .i64 0) := by rw [Blk.cell (B2.out.drewN m)]; rfl
  have x2 : (w2.drewN m).cell? ⟨w.heap.size, 2, none⟩ = some (.int .i64 0) := by rw [Blk.cell (B2.out.drewN m)]; rfl
  have y0 := Blk.frozen (B2.out.drewN m) 0
  have y1 := Blk.frozen (B2.out.drewN m) 1
  have y2 := Blk.frozen (B2.out.drewN m) 2
  have HB3 := hide (below_drewN HB2.out m)
  generalize w2.drewN m = w3 at *
  go_wp2_with fail
  refine bodyPost_ret (v := .agg #[.int .i64 3, .int .i64 0, .int .i64 0]) (by simp [results, Tryz.results30, go_sem, x0, x1, x2]) rfl ⟨rfl, ?_⟩
  exact ((HB3.out.setCell (by simp) _).setCell (by simp) _).setCell (by simp) _

set_option maxHeartbeats 2000000 in
theorem rtrap_first (w : World) (b : Nat) (r : RSt) (n : Int) (la : Option Addr) (ln cap : Nat) (s : Nat) (F : Nat → Prop) (R : World → Int → Nat × Int → Prop) (hr : RK w b r) (hq : r.wq) (hwf : r.wf) (hc : curF r = some s) (h1 : 1 ≤ n) (h6 : n ≤ 6) (h2 : n < 17) (hln : (shapeL n).length = ln)
    (hmay : ∀ w2, Below w.heap.size w w2 → Calls Tryz.prog 40 #[.string ⟨(shapeL n).toArray⟩, .slice la ln cap] w2 fun e w' => e = .returned (.bool true) ∧ ∃ m, w' = w2.drewN m)
    (hin : ∀ w1 ab, AK w1 ab b (r.S s).label (r.S s).owns (0, 0) r → Below w.heap.size w w1 → w.heap.size < ab → Calls Tryz.prog 41 #[.pointer (some ⟨ab, 0, none⟩), .int .i64 n, .int .i64 s, .slice la ln cap] w1 fun e w' =>
      ∃ v p, e = .returned (.int .i64 v) ∧ AskAt w' ab b (r.S s).label (r.S s).owns p ∧ R w' v p ∧ Fr (fun k => k = ab ∨ F k) w1 w')
    (hF : ¬ F w.heap.size)
    (hst : ∀ w' w'' v p, R w' v p → Fr (fun k => k = w.heap.size) w' w'' → R w'' v p) :
    Calls Tryz.prog 30 #[.pointer (some ⟨b, 0, none⟩), .int .i64 n, .slice la ln cap] w fun e w' => ∃ v p, e = .returned (outV p.2 (if p.2 = 0 then v else 0) p.1) ∧ R w' v p ∧ Fr F w w' := by
  have HMAY := hide hmay
  have HIN := hide hin
  have HST := hide hst
  have HWF := hide hwf
  have HF := hide hF
  have hs := curF_lt hq hc
  have hsi : (s : Int) < 32 := by omega
  clear hmay hin hst hwf hF
  have hlt := hr.lt
  have HR := hide hr
  have HQ := hide hq
  have HC := hide hc
  have hs0 : ¬ (s : Int) < 0 := by omega
  have HLN := hide hln
  clear hr hq hc hln
  go_enter Tryz.func30, Tryz.ntmps30
  go_wp2_with fail
  refine (current_any _ _ _ (HR.out.alloc _) HQ.out).mono ?_
  rintro e w1 ⟨rfl, hb⟩
  rw [HC.out, oi]
  have B1 := hide (Blk.zero3 hb)
  have HB := hide (Below.first hb)
  have hz1 : w.heap.size + 1 ≤ w1.heap.size := by have := hb.size; simp at this; omega
  have HR1 := hide ((HR.out.alloc _).below hb (by simp; omega))
  clear hb
  go_wp2_with fail
  refine (shape_yes _ _ h1 h2).mono ?_
  rintro e w2 ⟨rfl, hb2⟩
  have B2 := hide (Blk.below B1.out hb2 (by omega))
  have HB2 := hide (HB.out.trans (hb2.mono (by omega)))
  have HR2 := hide (HR1.out.below hb2 (by have := HR1.out.lt; omega))
  have hz2 : w.heap.size + 1 ≤ w2.heap.size := by have := hb2.size; omega
  clear hb2 B1 HB HR1
  generalize hL : shapeL n = L at *
  have HL := hide hL
  clear hL
  have hll : L.length = ln := HLN.out
  clear HLN
  go_wp2_with fail
  refine (HMAY.out _ HB2.out).mono ?_
  rintro e w3 ⟨rfl, m, rfl⟩
  have B3 := hide (B2.out.drewN m)
  have HB3 := hide (below_drewN HB2.out m)
  have HR3 := hide (HR2.out.drewN m)
  have hz3 : w.heap.size + 1 ≤ (w2.drewN m).heap.size := hz2
  generalize w2.drewN m = w3 at *
  clear B2 HB2 HR2 hz2
  obtain ⟨-, k1, -, -, k4, -⟩ := HR3.out.things hs
  go_wp2_with fail
  go_region
  go_wp2_with fail
  have A3 : AK ((w3.alloc (.cells #[.pointer (some ⟨b, 0, none⟩), .int .i64 (r.S s).label, .int .i64 (r.S s).owns, .int .i64 0, .int .i64 0] 108)).drew) w3.heap.size b (r.S s).label (r.S s).owns (0, 0) r := ⟨(Blk.new w3 _ _).drew, (HR3.out.alloc _).drew, by have := HR3.out.lt; omega, wf_label HWF.out hs, (HWF.out s hs).2.2.2.2.2, by simp, HWF.out⟩
  refine (HIN.out _ _ A3 (by have := HB3.out.size; exact ((HB3.out.alloc this _).drew)) (by omega)).mono ?_
  rintro e w4 ⟨v, p, rfl, a4, r4, f4⟩
  have B4 : Blk w4 w.heap.size _ := Blk.fr ((B3.out.alloc _).drew) f4 (by rintro (h | h); omega; exact HF.out h)
  have x0 : w4.cell? ⟨w.heap.size, 0, none⟩ = some (.int .i64 0) := by rw [Blk.cell B4]; rfl
  have x1 : w4.cell? ⟨w.heap.size, 1, none⟩ = some (.int .i64 0) := by rw [Blk.cell B4]; rfl
  have x2 : w4.cell? ⟨w.heap.size, 2, none⟩ = some (.int .i64 0) := by rw [Blk.cell B4]; rfl
  have y0 := Blk.frozen B4 0
  have y1 := Blk.frozen B4 1
  have y2 := Blk.frozen B4 2
  obtain ⟨q0, q1, q2, q3, q4, -⟩ := AskAt.cells a4
  have hne : ¬ w3.heap.size = w.heap.size := by omega
  have F0 : Fr F w w4 := Fr.trans' (S' := fun k => k = w3.heap.size ∨ F k) (Fr.of_below ((HB3.out.alloc HB3.out.size _).drew)) f4 (by rintro i hi (h | h); have := HB3.out.size; omega; exact h)
  have R4 := hide r4
  have F4 := hide F0
  clear a4 r4 f4 F0 B4 A3
  by_cases hp : p.2 = 0
  · rw [hp] at q4
    go_wp2_with fail
    go_region
    go_wp2_with fail
    refine bodyPost_ret (v := .agg #[.int .i64 0, .int .i64 v, .int .i64 p.1]) (by simp [results, Tryz.results30, go_sem, x0, x1, x2]) rfl ⟨v, p, by rw [hp]; rfl, ?_, ?_⟩
    · exact HST.out _ _ _ _ R4.out ((((Fr.own _ _ _ _).trans (Fr.own _ _ _ _)).trans (Fr.own _ _ _ _)).drew)
    · exact (((F4.out.setCell (Or.inr (Nat.le_refl _)) _).setCell (Or.inr (Nat.le_refl _)) _).setCell (Or.inr (Nat.le_refl _)) _).drew
  · go_wp2_with fail
    go_region
    go_wp2_with fail
    refine bodyPost_ret (v := .agg #[.int .i64 p.2, .int .i64 0, .int .i64 p.1]) (by simp [results, Tryz.results30, go_sem, x0, x1, x2]) rfl ⟨v, p, by rw [if_neg hp]; rfl, ?_, ?_⟩
    · exact HST.out _ _ _ _ R4.out ((((Fr.own _ _ _ _).trans (Fr.own _ _ _ _)).trans (Fr.own _ _ _ _)).drew)
    · exact (((F4.out.setCell (Or.inr (Nat.le_refl _)) _).setCell (Or.inr (Nat.le_refl _)) _).setCell (Or.inr (Nat.le_refl _)) _).drew

end Go.Proofs.YtloppmepfkkblaaGreat
end

section
/- What the law's 'pair.trap' does, by what the two kernels' traps do. -/
open Go Go.Proofs Go.RowKit
namespace Go.Proofs.YtloppmepfkkblaaGreat

set_option maxHeartbeats 2000000 in
/-- No arguments at all. -/
theorem pairtrap_nil (w : World) (pb kb b : Nat) (n E V : Int) (U : Nat) (FX FY : Nat → Prop) (RX RY : Nat → World → Prop) (hp : Blk w pb #[.pointer (some ⟨kb, 0, none⟩), .pointer (some ⟨b, 0, none⟩)])
    (hX : Calls Tryz.prog 17 #[.pointer (some ⟨kb, 0, none⟩), .int .i64 n, .slice none 0 0] w fun e w' => e = .returned (outV E V U) ∧ RX w.heap.size w' ∧ Fr FX w w')
    (hY : ∀ w2, RX w.heap.size w2 → Fr FX w w2 → Calls Tryz.prog 30 #[.pointer (some ⟨b, 0, none⟩), .int .i64 n, .slice none 0 0] w2 fun e w' => e = .returned (outV E V U) ∧ RY w.heap.size w' ∧ Fr FY w2 w')
    (hXs : ∀ w' w'', RX w.heap.size w' → Below w'.heap.size w' w'' → RX w.heap.size w'') (hYs : ∀ w' w'', RY w.heap.size w' → Below w'.heap.size w' w'' → RY w.heap.size w'')
    (hFX : ¬ FX pb) (hFY : ∀ k, FY k → k < w.heap.size → FX k ∨ FY k) (hFY2 : ∀ k, w.heap.size ≤ k → FY k → False) :
    Calls Tryz.prog 14 #[.pointer (some ⟨pb, 0, none⟩), .int .i64 n, .slice none 0 0] w fun e w' => e = .returned (.bool true) ∧ RY w.heap.size w' ∧ Fr (fun k => FX k ∨ FY k) w w' := by
  have p0 : w.cell? ⟨pb, 0, none⟩ = some (.pointer (some ⟨kb, 0, none⟩)) := by rw [hp.cell]; rfl
  have HP := hide hp
  have HX := hide hX
  have HY := hide hY
  have HXs := hide hXs
  have HYs := hide hYs
  clear hX hY hXs hYs hp
  go_enter Tryz.func14, Tryz.ntmps14
  go_wp2_with fail
  refine (roomy_nil _).mono ?_
  rintro e w1 ⟨rfl, hw⟩
  rw [hw]
  clear hw w1
  go_wp2_with fail
  refine HX.out.mono ?_
  rintro e w2 ⟨rfl, r2, f2⟩
  have p1 : w2.cell? ⟨pb, 1, none⟩ = some (.pointer (some ⟨b, 0, none⟩)) := by rw [(Blk.fr HP.out f2 hFX).cell]; rfl
  have hpb2 : pb < w2.heap.size := (Blk.fr HP.out f2 hFX).lt
  have R2 := hide r2
  have F2 := hide f2
  clear r2 f2 p0
  simp only [outV]
  go_wp2_with fail
  have R2a := hide (HXs.out _ _ R2.out ((Below.refl _ _).alloc (Nat.le_refl _) (.cells #[.int .i64 E, .int .i64 V, .int .i64 U] 50)))
  have F2a := hide (F2.out.alloc (.cells #[.int .i64 E, .int .i64 V, .int .i64 U] 50))
  have BA := hide (Blk.new w2 #[.int .i64 E, .int .i64 V, .int .i64 U] 50)
  refine (HY.out _ R2a.out F2a.out).mono ?_
  rintro e w3 ⟨rfl, r3, f3⟩
  have hz2 := F2.out.size
  have BA3 := hide (Blk.fr BA.out f3 (fun h => hFY2 _ (by omega) h))
  have a0 : w3.cell? ⟨w2.heap.size, 0, none⟩ = some (.int .i64 E) := by rw [BA3.out.cell]; rfl
  have a1 : w3.cell? ⟨w2.heap.size, 1, none⟩ = some (.int .i64 V) := by rw [BA3.out.cell]; rfl
  have a2 : w3.cell? ⟨w2.heap.size, 2, none⟩ = some (.int .i64 U) := by rw [BA3.out.cell]; rfl
  have hlt3 := BA3.out.lt
  have R3 := hide (HYs.out _ _ r3 ((Below.refl _ _).alloc (Nat.le_refl _) (.cells #[.int .i64 E, .int .i64 V, .int .i64 U] 50)))
  have F3 : Hid (Fr (fun k => FX k ∨ FY k) w (w3.alloc (.cells #[.int .i64 E, .int .i64 V, .int .i64 U] 50))) :=
    (Fr.trans' (S := fun k => FX k ∨ FY k) (F2a.out.mono (fun _ _ h => Or.inl h)) f3 (fun k hk h => hFY k h hk)).alloc _
  clear r3 f3 p1
  simp only [outV]
  go_wp2_with fail
  refine (kept_nil _).mono ?_
  rintro e w4 ⟨rfl, hw⟩
  rw [hw]
  clear hw w4
  go_wp2_with fail
  refine wp_loop_rounds 1 ?_
  rw [rounds_succ]
  go_wp2_with fail
  go_ret
  exact ⟨rfl, R3.out, F3.out⟩

theorem Row.fr {S : Nat → Prop} {w w' : World} {g : Nat} {xs : List Int} (h : Row w g xs) (f : Fr S w w') (hs : ¬ S g) : Row w' g xs := by
  obtain ⟨cs, h1, h2⟩ := h.blk
  exact ⟨cs, h1.fr f hs, h2⟩
theorem Row.lt {w : World} {g : Nat} {xs : List Int} (h : Row w g xs) : g < w.heap.size := by
  obtain ⟨cs, h1, h2⟩ := h.blk
  exact h1.lt

set_option maxHeartbeats 4000000 in
/-- With arguments, or an empty list of them. -/
theorem pairtrap_some (w : World) (pb kb b : Nat) (n E V : Int) (U : Nat) (la : Addr) (cap : Nat) (xs : List Int) (FX FY : Nat → Prop) (RX RY : Nat → World → Prop) (hm : xs.length ≤ 17592186043904) (hp : Blk w pb #[.pointer (some ⟨kb, 0, none⟩), .pointer (some ⟨b, 0, none⟩)])
    (hl : xs = [] ∨ ∃ lb lo, la = ⟨lb, lo, none⟩ ∧ Arg w lb lo xs ∧ ¬ FX lb ∧ ¬ FY lb)
    (hX : ∀ w1 g c, Below w.heap.size w w1 → w.heap.size ≤ g → Row w1 g (padded xs) → Calls Tryz.prog 17 #[.pointer (some ⟨kb, 0, none⟩), .int .i64 n, .slice (some ⟨g, 0, none⟩) xs.length c] w1 fun e w' => e = .returned (outV E V U) ∧ RX w1.heap.size w' ∧ Fr FX w1 w')
    (hY : ∀ w1 w2, Below w.heap.size w w1 → RX w1.heap.size w2 → Fr FX w1 w2 → Calls Tryz.prog 30 #[.pointer (some ⟨b, 0, none⟩), .int .i64 n, .slice (some la) xs.length cap] w2 fun e w' => e = .returned (outV E V U) ∧ RY w1.heap.size w' ∧ Fr FY w2 w')
    (hXs : ∀ m w' w'', RX m w' → Below w'.heap.size w' w'' → RX m w'') (hYs : ∀ m w' w'' g, w.heap.size ≤ g → g < m → RY m w' → Fr (fun k => k = g) w' w'' → RY m w'')
    (hpb : pb < w.heap.size) (hFX : ¬ FX pb) (hFX2 : ∀ k, w.heap.size ≤ k → FX k → False) (hFY2 : ∀ k, w.heap.size ≤ k → FY k → False) :
    Calls Tryz.prog 14 #[.pointer (some ⟨pb, 0, none⟩), .int .i64 n, .slice (some la) xs.length cap] w fun e w' => e = .returned (.bool true) ∧ (∃ m, w.heap.size ≤ m ∧ RY m w') ∧ Fr (fun k => FX k ∨ FY k) w w' := by
  have HP := hide hp
  have HX := hide hX
  have HY := hide hY
  have HXs := hide hXs
  have HYs := hide hYs
  have HL := hide hl
  have RO : Calls Tryz.prog 29 #[.slice (some la) xs.length cap] w fun e w' => ∃ g c, e = .returned (.slice (some ⟨g, 0, none⟩) xs.length c) ∧ xs.length + 8 ≤ c ∧ w.heap.size ≤ g ∧ Row w' g (padded xs) ∧ Below w.heap.size w w' := by
    by_cases e : xs = []
    · subst e; exact roomy_empty w la cap
    · rcases hl with h | ⟨lb, lo, rfl, ha, _, _⟩
      · exact absurd h e
      · exact roomy_any w lb lo cap xs (List.length_pos_iff.2 e) hm ha
  have HRO := hide RO
  clear hX hY hXs hYs hp RO hl
  go_enter Tryz.func14, Tryz.ntmps14
  go_wp2_with fail
  refine HRO.out.mono ?_
  rintro e w1 ⟨g, c, rfl, hc, hg, hrow, hb1⟩
  have hp1 := HP.out.below hb1 hpb
  have p0 : w1.cell? ⟨pb, 0, none⟩ = some (.pointer (some ⟨kb, 0, none⟩)) := by rw [hp1.cell]; rfl
  have HP1 := hide hp1
  have HROW := hide hrow
  have HB1 := hide hb1
  have hg1 := hrow.lt
  have hsz1 := hb1.size
  clear hp1 hrow hb1
  go_wp2_with fail
  refine (HX.out _ _ _ HB1.out hg HROW.out).mono ?_
  rintro e w2 ⟨rfl, r2, f2⟩
  have hp2 := Blk.fr HP1.out f2 hFX
  have p1 : w2.cell? ⟨pb, 1, none⟩ = some (.pointer (some ⟨b, 0, none⟩)) := by rw [hp2.cell]; rfl
  have hpb2 : pb < w2.heap.size := hp2.lt
  have R2 := hide r2
  have F2 := hide f2
  have HROW2 := hide (HROW.out.fr f2 (fun h => hFX2 _ hg h))
  have hz2 := f2.size
  clear r2 f2 p0 hp2
  simp only [outV]
  go_wp2_with fail
  have R2a := hide (HXs.out _ _ _ R2.out ((Below.refl _ _).alloc (Nat.le_refl _) (.cells #[.int .i64 E, .int .i64 V, .int .i64 U] 50)))
  have F2a := hide (F2.out.alloc (.cells #[.int .i64 E, .int .i64 V, .int .i64 U] 50))
  have BA := hide (Blk.new w2 #[.int .i64 E, .int .i64 V, .int .i64 U] 50)
  refine (HY.out _ _ HB1.out R2a.out F2a.out).mono ?_
  rintro e w3 ⟨rfl, r3, f3⟩
  have BA3 := hide (Blk.fr BA.out f3 (fun h => hFY2 _ (by omega) h))
  have HROW3 := hide (((HROW2.out.fr (S := fun _ => False) ((Fr.refl _ _).alloc (.cells #[.int .i64 E, .int .i64 V, .int .i64 U] 50)) id)).fr f3 (fun h => hFY2 _ hg h))
  have hz3 : w2.heap.size + 1 ≤ w3.heap.size := by have := f3.size; simp at this; omega
  have F3 := hide f3
  have R3 := hide r3
  clear r3 f3 p1
  simp only [outV]
  go_wp2_with fail
  have F3a : Fr (fun _ => False) w3 (w3.alloc (.cells #[.int .i64 E, .int .i64 V, .int .i64 U] 50)) := (Fr.refl _ _).alloc _
  have HROW4 := hide (HROW3.out.fr F3a id)
  have BA4 := hide (Blk.fr BA3.out F3a id)
  have BB4 := hide (Blk.new w3 #[.int .i64 E, .int .i64 V, .int .i64 U] 50)
  have HL4 : Hid (xs = [] ∨ ∃ lb lo, la = ⟨lb, lo, none⟩ ∧ Arg (w3.alloc (.cells #[.int .i64 E, .int .i64 V, .int .i64 U] 50)) lb lo xs) := by
    rcases HL.out with h | ⟨lb, lo, h, ha, n1, n2⟩
    · exact Or.inl h
    · refine Or.inr ⟨lb, lo, h, ?_⟩
      exact (((((ha.below HB1.out ha.lt).fr F2.out n1).fr (S := fun _ => False) ((Fr.refl _ _).alloc (.cells #[.int .i64 E, .int .i64 V, .int .i64 U] 50)) id).fr F3.out n2).fr F3a id)
  have F4 : Hid (Fr (fun k => FX k ∨ FY k) w (w3.alloc (.cells #[.int .i64 E, .int .i64 V, .int .i64 U] 50))) := by
    have h1 : Fr (fun k => FX k ∨ FY k) w w1 := Fr.of_below HB1.out
    have h2 := h1.trans (F2a.out.mono (S' := fun k => FX k ∨ FY k) (fun _ _ h => Or.inl h))
    have h3 := h2.trans (F3.out.mono (S' := fun k => FX k ∨ FY k) (fun _ _ h => Or.inr h))
    exact h3.alloc _
  have R4 : Hid (∀ w'', Fr (fun k => k = g) (w3.alloc (.cells #[.int .i64 E, .int .i64 V, .int .i64 U] 50)) w'' → RY w1.heap.size w'') := fun w'' hf => by
    have h0 : Fr (fun k => k = g) w3 (w3.alloc (.cells #[.int .i64 E, .int .i64 V, .int .i64 U] 50)) := F3a.mono (fun _ _ h => h.elim)
    exact HYs.out _ _ _ g hg hg1 R3.out (h0.trans hf)
  clear F3a
  refine (kept_any _ g c cap la xs hm hc HROW4.out HL4.out).mono ?_
  rintro e w4 ⟨rfl, hw⟩
  rw [hw]
  clear hw w4
  have h8 : w2.heap.size ≠ g := by omega
  have h9 : w3.heap.size ≠ g := by omega
  have hz4 : w3.heap.size < (w3.alloc (.cells #[.int .i64 E, .int .i64 V, .int .i64 U] 50)).heap.size := by simp
  generalize (w3.alloc (.cells #[.int .i64 E, .int .i64 V, .int .i64 U] 50)) = w4 at *
  go_wp2_with fail
  go_loopw [11] (fun i w' => ∃ k : Nat, k ≤ xs.length ∧ i = .int .i64 k ∧ Fr (fun j => j = g) w4 w' ∧ ∃ cs : Array Value, Blk w' g cs ∧ xs.length ≤ cs.size ∧ ∀ j, j < xs.length → ∃ y : Int, cs[j]? = some (Value.int .i64 y)) (fun i _ => xs.length - (intOf i).toNat)
  case atStart =>
    obtain ⟨cs, q1, q2, q3⟩ := HROW4.out.blk
    refine ⟨0, by omega, rfl, Fr.refl _ _, cs, q1, ?_, fun j hj => ⟨_, q3 j _ (padded_lo hj)⟩⟩
    have : (padded xs).length = xs.length + 8 := by unfold padded; simp
    omega
  case round =>
    obtain ⟨k, hk, rfl, hf, cs, hcs, hsz, hint⟩ := hrel
    by_cases hkn : k < xs.length
    · have hki : (k : Int) < (xs.length : Int) := by omega
      obtain ⟨y, hy⟩ := hint k hkn
      have c0 : wr.cell? ⟨g, k, none⟩ = some (.int .i64 y) := by rw [hcs.cell, hy]
      have fz := hcs.frozen k
      have HF := hide hf
      have HCS := hide hcs
      have HINT := hide hint
      clear hf hcs hint hy
      go_wp2_with fail
      refine ⟨⟨k + 1, by omega, by go_num, HF.out.trans (Fr.own _ _ _ _), _, HCS.out.set k _, by simpa using hsz, fun j hj => ?_⟩, by simp [intOf]; omega⟩
      by_cases e : j = k
      · subst e; exact ⟨-99, by rw [Array.getElem?_setIfInBounds_self_of_lt (by omega)]⟩
      · obtain ⟨y', hy'⟩ := HINT.out j hj
        exact ⟨y', by rw [Array.getElem?_setIfInBounds_ne (Ne.symm e)]; exact hy'⟩
    · have hA := Blk.fr BA4.out hf h8
      have hBB := Blk.fr BB4.out hf h9
      have a0 : wr.cell? ⟨w2.heap.size, 0, none⟩ = some (.int .i64 E) := by rw [hA.cell]; rfl
      have a1 : wr.cell? ⟨w2.heap.size, 1, none⟩ = some (.int .i64 V) := by rw [hA.cell]; rfl
      have a2 : wr.cell? ⟨w2.heap.size, 2, none⟩ = some (.int .i64 U) := by rw [hA.cell]; rfl
      have b0 : wr.cell? ⟨w3.heap.size, 0, none⟩ = some (.int .i64 E) := by rw [hBB.cell]; rfl
      have b1 : wr.cell? ⟨w3.heap.size, 1, none⟩ = some (.int .i64 V) := by rw [hBB.cell]; rfl
      have b2 : wr.cell? ⟨w3.heap.size, 2, none⟩ = some (.int .i64 U) := by rw [hBB.cell]; rfl
      have hki : ¬ (k : Int) < (xs.length : Int) := by omega
      have HF := hide hf
      clear hf hcs hint hA hBB
      go_wp2_with fail
      go_ret
      refine ⟨rfl, ⟨w1.heap.size, hsz1, R4.out _ HF.out⟩, ?_⟩
      exact Fr.trans' F4.out HF.out (fun i hi h => by omega)

end Go.Proofs.YtloppmepfkkblaaGreat
end

section
/- Words that are a row of their own: ports'. -/
open Go Go.Proofs Go.RowKit
namespace Go.Proofs.YtloppmepfkkblaaGreat

/-- The words of a thing are a row of its own. -/
def Own (w : World) (t : Th) (xs : List Int) : Prop := w.ownsRow 0 3 1 (.slice t.Wa t.Wn t.Wc) t.Wn (xs.map (Value.int .i64))

theorem Own.same {w w' : World} {t : Th} {xs : List Int} (h : Own w t xs) (e : ∀ g, t.wb g → w'.heap[g]? = w.heap[g]?) : Own w' t xs := by
  refine ⟨h.1, ?_⟩
  rcases h.2 with h1 | ⟨g, cap, cur, h1, h2, h3, h4⟩
  · exact Or.inl h1
  · refine Or.inr ⟨g, cap, cur, h1, h2, ?_, h4⟩
    injection h1 with h1
    rw [e g ⟨0, none, h1⟩]
    exact h3

theorem Own.lt {w : World} {t : Th} {xs : List Int} (h : Own w t xs) {g : Nat} (hg : t.wb g) : g < w.heap.size := by
  obtain ⟨o, s, hg⟩ := hg
  rcases h.2 with ⟨h1, _⟩ | ⟨g', cap, cur, h1, h2, h3, h4⟩
  · injection h1 with h1; rw [h1] at hg; cases hg
  · injection h1 with h1
    rw [h1] at hg
    injection hg with hg
    injection hg with hg
    rw [← hg]
    exact (Array.getElem?_eq_some_iff.1 h3).1

theorem Own.len {w : World} {t : Th} {xs : List Int} (h : Own w t xs) : t.Wn = xs.length := by
  have := h.1
  simp at this
  omega

theorem Th.wb_own {t : Th} {k : Nat} (h : some k = (Value.slice t.Wa t.Wn t.Wc).ownBlock) : t.wb k := by
  unfold Value.ownBlock at h
  split at h
  · rename_i a _ _ e
    injection e with e
    injection h with h
    exact ⟨a.off, a.spot, by rw [e, h]⟩
  · cases h

/-- Behind an append. -/
theorem Fr.grow {S : Nat → Prop} {a w w' : World} {row : Option Nat} (h : Fr S a w) (g : w.grownBy w' row) (hs : ∀ k, k < a.heap.size → some k = row → S k) : Fr S a w' :=
  ⟨g.os.trans h.os, g.tape.trans h.tape, g.output.trans h.output, Nat.le_trans h.size g.size, fun k hk hn => (g.block k (Nat.lt_of_lt_of_le hk h.size) (fun e => hn (hs k hk e))).trans (h.block k hk hn)⟩

end Go.Proofs.YtloppmepfkkblaaGreat
end
