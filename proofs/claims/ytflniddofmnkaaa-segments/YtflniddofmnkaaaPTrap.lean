/- What the program's 'Trap' does, by what its table, its bounds and its trap do. -/
import Derived.Test.YtflniddofmnkaaaPNew
import Derived.Test.YtflniddofmnkaaaPTrapOf
import Derived.Test.YtflniddofmnkaaaPAdmits
import Derived.Test.YtflniddofmnkaaaRefTrap
open Go Go.Proofs Go.RowKit
namespace Go.Proofs.Ytflniddofmnkaaa

theorem curP_facts {S : Nat → Th} {lq : Nat → Option Nat} {ph s : Nat} (h : curP S lq ph = some s) : lq ph = some s := by
  unfold curP at h
  split at h
  · cases h
  · split at h
    · injection h with h; subst h; assumption
    · cases h

section
variable {w : World} {kb : Nat} {S : Nat → Th} {ws : Nat → List Int} {lq : Nat → Option Nat} {ph : Nat} {ob : Nat → Nat} {qp : Nat → Option Nat}

set_option maxHeartbeats 1000000 in
/-- No trap of this number. -/
theorem ptrap_none (h : PK w kb S ws lq ph ob qp) {me : Nat} (hc : curP S lq ph = some me) (n : Int) (l : Value)
    (hT : ∀ w1, Calls Try.prog 31 #[.int .i64 n] w1 fun e w' => e = .returned (.tuple #[.agg #[.slice none 0 0, .nilFunc], .bool false]) ∧ Below w1.heap.size w1 w') :
    Calls Try.prog 19 #[.pointer (some ⟨kb, 0, none⟩), .int .i64 n, l] w fun e w' => e = .returned (outV 2 0 0) ∧ Below w.heap.size w w' := by
  have HT := hide hT
  have CU := fun w' hb => pcurrent_yes (h.below (w' := w') hb) hc
  have HCU := hide CU
  clear h hc hT CU
  go_enter Try.func19, Try.ntmps19
  go_wp2_with fail
  refine (HCU.out _ ((Below.refl _ _).alloc (Nat.le_refl _) _)).mono ?_
  rintro e w1 ⟨rfl, hb⟩
  have B1 := hide (Blk.zero3 hb)
  have HB := hide (Below.first hb)
  have hz1 : w.heap.size + 1 ≤ w1.heap.size := by have := hb.size; simp at this; omega
  clear hb
  go_wp2_with fail
  refine (HT.out _).mono ?_
  rintro e w2 ⟨rfl, hb2⟩
  have B2 := hide (Blk.below B1.out hb2 (by omega))
  have HB2 := hide (HB.out.trans (hb2.mono (by omega)))
  have hz2 : w.heap.size + 1 ≤ w2.heap.size := by have := hb2.size; omega
  have x0 : w2.cell? ⟨w.heap.size, 0, none⟩ = some (.int .i64 0) := by rw [Blk.cell B2.out]; rfl
  have x1 : w2.cell? ⟨w.heap.size, 1, none⟩ = some (.int .i64 0) := by rw [Blk.cell B2.out]; rfl
  have x2 : w2.cell? ⟨w.heap.size, 2, none⟩ = some (.int .i64 0) := by rw [Blk.cell B2.out]; rfl
  have y0 := Blk.frozen B2.out 0
  have y1 := Blk.frozen B2.out 1
  have y2 := Blk.frozen B2.out 2
  have hz3 : w.heap.size < w2.heap.size := by omega
  clear hb2
  go_wp2_with fail
  refine bodyPost_ret (v := .agg #[.int .i64 2, .int .i64 0, .int .i64 0]) (by simp [results, Try.results19, go_sem, x0, x1, x2, hz3]) rfl ⟨rfl, ?_⟩
  have HB3 := HB2.out
  refine Below.alloc ?_ ?_ _
  · exact ((HB3.setCell (by simp) _).setCell (by simp) _).setCell (by simp) _
  · simp [World.setCell]; omega

set_option maxHeartbeats 1000000 in
/-- Another number of arguments. -/
theorem ptrap_len (h : PK w kb S ws lq ph ob qp) {me : Nat} (hc : curP S lq ph = some me) (n : Int) (la : Option Addr) (ln cap tn fd : Nat) (hne : ln ≠ tn)
    (hT : ∀ w1, Calls Try.prog 31 #[.int .i64 n] w1 fun e w' => ∃ ta, e = .returned (.tuple #[.agg #[.slice ta tn tn, .func (Fn.func fd) #[] #[]], .bool true]) ∧ Below w1.heap.size w1 w') :
    Calls Try.prog 19 #[.pointer (some ⟨kb, 0, none⟩), .int .i64 n, .slice la ln cap] w fun e w' => e = .returned (outV 2 0 0) ∧ Below w.heap.size w w' := by
  have HT := hide hT
  have CU := fun w' hb => pcurrent_yes (h.below (w' := w') hb) hc
  have HCU := hide CU
  clear h hc hT CU
  go_enter Try.func19, Try.ntmps19
  go_wp2_with fail
  refine (HCU.out _ ((Below.refl _ _).alloc (Nat.le_refl _) _)).mono ?_
  rintro e w1 ⟨rfl, hb⟩
  have B1 := hide (Blk.zero3 hb)
  have HB := hide (Below.first hb)
  have hz1 : w.heap.size + 1 ≤ w1.heap.size := by have := hb.size; simp at this; omega
  clear hb
  go_wp2_with fail
  refine (HT.out _).mono ?_
  rintro e w2 ⟨ta, rfl, hb2⟩
  have B2 := hide (Blk.below B1.out hb2 (by omega))
  have HB2 := hide (HB.out.trans (hb2.mono (by omega)))
  have hz2 : w.heap.size + 1 ≤ w2.heap.size := by have := hb2.size; omega
  have x0 : w2.cell? ⟨w.heap.size, 0, none⟩ = some (.int .i64 0) := by rw [Blk.cell B2.out]; rfl
  have x1 : w2.cell? ⟨w.heap.size, 1, none⟩ = some (.int .i64 0) := by rw [Blk.cell B2.out]; rfl
  have x2 : w2.cell? ⟨w.heap.size, 2, none⟩ = some (.int .i64 0) := by rw [Blk.cell B2.out]; rfl
  have y0 := Blk.frozen B2.out 0
  have y1 := Blk.frozen B2.out 1
  have y2 := Blk.frozen B2.out 2
  have hz3 : w.heap.size < w2.heap.size := by omega
  have hne2 : ¬ (ln : Int) = (tn : Int) := by omega
  clear hb2
  go_wp2_with fail
  refine bodyPost_ret (v := .agg #[.int .i64 2, .int .i64 0, .int .i64 0]) (by simp [results, Try.results19, go_sem, x0, x1, x2, hz3]) rfl ⟨rfl, ?_⟩
  have HB3 := HB2.out
  refine Below.alloc ?_ ?_ _
  · exact ((HB3.setCell (by simp) _).setCell (by simp) _).setCell (by simp) _
  · simp [World.setCell]; omega

set_option maxHeartbeats 1000000 in
/-- An argument that may not be. -/
theorem ptrap_arg (h : PK w kb S ws lq ph ob qp) {me : Nat} (hc : curP S lq ph = some me) (n : Int) (la : Option Addr) (ln cap fd : Nat) (T : World → Option Addr → Prop)
    (hT : ∀ w1, Calls Try.prog 31 #[.int .i64 n] w1 fun e w' => ∃ ta, e = .returned (.tuple #[.agg #[.slice ta ln ln, .func (Fn.func fd) #[] #[]], .bool true]) ∧ Below w1.heap.size w1 w' ∧ T w' ta)
    (hTs : ∀ w1 w' ta, T w1 ta → Below w1.heap.size w1 w' → T w' ta)
    (hA : ∀ w1 ta, T w1 ta → Below w.heap.size w w1 → Calls Try.prog 32 #[.agg #[.slice ta ln ln, .func (Fn.func fd) #[] #[]], .slice la ln cap] w1 fun e w' => e = .returned (.bool false) ∧ Below w1.heap.size w1 w') :
    Calls Try.prog 19 #[.pointer (some ⟨kb, 0, none⟩), .int .i64 n, .slice la ln cap] w fun e w' => e = .returned (outV 3 0 0) ∧ Below w.heap.size w w' := by
  have HT := hide hT
  have HTs := hide hTs
  have HA := hide hA
  have CU := fun w' hb => pcurrent_yes (h.below (w' := w') hb) hc
  have HCU := hide CU
  clear h hc hT CU hA hTs
  go_enter Try.func19, Try.ntmps19
  go_wp2_with fail
  refine (HCU.out _ ((Below.refl _ _).alloc (Nat.le_refl _) _)).mono ?_
  rintro e w1 ⟨rfl, hb⟩
  have B1 := hide (Blk.zero3 hb)
  have HB := hide (Below.first hb)
  have hz1 : w.heap.size + 1 ≤ w1.heap.size := by have := hb.size; simp at this; omega
  clear hb
  go_wp2_with fail
  refine (HT.out _).mono ?_
  rintro e w2 ⟨ta, rfl, hb2, ht2⟩
  have B2 := hide (Blk.below B1.out hb2 (by omega))
  have HB2 := hide (HB.out.trans (hb2.mono (by omega)))
  have hz2 : w.heap.size + 1 ≤ w2.heap.size := by have := hb2.size; omega
  have HT2 := hide ht2
  clear hb2 ht2
  go_wp2_with fail
  refine (HA.out _ _ (HTs.out _ _ _ HT2.out ((Below.refl _ _).alloc (Nat.le_refl _) _)) (HB2.out.alloc HB2.out.size _)).mono ?_
  rintro e w3 ⟨rfl, hb3⟩
  have B3 := hide (Blk.below (B2.out.alloc _) hb3 (by simp; omega))
  have HB3 := hide ((HB2.out.alloc HB2.out.size _).trans (hb3.mono (by simp; omega)))
  have x0 : w3.cell? ⟨w.heap.size, 0, none⟩ = some (.int .i64 0) := by rw [Blk.cell B3.out]; rfl
  have x1 : w3.cell? ⟨w.heap.size, 1, none⟩ = some (.int .i64 0) := by rw [Blk.cell B3.out]; rfl
  have x2 : w3.cell? ⟨w.heap.size, 2, none⟩ = some (.int .i64 0) := by rw [Blk.cell B3.out]; rfl
  have y0 := Blk.frozen B3.out 0
  have y1 := Blk.frozen B3.out 1
  have y2 := Blk.frozen B3.out 2
  clear hb3
  go_wp2_with fail
  refine bodyPost_ret (v := .agg #[.int .i64 3, .int .i64 0, .int .i64 0]) (by simp [results, Try.results19, go_sem, x0, x1, x2]) rfl ⟨rfl, ?_⟩
  exact ((HB3.out.setCell (by simp) _).setCell (by simp) _).setCell (by simp) _

set_option maxHeartbeats 2000000 in
/-- The trap itself. -/
theorem ptrap_ok (h : PK w kb S ws lq ph ob qp) {me : Nat} (hc : curP S lq ph = some me) (n : Int) (la : Option Addr) (ln cap fd : Nat) (T : World → Option Addr → Prop) (F : Nat → Prop) (R : World → Int → Int → Nat → Prop)
    (hT : ∀ w1, Calls Try.prog 31 #[.int .i64 n] w1 fun e w' => ∃ ta, e = .returned (.tuple #[.agg #[.slice ta ln ln, .func (Fn.func fd) #[] #[]], .bool true]) ∧ Below w1.heap.size w1 w' ∧ T w' ta)
    (hTs : ∀ w1 w' ta, T w1 ta → Below w1.heap.size w1 w' → T w' ta)
    (hA : ∀ w1 ta, T w1 ta → Below w.heap.size w w1 → Calls Try.prog 32 #[.agg #[.slice ta ln ln, .func (Fn.func fd) #[] #[]], .slice la ln cap] w1 fun e w' => e = .returned (.bool true) ∧ Below w1.heap.size w1 w')
    (hcf : ∀ args w, (callFunc fd args).run Try.prog w = .ok (.enter fd args) w)
    (hD : ∀ w1 rb, QK w1 rb kb S ws lq ph ob qp me 0 → Below w.heap.size w w1 → w.heap.size < rb → Calls Try.prog fd #[.pointer (some ⟨rb, 0, none⟩), .slice la ln cap] w1 fun e w' =>
      ∃ v er u, e = .returned (.tuple #[.int .i64 v, .int .i64 er]) ∧ ReqAt w' rb kb (ob me) u ∧ R w' v er u ∧ Fr (fun k => k = rb ∨ F k) w1 w')
    (hF : ¬ F w.heap.size)
    (hst : ∀ w' w'' v er u, R w' v er u → Fr (fun k => k = w.heap.size) w' w'' → R w'' v er u) :
    Calls Try.prog 19 #[.pointer (some ⟨kb, 0, none⟩), .int .i64 n, .slice la ln cap] w fun e w' => ∃ v er u, e = .returned (outV er v u) ∧ R w' v er u ∧ Fr F w w' := by
  have HT := hide hT
  have HTs := hide hTs
  have HA := hide hA
  have HD := hide hD
  have HF := hide hF
  have HST := hide hst
  have CU := fun w' hb => pcurrent_yes (h.below (w' := w') hb) hc
  have HCU := hide CU
  have hlv := h.live h.ph8 (curP_facts hc)
  have HLV := hide hlv
  have H := hide h
  clear h hc hT CU hA hTs hD hF hst hlv
  go_enter Try.func19, Try.ntmps19
  go_wp2_with fail
  refine (HCU.out _ ((Below.refl _ _).alloc (Nat.le_refl _) _)).mono ?_
  rintro e w1 ⟨rfl, hb⟩
  have B1 := hide (Blk.zero3 hb)
  have HB := hide (Below.first hb)
  have hz1 : w.heap.size + 1 ≤ w1.heap.size := by have := hb.size; simp at this; omega
  clear hb
  go_wp2_with fail
  refine (HT.out _).mono ?_
  rintro e w2 ⟨ta, rfl, hb2, ht2⟩
  have B2 := hide (Blk.below B1.out hb2 (by omega))
  have HB2 := hide (HB.out.trans (hb2.mono (by omega)))
  have hz2 : w.heap.size + 1 ≤ w2.heap.size := by have := hb2.size; omega
  have HT2 := hide ht2
  clear hb2 ht2
  go_wp2_with fail
  refine (HA.out _ _ (HTs.out _ _ _ HT2.out ((Below.refl _ _).alloc (Nat.le_refl _) _)) (HB2.out.alloc HB2.out.size _)).mono ?_
  rintro e w3 ⟨rfl, hb3⟩
  have B3 := hide (Blk.below (B2.out.alloc _) hb3 (by simp; omega))
  have BR := hide (Blk.below (Blk.new w2 _ _) hb3 (by simp))
  have HB3 := hide ((HB2.out.alloc HB2.out.size _).trans (hb3.mono (by simp; omega)))
  have hz3 : w2.heap.size + 1 ≤ w3.heap.size := by have := hb3.size; simp at this; omega
  have r1 : w3.cell? ⟨w2.heap.size, 1, none⟩ = some (.func (Fn.func fd) #[] #[]) := by rw [Blk.cell BR.out]; rfl
  have hz4 : w2.heap.size < w3.heap.size := by omega
  clear hb3
  go_wp2_with fail
  have HP3 := hide (H.out.below HB3.out)
  have A3 : QK (w3.alloc (.cells #[.pointer (some ⟨kb, 0, none⟩), .pointer (some ⟨ob me, 0, none⟩), .int .i64 0] 94)) w3.heap.size kb S ws lq ph ob qp me 0 :=
    ⟨Blk.new w3 _ _, HP3.out.below ((Below.refl _ _).alloc (Nat.le_refl _) _), fun hf => by have := HP3.out.foot_lt hf; omega, HLV.out.1, HLV.out.2.1, by omega⟩
  refine (HD.out _ _ A3 (HB3.out.alloc HB3.out.size _) (by omega)).mono ?_
  rintro e w4 ⟨v, er, u, rfl, a4, r4, f4⟩
  have B4 : Blk w4 w.heap.size _ := Blk.fr (B3.out.alloc _) f4 (by rintro (h | h); omega; exact HF.out h)
  have x0 : w4.cell? ⟨w.heap.size, 0, none⟩ = some (.int .i64 0) := by rw [Blk.cell B4]; rfl
  have x1 : w4.cell? ⟨w.heap.size, 1, none⟩ = some (.int .i64 0) := by rw [Blk.cell B4]; rfl
  have x2 : w4.cell? ⟨w.heap.size, 2, none⟩ = some (.int .i64 0) := by rw [Blk.cell B4]; rfl
  have y0 := Blk.frozen B4 0
  have y1 := Blk.frozen B4 1
  have y2 := Blk.frozen B4 2
  have q2 : w4.cell? ⟨w3.heap.size, 2, none⟩ = some (.int .i64 u) := by rw [Blk.cell a4]; rfl
  have F0 : Fr F w w4 := Fr.trans' (S' := fun k => k = w3.heap.size ∨ F k) (Fr.of_below (HB3.out.alloc HB3.out.size _)) f4 (by rintro i hi (h | h); have := HB3.out.size; omega; exact h)
  have R4 := hide r4
  have F4 := hide F0
  clear a4 r4 f4 F0 B4 A3
  go_wp2_with fail
  refine bodyPost_ret (v := .agg #[.int .i64 er, .int .i64 v, .int .i64 u]) (by simp [results, Try.results19, go_sem, x0, x1, x2]) rfl ⟨v, er, u, rfl, ?_, ?_⟩
  · exact HST.out _ _ _ _ _ R4.out ((((Fr.own _ _ _ _).trans (Fr.own _ _ _ _)).trans (Fr.own _ _ _ _)))
  · exact (((F4.out.setCell (Or.inr (Nat.le_refl _)) _).setCell (Or.inr (Nat.le_refl _)) _).setCell (Or.inr (Nat.le_refl _)) _)
end

end Go.Proofs.Ytflniddofmnkaaa
