/- What the law's 'pair.trap' does, by what the two kernels' traps do. -/
import Derived.Test.YtflniddofmnkaaaLawKept
import Derived.Test.YtflniddofmnkaaaRefTrap
open Go Go.Proofs Go.RowKit
namespace Go.Proofs.Ytflniddofmnkaaa

set_option maxHeartbeats 2000000 in
/-- No arguments at all. -/
theorem pairtrap_nil (w : World) (pb kb b : Nat) (n E V : Int) (U : Nat) (FX FY : Nat → Prop) (RX RY : Nat → World → Prop) (hp : Blk w pb #[.pointer (some ⟨kb, 0, none⟩), .pointer (some ⟨b, 0, none⟩)])
    (hX : Calls Try.prog 19 #[.pointer (some ⟨kb, 0, none⟩), .int .i64 n, .slice none 0 0] w fun e w' => e = .returned (outV E V U) ∧ RX w.heap.size w' ∧ Fr FX w w')
    (hY : ∀ w2, RX w.heap.size w2 → Fr FX w w2 → Calls Try.prog 42 #[.pointer (some ⟨b, 0, none⟩), .int .i64 n, .slice none 0 0] w2 fun e w' => e = .returned (outV E V U) ∧ RY w.heap.size w' ∧ Fr FY w2 w')
    (hXs : ∀ w' w'', RX w.heap.size w' → Below w'.heap.size w' w'' → RX w.heap.size w'') (hYs : ∀ w' w'', RY w.heap.size w' → Below w'.heap.size w' w'' → RY w.heap.size w'')
    (hFX : ¬ FX pb) (hFY : ∀ k, FY k → k < w.heap.size → FX k ∨ FY k) (hFY2 : ∀ k, w.heap.size ≤ k → FY k → False) :
    Calls Try.prog 26 #[.pointer (some ⟨pb, 0, none⟩), .int .i64 n, .slice none 0 0] w fun e w' => e = .returned (.bool true) ∧ RY w.heap.size w' ∧ Fr (fun k => FX k ∨ FY k) w w' := by
  have p0 : w.cell? ⟨pb, 0, none⟩ = some (.pointer (some ⟨kb, 0, none⟩)) := by rw [hp.cell]; rfl
  have HP := hide hp
  have HX := hide hX
  have HY := hide hY
  have HXs := hide hXs
  have HYs := hide hYs
  clear hX hY hXs hYs hp
  go_enter Try.func26, Try.ntmps26
  go_wp2_with fail
  refine (roomy_nil _).mono ?_
  rintro e w1 ⟨rfl, hw⟩
  rw [hw]
  clear hw w1
  go_wp2_with fail
  refine HX.out.mono ?_
  rintro e w2 ⟨rfl, r2, f2⟩
  have p1 : w2.cell? ⟨pb, 1, none⟩ = some (.pointer (some ⟨b, 0, none⟩)) := by rw [(Blk.fr HP.out f2 hFX).cell]; rfl
  have hpb2 : pb < w2.heap.size := (Blk.fr HP.out f2 hFX).lt
  have R2 := hide r2
  have F2 := hide f2
  clear r2 f2 p0
  simp only [outV]
  go_wp2_with fail
  have R2a := hide (HXs.out _ _ R2.out ((Below.refl _ _).alloc (Nat.le_refl _) (.cells #[.int .i64 E, .int .i64 V, .int .i64 U] 49)))
  have F2a := hide (F2.out.alloc (.cells #[.int .i64 E, .int .i64 V, .int .i64 U] 49))
  have BA := hide (Blk.new w2 #[.int .i64 E, .int .i64 V, .int .i64 U] 49)
  refine (HY.out _ R2a.out F2a.out).mono ?_
  rintro e w3 ⟨rfl, r3, f3⟩
  have hz2 := F2.out.size
  have BA3 := hide (Blk.fr BA.out f3 (fun h => hFY2 _ (by omega) h))
  have a0 : w3.cell? ⟨w2.heap.size, 0, none⟩ = some (.int .i64 E) := by rw [BA3.out.cell]; rfl
  have a1 : w3.cell? ⟨w2.heap.size, 1, none⟩ = some (.int .i64 V) := by rw [BA3.out.cell]; rfl
  have a2 : w3.cell? ⟨w2.heap.size, 2, none⟩ = some (.int .i64 U) := by rw [BA3.out.cell]; rfl
  have hlt3 := BA3.out.lt
  have R3 := hide (HYs.out _ _ r3 ((Below.refl _ _).alloc (Nat.le_refl _) (.cells #[.int .i64 E, .int .i64 V, .int .i64 U] 49)))
  have F3 : Hid (Fr (fun k => FX k ∨ FY k) w (w3.alloc (.cells #[.int .i64 E, .int .i64 V, .int .i64 U] 49))) :=
    (Fr.trans' (S := fun k => FX k ∨ FY k) (F2a.out.mono (fun _ _ h => Or.inl h)) f3 (fun k hk h => hFY k h hk)).alloc _
  clear r3 f3 p1
  simp only [outV]
  go_wp2_with fail
  refine (kept_nil _).mono ?_
  rintro e w4 ⟨rfl, hw⟩
  rw [hw]
  clear hw w4
  go_wp2_with fail
  refine wp_loop_rounds 1 ?_
  rw [rounds_succ]
  go_wp2_with fail
  go_ret
  exact ⟨rfl, R3.out, F3.out⟩

theorem Row.fr {S : Nat → Prop} {w w' : World} {g : Nat} {xs : List Int} (h : Row w g xs) (f : Fr S w w') (hs : ¬ S g) : Row w' g xs := by
  obtain ⟨cs, h1, h2⟩ := h.blk
  exact ⟨cs, h1.fr f hs, h2⟩
theorem Row.lt {w : World} {g : Nat} {xs : List Int} (h : Row w g xs) : g < w.heap.size := by
  obtain ⟨cs, h1, h2⟩ := h.blk
  exact h1.lt

set_option maxHeartbeats 4000000 in
/-- With arguments, or an empty list of them. -/
theorem pairtrap_some (w : World) (pb kb b : Nat) (n E V : Int) (U : Nat) (la : Addr) (cap : Nat) (xs : List Int) (FX FY : Nat → Prop) (RX RY : Nat → World → Prop) (hm : xs.length ≤ 17592186043904) (hp : Blk w pb #[.pointer (some ⟨kb, 0, none⟩), .pointer (some ⟨b, 0, none⟩)])
    (hl : xs = [] ∨ ∃ lb lo, la = ⟨lb, lo, none⟩ ∧ Arg w lb lo xs ∧ ¬ FX lb ∧ ¬ FY lb)
    (hX : ∀ w1 g c, Below w.heap.size w w1 → w.heap.size ≤ g → Row w1 g (padded xs) → Calls Try.prog 19 #[.pointer (some ⟨kb, 0, none⟩), .int .i64 n, .slice (some ⟨g, 0, none⟩) xs.length c] w1 fun e w' => e = .returned (outV E V U) ∧ RX w1.heap.size w' ∧ Fr FX w1 w')
    (hY : ∀ w1 w2, Below w.heap.size w w1 → RX w1.heap.size w2 → Fr FX w1 w2 → Calls Try.prog 42 #[.pointer (some ⟨b, 0, none⟩), .int .i64 n, .slice (some la) xs.length cap] w2 fun e w' => e = .returned (outV E V U) ∧ RY w1.heap.size w' ∧ Fr FY w2 w')
    (hXs : ∀ m w' w'', RX m w' → Below w'.heap.size w' w'' → RX m w'') (hYs : ∀ m w' w'' g, w.heap.size ≤ g → g < m → RY m w' → Fr (fun k => k = g) w' w'' → RY m w'')
    (hpb : pb < w.heap.size) (hFX : ¬ FX pb) (hFX2 : ∀ k, w.heap.size ≤ k → FX k → False) (hFY2 : ∀ k, w.heap.size ≤ k → FY k → False) :
    Calls Try.prog 26 #[.pointer (some ⟨pb, 0, none⟩), .int .i64 n, .slice (some la) xs.length cap] w fun e w' => e = .returned (.bool true) ∧ (∃ m, w.heap.size ≤ m ∧ RY m w') ∧ Fr (fun k => FX k ∨ FY k) w w' := by
  have HP := hide hp
  have HX := hide hX
  have HY := hide hY
  have HXs := hide hXs
  have HYs := hide hYs
  have HL := hide hl
  have RO : Calls Try.prog 41 #[.slice (some la) xs.length cap] w fun e w' => ∃ g c, e = .returned (.slice (some ⟨g, 0, none⟩) xs.length c) ∧ xs.length + 8 ≤ c ∧ w.heap.size ≤ g ∧ Row w' g (padded xs) ∧ Below w.heap.size w w' := by
    by_cases e : xs = []
    · subst e; exact roomy_empty w la cap
    · rcases hl with h | ⟨lb, lo, rfl, ha, _, _⟩
      · exact absurd h e
      · exact roomy_any w lb lo cap xs (List.length_pos_iff.2 e) hm ha
  have HRO := hide RO
  clear hX hY hXs hYs hp RO hl
  go_enter Try.func26, Try.ntmps26
  go_wp2_with fail
  refine HRO.out.mono ?_
  rintro e w1 ⟨g, c, rfl, hc, hg, hrow, hb1⟩
  have hp1 := HP.out.below hb1 hpb
  have p0 : w1.cell? ⟨pb, 0, none⟩ = some (.pointer (some ⟨kb, 0, none⟩)) := by rw [hp1.cell]; rfl
  have HP1 := hide hp1
  have HROW := hide hrow
  have HB1 := hide hb1
  have hg1 := hrow.lt
  have hsz1 := hb1.size
  clear hp1 hrow hb1
  go_wp2_with fail
  refine (HX.out _ _ _ HB1.out hg HROW.out).mono ?_
  rintro e w2 ⟨rfl, r2, f2⟩
  have hp2 := Blk.fr HP1.out f2 hFX
  have p1 : w2.cell? ⟨pb, 1, none⟩ = some (.pointer (some ⟨b, 0, none⟩)) := by rw [hp2.cell]; rfl
  have hpb2 : pb < w2.heap.size := hp2.lt
  have R2 := hide r2
  have F2 := hide f2
  have HROW2 := hide (HROW.out.fr f2 (fun h => hFX2 _ hg h))
  have hz2 := f2.size
  clear r2 f2 p0 hp2
  simp only [outV]
  go_wp2_with fail
  have R2a := hide (HXs.out _ _ _ R2.out ((Below.refl _ _).alloc (Nat.le_refl _) (.cells #[.int .i64 E, .int .i64 V, .int .i64 U] 49)))
  have F2a := hide (F2.out.alloc (.cells #[.int .i64 E, .int .i64 V, .int .i64 U] 49))
  have BA := hide (Blk.new w2 #[.int .i64 E, .int .i64 V, .int .i64 U] 49)
  refine (HY.out _ _ HB1.out R2a.out F2a.out).mono ?_
  rintro e w3 ⟨rfl, r3, f3⟩
  have BA3 := hide (Blk.fr BA.out f3 (fun h => hFY2 _ (by omega) h))
  have HROW3 := hide (((HROW2.out.fr (S := fun _ => False) ((Fr.refl _ _).alloc (.cells #[.int .i64 E, .int .i64 V, .int .i64 U] 49)) id)).fr f3 (fun h => hFY2 _ hg h))
  have hz3 : w2.heap.size + 1 ≤ w3.heap.size := by have := f3.size; simp at this; omega
  have F3 := hide f3
  have R3 := hide r3
  clear r3 f3 p1
  simp only [outV]
  go_wp2_with fail
  have F3a : Fr (fun _ => False) w3 (w3.alloc (.cells #[.int .i64 E, .int .i64 V, .int .i64 U] 49)) := (Fr.refl _ _).alloc _
  have HROW4 := hide (HROW3.out.fr F3a id)
  have BA4 := hide (Blk.fr BA3.out F3a id)
  have BB4 := hide (Blk.new w3 #[.int .i64 E, .int .i64 V, .int .i64 U] 49)
  have HL4 : Hid (xs = [] ∨ ∃ lb lo, la = ⟨lb, lo, none⟩ ∧ Arg (w3.alloc (.cells #[.int .i64 E, .int .i64 V, .int .i64 U] 49)) lb lo xs) := by
    rcases HL.out with h | ⟨lb, lo, h, ha, n1, n2⟩
    · exact Or.inl h
    · refine Or.inr ⟨lb, lo, h, ?_⟩
      exact (((((ha.below HB1.out ha.lt).fr F2.out n1).fr (S := fun _ => False) ((Fr.refl _ _).alloc (.cells #[.int .i64 E, .int .i64 V, .int .i64 U] 49)) id).fr F3.out n2).fr F3a id)
  have F4 : Hid (Fr (fun k => FX k ∨ FY k) w (w3.alloc (.cells #[.int .i64 E, .int .i64 V, .int .i64 U] 49))) := by
    have h1 : Fr (fun k => FX k ∨ FY k) w w1 := Fr.of_below HB1.out
    have h2 := h1.trans (F2a.out.mono (S' := fun k => FX k ∨ FY k) (fun _ _ h => Or.inl h))
    have h3 := h2.trans (F3.out.mono (S' := fun k => FX k ∨ FY k) (fun _ _ h => Or.inr h))
    exact h3.alloc _
  have R4 : Hid (∀ w'', Fr (fun k => k = g) (w3.alloc (.cells #[.int .i64 E, .int .i64 V, .int .i64 U] 49)) w'' → RY w1.heap.size w'') := fun w'' hf => by
    have h0 : Fr (fun k => k = g) w3 (w3.alloc (.cells #[.int .i64 E, .int .i64 V, .int .i64 U] 49)) := F3a.mono (fun _ _ h => h.elim)
    exact HYs.out _ _ _ g hg hg1 R3.out (h0.trans hf)
  clear F3a
  refine (kept_any _ g c cap la xs hm hc HROW4.out HL4.out).mono ?_
  rintro e w4 ⟨rfl, hw⟩
  rw [hw]
  clear hw w4
  have h8 : w2.heap.size ≠ g := by omega
  have h9 : w3.heap.size ≠ g := by omega
  have hz4 : w3.heap.size < (w3.alloc (.cells #[.int .i64 E, .int .i64 V, .int .i64 U] 49)).heap.size := by simp
  generalize (w3.alloc (.cells #[.int .i64 E, .int .i64 V, .int .i64 U] 49)) = w4 at *
  go_wp2_with fail
  go_loopw [11] (fun i w' => ∃ k : Nat, k ≤ xs.length ∧ i = .int .i64 k ∧ Fr (fun j => j = g) w4 w' ∧ ∃ cs : Array Value, Blk w' g cs ∧ xs.length ≤ cs.size ∧ ∀ j, j < xs.length → ∃ y : Int, cs[j]? = some (Value.int .i64 y)) (fun i _ => xs.length - (intOf i).toNat)
  case atStart =>
    obtain ⟨cs, q1, q2, q3⟩ := HROW4.out.blk
    refine ⟨0, by omega, rfl, Fr.refl _ _, cs, q1, ?_, fun j hj => ⟨_, q3 j _ (padded_lo hj)⟩⟩
    have : (padded xs).length = xs.length + 8 := by unfold padded; simp
    omega
  case round =>
    obtain ⟨k, hk, rfl, hf, cs, hcs, hsz, hint⟩ := hrel
    by_cases hkn : k < xs.length
    · have hki : (k : Int) < (xs.length : Int) := by omega
      obtain ⟨y, hy⟩ := hint k hkn
      have c0 : wr.cell? ⟨g, k, none⟩ = some (.int .i64 y) := by rw [hcs.cell, hy]
      have fz := hcs.frozen k
      have HF := hide hf
      have HCS := hide hcs
      have HINT := hide hint
      clear hf hcs hint hy
      go_wp2_with fail
      refine ⟨⟨k + 1, by omega, by go_num, HF.out.trans (Fr.own _ _ _ _), _, HCS.out.set k _, by simpa using hsz, fun j hj => ?_⟩, by simp [intOf]; omega⟩
      by_cases e : j = k
      · subst e; exact ⟨-99, by rw [Array.getElem?_setIfInBounds_self_of_lt (by omega)]⟩
      · obtain ⟨y', hy'⟩ := HINT.out j hj
        exact ⟨y', by rw [Array.getElem?_setIfInBounds_ne (Ne.symm e)]; exact hy'⟩
    · have hA := Blk.fr BA4.out hf h8
      have hBB := Blk.fr BB4.out hf h9
      have a0 : wr.cell? ⟨w2.heap.size, 0, none⟩ = some (.int .i64 E) := by rw [hA.cell]; rfl
      have a1 : wr.cell? ⟨w2.heap.size, 1, none⟩ = some (.int .i64 V) := by rw [hA.cell]; rfl
      have a2 : wr.cell? ⟨w2.heap.size, 2, none⟩ = some (.int .i64 U) := by rw [hA.cell]; rfl
      have b0 : wr.cell? ⟨w3.heap.size, 0, none⟩ = some (.int .i64 E) := by rw [hBB.cell]; rfl
      have b1 : wr.cell? ⟨w3.heap.size, 1, none⟩ = some (.int .i64 V) := by rw [hBB.cell]; rfl
      have b2 : wr.cell? ⟨w3.heap.size, 2, none⟩ = some (.int .i64 U) := by rw [hBB.cell]; rfl
      have hki : ¬ (k : Int) < (xs.length : Int) := by omega
      have HF := hide hf
      clear hf hcs hint hA hBB
      go_wp2_with fail
      go_ret
      refine ⟨rfl, ⟨w1.heap.size, hsz1, R4.out _ HF.out⟩, ?_⟩
      exact Fr.trans' F4.out HF.out (fun i hi h => by omega)

end Go.Proofs.Ytflniddofmnkaaa
