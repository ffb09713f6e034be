/- What the reference's 'second' does: NewContainer. -/
import Derived.Test.YtloppmepfkkblaaGreatJRefGoneToRefFree
open Go Go.Proofs Go.RowKit
namespace Go.Proofs.YtloppmepfkkblaaGreat

/-- A slot of the range ahead of k is not free, or does not lie in c; or the container's own slot is in its range. -/
def busyS (S : Nat → Th) (c s a e k : Nat) : Prop := (a ≤ s ∧ s < e) ∨ ∃ i, a ≤ i ∧ i < k ∧ ((S i).kind ≠ 0 ∨ lies S i ≠ some c)
/-- A quantum of the range ahead of k does not lie in c. -/
def busyQ (S : Nat → Th) (c g k : Nat) : Prop := ∃ q, g ≤ q ∧ q < k ∧ has S q ≠ some c

theorem busyS_succ {S : Nat → Th} {c s a e k : Nat} (h : a ≤ k) : busyS S c s a e (k + 1) ↔ busyS S c s a e k ∨ (S k).kind ≠ 0 ∨ lies S k ≠ some c := by
  unfold busyS
  constructor
  · rintro (h1 | ⟨i, h1, h2, h3⟩)
    · exact Or.inl (Or.inl h1)
    · by_cases e : i = k
      · subst e; exact Or.inr h3
      · exact Or.inl (Or.inr ⟨i, h1, by omega, h3⟩)
  · rintro ((h1 | ⟨i, h1, h2, h3⟩) | h3)
    · exact Or.inl h1
    · exact Or.inr ⟨i, h1, by omega, h3⟩
    · exact Or.inr ⟨k, h, by omega, h3⟩

theorem busyS_start {S : Nat → Th} {c s a e : Nat} : busyS S c s a e a ↔ (a ≤ s ∧ s < e) := by
  unfold busyS
  constructor
  · rintro (h1 | ⟨i, h1, h2, h3⟩)
    · exact h1
    · omega
  · exact Or.inl

theorem busyQ_start {S : Nat → Th} {c g : Nat} : ¬ busyQ S c g g := by
  rintro ⟨i, h1, h2, h3⟩
  omega

theorem busyQ_succ {S : Nat → Th} {c g k : Nat} (h : g ≤ k) : busyQ S c g (k + 1) ↔ busyQ S c g k ∨ has S k ≠ some c := by
  unfold busyQ
  constructor
  · rintro ⟨i, h1, h2, h3⟩
    by_cases e : i = k
    · subst e; exact Or.inr h3
    · exact Or.inl ⟨i, h1, by omega, h3⟩
  · rintro (⟨i, h1, h2, h3⟩ | h3)
    · exact ⟨i, h1, by omega, h3⟩
    · exact ⟨k, h, by omega, h3⟩

theorem cont_wf {l a e g h : Nat} (hl : l < 256) (hae : a ≤ e) (he : e ≤ 32) : Th.wf ⟨1, l, 0, none, 0, 0, 0, false, a, e, g, h⟩ := by
  refine ⟨?_, ?_, ?_, ?_, hl, ?_⟩ <;> simp <;> omega

set_option maxHeartbeats 4000000 in
set_option maxRecDepth 100000 in
theorem second_cont' (n : Nat) (w : World) (ab b T O lb lo cap : Nat) (p : Nat × Int) (r : RSt) (c s l a e g h : Nat) (hk : AK w ab b T O p r) (hc : c < 32) (hs : s < 32) (hl : l < 256) (hae : a ≤ e) (he : e ≤ 32) (hgh : g ≤ h) (hh : h ≤ 8) (hd : deep r.S n c)
    (ha : Arg w lb lo [(c : Int), (s : Int), (l : Int), (a : Int), (e : Int), (g : Int), (h : Int)]) (hab : lb ≠ ab) (hlb : lb ≠ b) (hm : 0 ≤ r.made) (hm2 : r.made < 4611686018427387904)
    (q : Nat × Int) (r' : RSt) (hq0 : (busyS r.S c s a e e ∨ busyQ r.S c g h) ∧ q = failed 7 (makingF r.S O T n c s l p) ∨ ¬ (busyS r.S c s a e e ∨ busyQ r.S c g h) ∧ q = makingF r.S O T n c s l p)
    (hr' : r' = if q.2 = 0 then (r.putIf q s ⟨1, l, 0, none, 0, 0, 0, false, a, e, g, h⟩).idle g h else r) :
    Calls Tryz.prog 42 #[.pointer (some ⟨ab, 0, none⟩), .int .i64 7, .slice (some ⟨lb, lo, none⟩) 7 cap] w fun e' w' => e' = .returned (.tuple #[]) ∧
      AK w' ab b T O q r' ∧ Fr (fun k => k = ab ∨ k = b) w w' := by
  have l0 := ha.c0
  have l1 := ha.c1
  have l2 := ha.c2
  have l3 := ha.c3
  have l4 := ha.c4
  have l5 := ha.c5
  have l6 := ha.c6
  have H := hide hk
  have HA := hide ha
  have HD := hide hd
  have HL := hide hl
  have HQ0 := hide hq0
  have HR' := hide hr'
  clear hk ha hd hq0 hr'
  go_enter Tryz.func42, Tryz.ntmps42
  go_wp2_with fail
  go_still_tail 10, (by kernel_rfl)
  go_wp2_with fail
  refine (making_any _ _ _ _ _ _ _ n _ _ _ (H.out.fr ((Fr.refl _ _).drew)) hc hs hl HD.out).mono ?_
  rintro e0 w1 ⟨rfl, h1, g1⟩
  have H1 := hide h1
  have G1 : Hid (Fr (fun k => k = ab) w w1) := ((Fr.refl _ _).drew).trans g1
  have A1 := HA.out.fr G1.out hab
  clear l0 l1 l2 l3 l4 l5 l6
  have l0 := A1.c0
  have l1 := A1.c1
  have l2 := A1.c2
  have l3 := A1.c3
  have l4 := A1.c4
  have l5 := A1.c5
  have l6 := A1.c6
  have HA1 := hide A1
  clear h1 g1 A1
  go_wp2_with fail
  by_cases hge : a ≤ s
  · have hd1 : decide ((a : Int) ≤ (s : Int)) = true := by simpa using hge
    go_quiet (fail)
    go_wp2_with fail
    generalize hwq : w1.drewN nq = w2 at *
    have H2 : Hid (AK w2 ab b T O (makingF r.S O T n c s l p) r) := by rw [← hwq]; exact H1.out.fr ((Fr.refl _ _).drewN _)
    have G2 : Hid (Fr (fun k => k = ab) w w2) := by rw [← hwq]; exact G1.out.drewN _
    clear hwq H1 G1 l0 l1 l2 l3 l4 l5 l6 HA1
    go_loopw [6, 7] (fun bv cv w' => ∃ (k : Nat) (x : Bool), a ≤ k ∧ k ≤ e ∧ cv = .int .i64 k ∧ bv = .bool x ∧ (x = true ↔ busyS r.S c s a e k) ∧ Below w2.heap.size w2 w') (fun _ cv _ => 32 - (intOf cv).toNat)
    case atStart => exact ⟨a, _, Nat.le_refl _, hae, rfl, rfl, by rw [busyS_start]; simp; try omega, Below.refl _ _⟩
    case round =>
      obtain ⟨k, x, hk1, hk2, rfl, rfl, hxk, hb⟩ := hrel
      have H3 := hide (H2.out.fr (Fr.of_below hb))
      have G3 := hide (G2.out.trans (Fr.of_below hb))
      have A3 := HA.out.fr G3.out hab
      have l0 := A3.c0
      have l4 := A3.c4
      have l5 := A3.c5
      have l6 := A3.c6
      have HA3 := hide A3
      obtain ⟨d0, -, -, -, -, -, -⟩ := H3.out.ask.cells
      have HXK := hide hxk
      have HBk := hide hb
      have hbw := H3.out.rk.lt
      have hbw2 : lb < wr.heap.size := A3.lt
      have hbw3 : ab < wr.heap.size := Blk.lt H3.out.ask
      clear A3 hb hxk
      by_cases hke : k < e
      · have hk32 : k < 32 := by omega
        have hki : (k : Int) < 32 := by omega
        obtain ⟨k0, -⟩ := H3.out.rk.things hk32
        go_wp2_with fail
        have v0 := later_cell d0 hbw3
        have v1 := later_cell k0 hbw
        have v2 := later_cell l0 hbw2
        have PL := hide (fun y : Later wr => Calls.later_of (x := y) (lies_any y.1 b r k (H3.out.rk.below y.2 hbw) H3.out.wf))
        clear l4 l5 l6 d0 k0 l0
        rcases Bool.eq_false_or_eq_true x with rfl | rfl
        · clear PL
          have hne : Nonempty (Later wr) := ⟨⟨wr, Below.refl _ _⟩⟩
          refine wp_region_later (by kernel_rfl) (by kernel_rfl) ?_
          repeat (go_big_quiet_step (fail))
          refine wpQuiet_nil ?_
          rintro _ ⟨wl, rfl⟩
          clear hne
          go_wp2_with fail
          exact ⟨⟨k + 1, _, by omega, by omega, by go_num, rfl, by rw [busyS_succ hk1, ← HXK.out]; simp, HBk.out.trans (wl.2.mono HBk.out.size)⟩, by simp [intOf]; omega⟩
        · by_cases hk0 : (r.S k).kind = 0
          · have hk0' : ((r.S k).kind != 0) = false := by simpa using hk0
            have HK0 := hide hk0
            clear hk0
            have hne : Nonempty (Later wr) := ⟨⟨wr, Below.refl _ _⟩⟩
            refine wp_region_later (by kernel_rfl) (by kernel_rfl) ?_
            repeat (go_big_quiet_step (((go_at_call 64; exact PL.out _))))
            refine wpQuiet_nil ?_
            rintro _ ⟨wl, rfl⟩
            clear hne
            go_wp2_with fail
            exact ⟨⟨k + 1, _, by omega, by omega, by go_num, rfl, by rw [busyS_succ hk1, ← HXK.out]; simp [HK0.out, oi_eq], HBk.out.trans (wl.2.mono HBk.out.size)⟩, by simp [intOf]; omega⟩
          · have hk0' : ((r.S k).kind != 0) = true := by simpa using hk0
            have HK0 := hide hk0
            clear hk0
            have hne : Nonempty (Later wr) := ⟨⟨wr, Below.refl _ _⟩⟩
            refine wp_region_later (by kernel_rfl) (by kernel_rfl) ?_
            repeat (go_big_quiet_step (fail))
            refine wpQuiet_nil ?_
            rintro _ ⟨wl, rfl⟩
            clear hne
            go_wp2_with fail
            exact ⟨⟨k + 1, _, by omega, by omega, by go_num, rfl, by rw [busyS_succ hk1, ← HXK.out]; simp [HK0.out], HBk.out.trans (wl.2.mono HBk.out.size)⟩, by simp [intOf]; omega⟩
      · have hke' : k = e := by omega
        subst hke'
        go_wp2_with fail
        clear hke l0 l4 l5 l6 d0
        have HXS := HXK
        have x0 := x
        clear HXK H2 G2 HBk
        have HW := hide (Below.refl wr.heap.size wr)
        go_loopw [6, 8] (fun bv cv w' => ∃ (j : Nat) (y : Bool), g ≤ j ∧ j ≤ h ∧ cv = .int .i64 j ∧ bv = .bool y ∧ (y = true ↔ (busyS r.S c s a k k ∨ busyQ r.S c g j)) ∧ Below wr.heap.size wr w') (fun _ cv _ => 8 - (intOf cv).toNat)
        case atStart => exact ⟨g, _, Nat.le_refl _, hgh, rfl, rfl, by rw [HXS.out]; simp [busyQ_start], Below.refl _ _⟩
        case round =>
          obtain ⟨j, y, hj1, hj2, rfl, rfl, hyj, hb⟩ := hrel
          have H4 := hide (H3.out.fr (Fr.of_below hb))
          have G4 := hide (G3.out.trans (Fr.of_below hb))
          have A4 := HA.out.fr G4.out hab
          have l0 := A4.c0
          have l1 := A4.c1
          have l2 := A4.c2
          have l3 := A4.c3
          have l4 := A4.c4
          have l5 := A4.c5
          have l6 := A4.c6
          obtain ⟨d0, -, -, -, -, -, -⟩ := H4.out.ask.cells
          have HYJ := hide hyj
          have HBj := hide hb
          clear hbw hbw2 hbw3
          have hbw := H4.out.rk.lt
          have hbw2 : lb < wr.heap.size := A4.lt
          have hbw3 : ab < wr.heap.size := Blk.lt H4.out.ask
          clear A4 hb hyj HA3
          by_cases hjh : j < h
          · have hj8 : j < 8 := by omega
            go_wp2_with fail
            have v0 := later_cell d0 hbw3
            have v2 := later_cell l0 hbw2
            have PL := hide (fun y : Later wr => Calls.later_of (x := y) (has_any y.1 b r j (H4.out.rk.below y.2 hbw) H4.out.wf))
            clear l0 l1 l2 l3 l4 l5 l6 d0
            rcases Bool.eq_false_or_eq_true y with rfl | rfl
            · clear PL
              have hne : Nonempty (Later wr) := ⟨⟨wr, Below.refl _ _⟩⟩
              refine wp_region_later (by kernel_rfl) (by kernel_rfl) ?_
              repeat (go_big_quiet_step (fail))
              refine wpQuiet_nil ?_
              rintro _ ⟨wl, rfl⟩
              clear hne
              go_wp2_with fail
              exact ⟨⟨j + 1, _, by omega, by omega, by go_num, rfl, by rw [busyQ_succ hj1, ← or_assoc, ← HYJ.out]; simp, HBj.out.trans (wl.2.mono HBj.out.size)⟩, by simp [intOf]; omega⟩
            · have hdum : True := trivial
              have hne : Nonempty (Later wr) := ⟨⟨wr, Below.refl _ _⟩⟩
              refine wp_region_later (by kernel_rfl) (by kernel_rfl) ?_
              repeat (go_big_quiet_step (((go_at_call 66; exact PL.out _))))
              refine wpQuiet_nil ?_
              rintro _ ⟨wl, rfl⟩
              clear hne
              go_wp2_with fail
              exact ⟨⟨j + 1, _, by omega, by omega, by go_num, rfl, by rw [busyQ_succ hj1, ← or_assoc, ← HYJ.out]; simp [oi_eq], HBj.out.trans (wl.2.mono HBj.out.size)⟩, by simp [intOf]; omega⟩
          · have hjh' : j = h := by omega
            subst hjh'
            rcases Bool.eq_false_or_eq_true y with rfl | rfl
            · have HB1 : Hid (busyS r.S c s a k k ∨ busyQ r.S c g j) := HYJ.out.1 rfl
              have EQ : Hid (q = failed 7 (makingF r.S O T n c s l p)) := by
                rcases HQ0.out with h1 | h1
                · exact h1.2
                · exact absurd HB1.out h1.1
              go_wp2_with fail
              refine (fail_any _ _ _ _ _ _ _ 7 H4.out (by omega)).mono ?_
              rintro e0 w5 ⟨rfl, h5, g5⟩
              rw [← EQ.out] at h5
              have H5 := hide h5
              have G5 := hide (G4.out.trans g5)
              clear h5 g5
              clear l0 l1 l2 l3 l4 l5 l6 d0 HYJ HBj hbw hbw2 hbw3 H4 G4 H3 G3 HXS HW hjh
              have A5 := HA.out.fr G5.out hab
              have l1 := A5.c1
              have l2 := A5.c2
              have l3 := A5.c3
              have l4 := A5.c4
              have l5 := A5.c5
              have l6 := A5.c6
              clear A5
              go_wp2_with fail
              go_still_tail 20, (by kernel_rfl)
              go_wp2_with fail
              refine (put_if _ ab b T O q r s ⟨1, l, 0, none, 0, 0, 0, false, a, k, g, j⟩ (H5.out.fr (by (repeat (first | exact Fr.refl _ _ | refine Fr.drew ?_ | refine Fr.drewN ?_ _ | refine Fr.alloc ?_ _)))) hs (cont_wf HL.out hae he) hm hm2).mono ?_
              rintro e0 w6 ⟨rfl, h6, g6⟩
              have H6 := hide h6
              have G6 : Hid (Fr (fun i => i = ab ∨ i = b) w w6) := ((G5.out.mono (fun _ _ h => Or.inl h)).drew).trans (g6.mono (fun _ _ h => Or.inr h))
              have hlbN : ¬ (lb = ab ∨ lb = b) := fun h => h.elim hab hlb
              clear h6 g6 l1 l2 l3 l4 l5 l6 H5 G5
              have l5 := (HA.out.fr G6.out hlbN).c5
              by_cases hq : q.2 = 0
              · have ER : Hid (r' = (r.putIf q s ⟨1, l, 0, none, 0, 0, 0, false, a, k, g, j⟩).idle g j) := by rw [HR'.out, if_pos hq]; exact rfl
                have HQ := hide hq
                clear hq
                generalize r.putIf q s ⟨1, l, 0, none, 0, 0, 0, false, a, k, g, j⟩ = r1 at *
                go_wp2_with fail
                go_loopw [9] (fun cv w' => ∃ m : Nat, g ≤ m ∧ m ≤ j ∧ cv = .int .i64 m ∧ AK w' ab b T O q (r1.idle g m) ∧ Fr (fun i => i = ab ∨ i = b) w w') (fun cv _ => 8 - (intOf cv).toNat)
                case atStart => exact ⟨g, Nat.le_refl _, hgh, rfl, by rw [RSt.idle_self]; exact H6.out, G6.out⟩
                case round =>
                  clear H6 G6 l5
                  obtain ⟨m, hm1, hm2', rfl, h7, g7⟩ := hrel
                  have H7 := hide h7
                  have G7 := hide g7
                  have l6 := (HA.out.fr g7 hlbN).c6
                  obtain ⟨d0, -, -, -, d4, -, -⟩ := h7.ask.cells
                  rw [HQ.out] at d4
                  have hfr : ∀ i, wr.frozen? ⟨b, i, none⟩ = false := fun i => h7.rk.frozen i
                  have hbw := h7.rk.lt
                  clear h7 g7
                  by_cases hmj : m < j
                  · have hm8 : m < 8 := by omega
                    have hdm : decide ((m : Int) < (j : Int)) = true := by simpa using hmj
                    obtain ⟨t0, t1⟩ := H7.out.rk.turn hm8
                    go_wp2_with fail
                    refine ⟨⟨m + 1, by omega, by omega, by go_num, ?_, ?_⟩, by simp [intOf]; omega⟩
                    · have h9 := H7.out.rk.putTurn hm8 0 0
                      rw [RSt.idle_succ _ (by omega)] at h9
                      exact H7.out.kturned ((Fr.own wr b _ _).trans (Fr.own _ b _ _)) h9 H7.out.wf
                    · exact G7.out.trans (((Fr.own wr b _ _).trans (Fr.own _ b _ _)).mono (fun _ _ h => Or.inr h))
                  · have hdm : decide ((m : Int) < (j : Int)) = false := by simpa using hmj
                    go_wp2_with fail
                    go_end0
                    have hmj' : m = j := by omega
                    subst hmj'
                    exact ⟨rfl, by rw [ER.out]; exact H7.out, G7.out⟩
              · have ER : Hid (r' = r) := by rw [HR'.out, if_neg hq]; exact rfl
                have ER2 : Hid (r.putIf q s ⟨1, l, 0, none, 0, 0, 0, false, a, k, g, j⟩ = r) := if_neg hq
                have HQ := hide hq
                have hq' : (q.2 == 0) = false := by simpa using hq
                clear hq
                go_wp2_with fail
                go_loopw [9] (fun cv w' => cv = .int .i64 g ∧ AK w' ab b T O q r ∧ Fr (fun i => i = ab ∨ i = b) w w') (fun _ _ => 0)
                case atStart => exact ⟨rfl, by have := H6.out; rw [ER2.out] at this; exact this, G6.out⟩
                case round =>
                  clear H6 G6 l5
                  obtain ⟨rfl, h7, g7⟩ := hrel
                  have H7 := hide h7
                  have G7 := hide g7
                  have l6 := (HA.out.fr g7 hlbN).c6
                  obtain ⟨d0, -, -, -, d4, -, -⟩ := h7.ask.cells
                  clear h7 g7
                  by_cases hmj : g < j
                  · have hdm : decide ((g : Int) < (j : Int)) = true := by simpa using hmj
                    go_wp2_with fail
                    go_end0
                    exact ⟨rfl, by rw [ER.out]; exact H7.out, G7.out⟩
                  · have hdm : decide ((g : Int) < (j : Int)) = false := by simpa using hmj
                    go_wp2_with fail
                    go_end0
                    exact ⟨rfl, by rw [ER.out]; exact H7.out, G7.out⟩
            · have HB1 : Hid (¬ (busyS r.S c s a k k ∨ busyQ r.S c g j)) := fun h1 => by have := HYJ.out.2 h1; cases this
              have EQ : Hid (q = makingF r.S O T n c s l p) := by
                rcases HQ0.out with h1 | h1
                · exact absurd h1.1 HB1.out
                · exact h1.2
              have H5 : Hid (AK wr ab b T O q r) := by rw [EQ.out]; exact H4.out
              have G5 := G4
              generalize hw5 : wr = w5 at *
              clear l0 l1 l2 l3 l4 l5 l6 d0 HYJ HBj hbw hbw2 hbw3 H4 G4 H3 G3 HXS HW hjh
              have A5 := HA.out.fr G5.out hab
              have l1 := A5.c1
              have l2 := A5.c2
              have l3 := A5.c3
              have l4 := A5.c4
              have l5 := A5.c5
              have l6 := A5.c6
              clear A5
              go_wp2_with fail
              go_still_tail 20, (by kernel_rfl)
              go_wp2_with fail
              refine (put_if _ ab b T O q r s ⟨1, l, 0, none, 0, 0, 0, false, a, k, g, j⟩ (H5.out.fr (by (repeat (first | exact Fr.refl _ _ | refine Fr.drew ?_ | refine Fr.drewN ?_ _ | refine Fr.alloc ?_ _)))) hs (cont_wf HL.out hae he) hm hm2).mono ?_
              rintro e0 w6 ⟨rfl, h6, g6⟩
              have H6 := hide h6
              have G6 : Hid (Fr (fun i => i = ab ∨ i = b) w w6) := ((G5.out.mono (fun _ _ h => Or.inl h)).drew).trans (g6.mono (fun _ _ h => Or.inr h))
              have hlbN : ¬ (lb = ab ∨ lb = b) := fun h => h.elim hab hlb
              clear h6 g6 l1 l2 l3 l4 l5 l6 H5 G5
              have l5 := (HA.out.fr G6.out hlbN).c5
              by_cases hq : q.2 = 0
              · have ER : Hid (r' = (r.putIf q s ⟨1, l, 0, none, 0, 0, 0, false, a, k, g, j⟩).idle g j) := by rw [HR'.out, if_pos hq]; exact rfl
                have HQ := hide hq
                clear hq
                generalize r.putIf q s ⟨1, l, 0, none, 0, 0, 0, false, a, k, g, j⟩ = r1 at *
                go_wp2_with fail
                go_loopw [9] (fun cv w' => ∃ m : Nat, g ≤ m ∧ m ≤ j ∧ cv = .int .i64 m ∧ AK w' ab b T O q (r1.idle g m) ∧ Fr (fun i => i = ab ∨ i = b) w w') (fun cv _ => 8 - (intOf cv).toNat)
                case atStart => exact ⟨g, Nat.le_refl _, hgh, rfl, by rw [RSt.idle_self]; exact H6.out, G6.out⟩
                case round =>
                  clear H6 G6 l5
                  obtain ⟨m, hm1, hm2', rfl, h7, g7⟩ := hrel
                  have H7 := hide h7
                  have G7 := hide g7
                  have l6 := (HA.out.fr g7 hlbN).c6
                  obtain ⟨d0, -, -, -, d4, -, -⟩ := h7.ask.cells
                  rw [HQ.out] at d4
                  have hfr : ∀ i, wr.frozen? ⟨b, i, none⟩ = false := fun i => h7.rk.frozen i
                  have hbw := h7.rk.lt
                  clear h7 g7
                  by_cases hmj : m < j
                  · have hm8 : m < 8 := by omega
                    have hdm : decide ((m : Int) < (j : Int)) = true := by simpa using hmj
                    obtain ⟨t0, t1⟩ := H7.out.rk.turn hm8
                    go_wp2_with fail
                    refine ⟨⟨m + 1, by omega, by omega, by go_num, ?_, ?_⟩, by simp [intOf]; omega⟩
                    · have h9 := H7.out.rk.putTurn hm8 0 0
                      rw [RSt.idle_succ _ (by omega)] at h9
                      exact H7.out.kturned ((Fr.own wr b _ _).trans (Fr.own _ b _ _)) h9 H7.out.wf
                    · exact G7.out.trans (((Fr.own wr b _ _).trans (Fr.own _ b _ _)).mono (fun _ _ h => Or.inr h))
                  · have hdm : decide ((m : Int) < (j : Int)) = false := by simpa using hmj
                    go_wp2_with fail
                    go_end0
                    have hmj' : m = j := by omega
                    subst hmj'
                    exact ⟨rfl, by rw [ER.out]; exact H7.out, G7.out⟩
              · have ER : Hid (r' = r) := by rw [HR'.out, if_neg hq]; exact rfl
                have ER2 : Hid (r.putIf q s ⟨1, l, 0, none, 0, 0, 0, false, a, k, g, j⟩ = r) := if_neg hq
                have HQ := hide hq
                have hq' : (q.2 == 0) = false := by simpa using hq
                clear hq
                go_wp2_with fail
                go_loopw [9] (fun cv w' => cv = .int .i64 g ∧ AK w' ab b T O q r ∧ Fr (fun i => i = ab ∨ i = b) w w') (fun _ _ => 0)
                case atStart => exact ⟨rfl, by have := H6.out; rw [ER2.out] at this; exact this, G6.out⟩
                case round =>
                  clear H6 G6 l5
                  obtain ⟨rfl, h7, g7⟩ := hrel
                  have H7 := hide h7
                  have G7 := hide g7
                  have l6 := (HA.out.fr g7 hlbN).c6
                  obtain ⟨d0, -, -, -, d4, -, -⟩ := h7.ask.cells
                  clear h7 g7
                  by_cases hmj : g < j
                  · have hdm : decide ((g : Int) < (j : Int)) = true := by simpa using hmj
                    go_wp2_with fail
                    go_end0
                    exact ⟨rfl, by rw [ER.out]; exact H7.out, G7.out⟩
                  · have hdm : decide ((g : Int) < (j : Int)) = false := by simpa using hmj
                    go_wp2_with fail
                    go_end0
                    exact ⟨rfl, by rw [ER.out]; exact H7.out, G7.out⟩

  · have hd1 : decide ((a : Int) ≤ (s : Int)) = false := by simpa using hge
    go_quiet (fail)
    go_wp2_with fail
    generalize hwq : w1.drewN nq = w2 at *
    have H2 : Hid (AK w2 ab b T O (makingF r.S O T n c s l p) r) := by rw [← hwq]; exact H1.out.fr ((Fr.refl _ _).drewN _)
    have G2 : Hid (Fr (fun k => k = ab) w w2) := by rw [← hwq]; exact G1.out.drewN _
    clear hwq H1 G1 l0 l1 l2 l3 l4 l5 l6 HA1
    go_loopw [6, 7] (fun bv cv w' => ∃ (k : Nat) (x : Bool), a ≤ k ∧ k ≤ e ∧ cv = .int .i64 k ∧ bv = .bool x ∧ (x = true ↔ busyS r.S c s a e k) ∧ Below w2.heap.size w2 w') (fun _ cv _ => 32 - (intOf cv).toNat)
    case atStart => exact ⟨a, _, Nat.le_refl _, hae, rfl, rfl, by rw [busyS_start]; simp; try omega, Below.refl _ _⟩
    case round =>
      obtain ⟨k, x, hk1, hk2, rfl, rfl, hxk, hb⟩ := hrel
      have H3 := hide (H2.out.fr (Fr.of_below hb))
      have G3 := hide (G2.out.trans (Fr.of_below hb))
      have A3 := HA.out.fr G3.out hab
      have l0 := A3.c0
      have l4 := A3.c4
      have l5 := A3.c5
      have l6 := A3.c6
      have HA3 := hide A3
      obtain ⟨d0, -, -, -, -, -, -⟩ := H3.out.ask.cells
      have HXK := hide hxk
      have HBk := hide hb
      have hbw := H3.out.rk.lt
      have hbw2 : lb < wr.heap.size := A3.lt
      have hbw3 : ab < wr.heap.size := Blk.lt H3.out.ask
      clear A3 hb hxk
      by_cases hke : k < e
      · have hk32 : k < 32 := by omega
        have hki : (k : Int) < 32 := by omega
        obtain ⟨k0, -⟩ := H3.out.rk.things hk32
        go_wp2_with fail
        have v0 := later_cell d0 hbw3
        have v1 := later_cell k0 hbw
        have v2 := later_cell l0 hbw2
        have PL := hide (fun y : Later wr => Calls.later_of (x := y) (lies_any y.1 b r k (H3.out.rk.below y.2 hbw) H3.out.wf))
        clear l4 l5 l6 d0 k0 l0
        rcases Bool.eq_false_or_eq_true x with rfl | rfl
        · clear PL
          have hne : Nonempty (Later wr) := ⟨⟨wr, Below.refl _ _⟩⟩
          refine wp_region_later (by kernel_rfl) (by kernel_rfl) ?_
          repeat (go_big_quiet_step (fail))
          refine wpQuiet_nil ?_
          rintro _ ⟨wl, rfl⟩
          clear hne
          go_wp2_with fail
          exact ⟨⟨k + 1, _, by omega, by omega, by go_num, rfl, by rw [busyS_succ hk1, ← HXK.out]; simp, HBk.out.trans (wl.2.mono HBk.out.size)⟩, by simp [intOf]; omega⟩
        · by_cases hk0 : (r.S k).kind = 0
          · have hk0' : ((r.S k).kind != 0) = false := by simpa using hk0
            have HK0 := hide hk0
            clear hk0
            have hne : Nonempty (Later wr) := ⟨⟨wr, Below.refl _ _⟩⟩
            refine wp_region_later (by kernel_rfl) (by kernel_rfl) ?_
            repeat (go_big_quiet_step (((go_at_call 64; exact PL.out _))))
            refine wpQuiet_nil ?_
            rintro _ ⟨wl, rfl⟩
            clear hne
            go_wp2_with fail
            exact ⟨⟨k + 1, _, by omega, by omega, by go_num, rfl, by rw [busyS_succ hk1, ← HXK.out]; simp [HK0.out, oi_eq], HBk.out.trans (wl.2.mono HBk.out.size)⟩, by simp [intOf]; omega⟩
          · have hk0' : ((r.S k).kind != 0) = true := by simpa using hk0
            have HK0 := hide hk0
            clear hk0
            have hne : Nonempty (Later wr) := ⟨⟨wr, Below.refl _ _⟩⟩
            refine wp_region_later (by kernel_rfl) (by kernel_rfl) ?_
            repeat (go_big_quiet_step (fail))
            refine wpQuiet_nil ?_
            rintro _ ⟨wl, rfl⟩
            clear hne
            go_wp2_with fail
            exact ⟨⟨k + 1, _, by omega, by omega, by go_num, rfl, by rw [busyS_succ hk1, ← HXK.out]; simp [HK0.out], HBk.out.trans (wl.2.mono HBk.out.size)⟩, by simp [intOf]; omega⟩
      · have hke' : k = e := by omega
        subst hke'
        go_wp2_with fail
        clear hke l0 l4 l5 l6 d0
        have HXS := HXK
        have x0 := x
        clear HXK H2 G2 HBk
        have HW := hide (Below.refl wr.heap.size wr)
        go_loopw [6, 8] (fun bv cv w' => ∃ (j : Nat) (y : Bool), g ≤ j ∧ j ≤ h ∧ cv = .int .i64 j ∧ bv = .bool y ∧ (y = true ↔ (busyS r.S c s a k k ∨ busyQ r.S c g j)) ∧ Below wr.heap.size wr w') (fun _ cv _ => 8 - (intOf cv).toNat)
        case atStart => exact ⟨g, _, Nat.le_refl _, hgh, rfl, rfl, by rw [HXS.out]; simp [busyQ_start], Below.refl _ _⟩
        case round =>
          obtain ⟨j, y, hj1, hj2, rfl, rfl, hyj, hb⟩ := hrel
          have H4 := hide (H3.out.fr (Fr.of_below hb))
          have G4 := hide (G3.out.trans (Fr.of_below hb))
          have A4 := HA.out.fr G4.out hab
          have l0 := A4.c0
          have l1 := A4.c1
          have l2 := A4.c2
          have l3 := A4.c3
          have l4 := A4.c4
          have l5 := A4.c5
          have l6 := A4.c6
          obtain ⟨d0, -, -, -, -, -, -⟩ := H4.out.ask.cells
          have HYJ := hide hyj
          have HBj := hide hb
          clear hbw hbw2 hbw3
          have hbw := H4.out.rk.lt
          have hbw2 : lb < wr.heap.size := A4.lt
          have hbw3 : ab < wr.heap.size := Blk.lt H4.out.ask
          clear A4 hb hyj HA3
          by_cases hjh : j < h
          · have hj8 : j < 8 := by omega
            go_wp2_with fail
            have v0 := later_cell d0 hbw3
            have v2 := later_cell l0 hbw2
            have PL := hide (fun y : Later wr => Calls.later_of (x := y) (has_any y.1 b r j (H4.out.rk.below y.2 hbw) H4.out.wf))
            clear l0 l1 l2 l3 l4 l5 l6 d0
            rcases Bool.eq_false_or_eq_true y with rfl | rfl
            · clear PL
              have hne : Nonempty (Later wr) := ⟨⟨wr, Below.refl _ _⟩⟩
              refine wp_region_later (by kernel_rfl) (by kernel_rfl) ?_
              repeat (go_big_quiet_step (fail))
              refine wpQuiet_nil ?_
              rintro _ ⟨wl, rfl⟩
              clear hne
              go_wp2_with fail
              exact ⟨⟨j + 1, _, by omega, by omega, by go_num, rfl, by rw [busyQ_succ hj1, ← or_assoc, ← HYJ.out]; simp, HBj.out.trans (wl.2.mono HBj.out.size)⟩, by simp [intOf]; omega⟩
            · have hdum : True := trivial
              have hne : Nonempty (Later wr) := ⟨⟨wr, Below.refl _ _⟩⟩
              refine wp_region_later (by kernel_rfl) (by kernel_rfl) ?_
              repeat (go_big_quiet_step (((go_at_call 66; exact PL.out _))))
              refine wpQuiet_nil ?_
              rintro _ ⟨wl, rfl⟩
              clear hne
              go_wp2_with fail
              exact ⟨⟨j + 1, _, by omega, by omega, by go_num, rfl, by rw [busyQ_succ hj1, ← or_assoc, ← HYJ.out]; simp [oi_eq], HBj.out.trans (wl.2.mono HBj.out.size)⟩, by simp [intOf]; omega⟩
          · have hjh' : j = h := by omega
            subst hjh'
            rcases Bool.eq_false_or_eq_true y with rfl | rfl
            · have HB1 : Hid (busyS r.S c s a k k ∨ busyQ r.S c g j) := HYJ.out.1 rfl
              have EQ : Hid (q = failed 7 (makingF r.S O T n c s l p)) := by
                rcases HQ0.out with h1 | h1
                · exact h1.2
                · exact absurd HB1.out h1.1
              go_wp2_with fail
              refine (fail_any _ _ _ _ _ _ _ 7 H4.out (by omega)).mono ?_
              rintro e0 w5 ⟨rfl, h5, g5⟩
              rw [← EQ.out] at h5
              have H5 := hide h5
              have G5 := hide (G4.out.trans g5)
              clear h5 g5
              clear l0 l1 l2 l3 l4 l5 l6 d0 HYJ HBj hbw hbw2 hbw3 H4 G4 H3 G3 HXS HW hjh
              have A5 := HA.out.fr G5.out hab
              have l1 := A5.c1
              have l2 := A5.c2
              have l3 := A5.c3
              have l4 := A5.c4
              have l5 := A5.c5
              have l6 := A5.c6
              clear A5
              go_wp2_with fail
              go_still_tail 20, (by kernel_rfl)
              go_wp2_with fail
              refine (put_if _ ab b T O q r s ⟨1, l, 0, none, 0, 0, 0, false, a, k, g, j⟩ (H5.out.fr (by (repeat (first | exact Fr.refl _ _ | refine Fr.drew ?_ | refine Fr.drewN ?_ _ | refine Fr.alloc ?_ _)))) hs (cont_wf HL.out hae he) hm hm2).mono ?_
              rintro e0 w6 ⟨rfl, h6, g6⟩
              have H6 := hide h6
              have G6 : Hid (Fr (fun i => i = ab ∨ i = b) w w6) := ((G5.out.mono (fun _ _ h => Or.inl h)).drew).trans (g6.mono (fun _ _ h => Or.inr h))
              have hlbN : ¬ (lb = ab ∨ lb = b) := fun h => h.elim hab hlb
              clear h6 g6 l1 l2 l3 l4 l5 l6 H5 G5
              have l5 := (HA.out.fr G6.out hlbN).c5
              by_cases hq : q.2 = 0
              · have ER : Hid (r' = (r.putIf q s ⟨1, l, 0, none, 0, 0, 0, false, a, k, g, j⟩).idle g j) := by rw [HR'.out, if_pos hq]; exact rfl
                have HQ := hide hq
                clear hq
                generalize r.putIf q s ⟨1, l, 0, none, 0, 0, 0, false, a, k, g, j⟩ = r1 at *
                go_wp2_with fail
                go_loopw [9] (fun cv w' => ∃ m : Nat, g ≤ m ∧ m ≤ j ∧ cv = .int .i64 m ∧ AK w' ab b T O q (r1.idle g m) ∧ Fr (fun i => i = ab ∨ i = b) w w') (fun cv _ => 8 - (intOf cv).toNat)
                case atStart => exact ⟨g, Nat.le_refl _, hgh, rfl, by rw [RSt.idle_self]; exact H6.out, G6.out⟩
                case round =>
                  clear H6 G6 l5
                  obtain ⟨m, hm1, hm2', rfl, h7, g7⟩ := hrel
                  have H7 := hide h7
                  have G7 := hide g7
                  have l6 := (HA.out.fr g7 hlbN).c6
                  obtain ⟨d0, -, -, -, d4, -, -⟩ := h7.ask.cells
                  rw [HQ.out] at d4
                  have hfr : ∀ i, wr.frozen? ⟨b, i, none⟩ = false := fun i => h7.rk.frozen i
                  have hbw := h7.rk.lt
                  clear h7 g7
                  by_cases hmj : m < j
                  · have hm8 : m < 8 := by omega
                    have hdm : decide ((m : Int) < (j : Int)) = true := by simpa using hmj
                    obtain ⟨t0, t1⟩ := H7.out.rk.turn hm8
                    go_wp2_with fail
                    refine ⟨⟨m + 1, by omega, by omega, by go_num, ?_, ?_⟩, by simp [intOf]; omega⟩
                    · have h9 := H7.out.rk.putTurn hm8 0 0
                      rw [RSt.idle_succ _ (by omega)] at h9
                      exact H7.out.kturned ((Fr.own wr b _ _).trans (Fr.own _ b _ _)) h9 H7.out.wf
                    · exact G7.out.trans (((Fr.own wr b _ _).trans (Fr.own _ b _ _)).mono (fun _ _ h => Or.inr h))
                  · have hdm : decide ((m : Int) < (j : Int)) = false := by simpa using hmj
                    go_wp2_with fail
                    go_end0
                    have hmj' : m = j := by omega
                    subst hmj'
                    exact ⟨rfl, by rw [ER.out]; exact H7.out, G7.out⟩
              · have ER : Hid (r' = r) := by rw [HR'.out, if_neg hq]; exact rfl
                have ER2 : Hid (r.putIf q s ⟨1, l, 0, none, 0, 0, 0, false, a, k, g, j⟩ = r) := if_neg hq
                have HQ := hide hq
                have hq' : (q.2 == 0) = false := by simpa using hq
                clear hq
                go_wp2_with fail
                go_loopw [9] (fun cv w' => cv = .int .i64 g ∧ AK w' ab b T O q r ∧ Fr (fun i => i = ab ∨ i = b) w w') (fun _ _ => 0)
                case atStart => exact ⟨rfl, by have := H6.out; rw [ER2.out] at this; exact this, G6.out⟩
                case round =>
                  clear H6 G6 l5
                  obtain ⟨rfl, h7, g7⟩ := hrel
                  have H7 := hide h7
                  have G7 := hide g7
                  have l6 := (HA.out.fr g7 hlbN).c6
                  obtain ⟨d0, -, -, -, d4, -, -⟩ := h7.ask.cells
                  clear h7 g7
                  by_cases hmj : g < j
                  · have hdm : decide ((g : Int) < (j : Int)) = true := by simpa using hmj
                    go_wp2_with fail
                    go_end0
                    exact ⟨rfl, by rw [ER.out]; exact H7.out, G7.out⟩
                  · have hdm : decide ((g : Int) < (j : Int)) = false := by simpa using hmj
                    go_wp2_with fail
                    go_end0
                    exact ⟨rfl, by rw [ER.out]; exact H7.out, G7.out⟩
            · have HB1 : Hid (¬ (busyS r.S c s a k k ∨ busyQ r.S c g j)) := fun h1 => by have := HYJ.out.2 h1; cases this
              have EQ : Hid (q = makingF r.S O T n c s l p) := by
                rcases HQ0.out with h1 | h1
                · exact absurd h1.1 HB1.out
                · exact h1.2
              have H5 : Hid (AK wr ab b T O q r) := by rw [EQ.out]; exact H4.out
              have G5 := G4
              generalize hw5 : wr = w5 at *
              clear l0 l1 l2 l3 l4 l5 l6 d0 HYJ HBj hbw hbw2 hbw3 H4 G4 H3 G3 HXS HW hjh
              have A5 := HA.out.fr G5.out hab
              have l1 := A5.c1
              have l2 := A5.c2
              have l3 := A5.c3
              have l4 := A5.c4
              have l5 := A5.c5
              have l6 := A5.c6
              clear A5
              go_wp2_with fail
              go_still_tail 20, (by kernel_rfl)
              go_wp2_with fail
              refine (put_if _ ab b T O q r s ⟨1, l, 0, none, 0, 0, 0, false, a, k, g, j⟩ (H5.out.fr (by (repeat (first | exact Fr.refl _ _ | refine Fr.drew ?_ | refine Fr.drewN ?_ _ | refine Fr.alloc ?_ _)))) hs (cont_wf HL.out hae he) hm hm2).mono ?_
              rintro e0 w6 ⟨rfl, h6, g6⟩
              have H6 := hide h6
              have G6 : Hid (Fr (fun i => i = ab ∨ i = b) w w6) := ((G5.out.mono (fun _ _ h => Or.inl h)).drew).trans (g6.mono (fun _ _ h => Or.inr h))
              have hlbN : ¬ (lb = ab ∨ lb = b) := fun h => h.elim hab hlb
              clear h6 g6 l1 l2 l3 l4 l5 l6 H5 G5
              have l5 := (HA.out.fr G6.out hlbN).c5
              by_cases hq : q.2 = 0
              · have ER : Hid (r' = (r.putIf q s ⟨1, l, 0, none, 0, 0, 0, false, a, k, g, j⟩).idle g j) := by rw [HR'.out, if_pos hq]; exact rfl
                have HQ := hide hq
                clear hq
                generalize r.putIf q s ⟨1, l, 0, none, 0, 0, 0, false, a, k, g, j⟩ = r1 at *
                go_wp2_with fail
                go_loopw [9] (fun cv w' => ∃ m : Nat, g ≤ m ∧ m ≤ j ∧ cv = .int .i64 m ∧ AK w' ab b T O q (r1.idle g m) ∧ Fr (fun i => i = ab ∨ i = b) w w') (fun cv _ => 8 - (intOf cv).toNat)
                case atStart => exact ⟨g, Nat.le_refl _, hgh, rfl, by rw [RSt.idle_self]; exact H6.out, G6.out⟩
                case round =>
                  clear H6 G6 l5
                  obtain ⟨m, hm1, hm2', rfl, h7, g7⟩ := hrel
                  have H7 := hide h7
                  have G7 := hide g7
                  have l6 := (HA.out.fr g7 hlbN).c6
                  obtain ⟨d0, -, -, -, d4, -, -⟩ := h7.ask.cells
                  rw [HQ.out] at d4
                  have hfr : ∀ i, wr.frozen? ⟨b, i, none⟩ = false := fun i => h7.rk.frozen i
                  have hbw := h7.rk.lt
                  clear h7 g7
                  by_cases hmj : m < j
                  · have hm8 : m < 8 := by omega
                    have hdm : decide ((m : Int) < (j : Int)) = true := by simpa using hmj
                    obtain ⟨t0, t1⟩ := H7.out.rk.turn hm8
                    go_wp2_with fail
                    refine ⟨⟨m + 1, by omega, by omega, by go_num, ?_, ?_⟩, by simp [intOf]; omega⟩
                    · have h9 := H7.out.rk.putTurn hm8 0 0
                      rw [RSt.idle_succ _ (by omega)] at h9
                      exact H7.out.kturned ((Fr.own wr b _ _).trans (Fr.own _ b _ _)) h9 H7.out.wf
                    · exact G7.out.trans (((Fr.own wr b _ _).trans (Fr.own _ b _ _)).mono (fun _ _ h => Or.inr h))
                  · have hdm : decide ((m : Int) < (j : Int)) = false := by simpa using hmj
                    go_wp2_with fail
                    go_end0
                    have hmj' : m = j := by omega
                    subst hmj'
                    exact ⟨rfl, by rw [ER.out]; exact H7.out, G7.out⟩
              · have ER : Hid (r' = r) := by rw [HR'.out, if_neg hq]; exact rfl
                have ER2 : Hid (r.putIf q s ⟨1, l, 0, none, 0, 0, 0, false, a, k, g, j⟩ = r) := if_neg hq
                have HQ := hide hq
                have hq' : (q.2 == 0) = false := by simpa using hq
                clear hq
                go_wp2_with fail
                go_loopw [9] (fun cv w' => cv = .int .i64 g ∧ AK w' ab b T O q r ∧ Fr (fun i => i = ab ∨ i = b) w w') (fun _ _ => 0)
                case atStart => exact ⟨rfl, by have := H6.out; rw [ER2.out] at this; exact this, G6.out⟩
                case round =>
                  clear H6 G6 l5
                  obtain ⟨rfl, h7, g7⟩ := hrel
                  have H7 := hide h7
                  have G7 := hide g7
                  have l6 := (HA.out.fr g7 hlbN).c6
                  obtain ⟨d0, -, -, -, d4, -, -⟩ := h7.ask.cells
                  clear h7 g7
                  by_cases hmj : g < j
                  · have hdm : decide ((g : Int) < (j : Int)) = true := by simpa using hmj
                    go_wp2_with fail
                    go_end0
                    exact ⟨rfl, by rw [ER.out]; exact H7.out, G7.out⟩
                  · have hdm : decide ((g : Int) < (j : Int)) = false := by simpa using hmj
                    go_wp2_with fail
                    go_end0
                    exact ⟨rfl, by rw [ER.out]; exact H7.out, G7.out⟩

theorem second_cont_no (n : Nat) (w : World) (ab b T O lb lo cap : Nat) (p : Nat × Int) (r : RSt) (c s l a e g h : Nat) (hk : AK w ab b T O p r) (hc : c < 32) (hs : s < 32) (hl : l < 256) (hae : a ≤ e) (he : e ≤ 32) (hgh : g ≤ h) (hh : h ≤ 8) (hd : deep r.S n c)
    (ha : Arg w lb lo [(c : Int), (s : Int), (l : Int), (a : Int), (e : Int), (g : Int), (h : Int)]) (hab : lb ≠ ab) (hlb : lb ≠ b) (hm : 0 ≤ r.made) (hm2 : r.made < 4611686018427387904) (hb : busyS r.S c s a e e ∨ busyQ r.S c g h) :
    Calls Tryz.prog 42 #[.pointer (some ⟨ab, 0, none⟩), .int .i64 7, .slice (some ⟨lb, lo, none⟩) 7 cap] w fun e' w' => e' = .returned (.tuple #[]) ∧
      AK w' ab b T O (failed 7 (makingF r.S O T n c s l p)) r ∧ Fr (fun k => k = ab ∨ k = b) w w' := by
  have hne : (failed 7 (makingF r.S O T n c s l p)).2 ≠ 0 := by
    unfold failed
    split
    · simp
    · assumption
  exact second_cont' n w ab b T O lb lo cap p r c s l a e g h hk hc hs hl hae he hgh hh hd ha hab hlb hm hm2 _ r (Or.inl ⟨hb, rfl⟩) (by rw [if_neg hne])

theorem second_cont (n : Nat) (w : World) (ab b T O lb lo cap : Nat) (p : Nat × Int) (r : RSt) (c s l a e g h : Nat) (hk : AK w ab b T O p r) (hc : c < 32) (hs : s < 32) (hl : l < 256) (hae : a ≤ e) (he : e ≤ 32) (hgh : g ≤ h) (hh : h ≤ 8) (hd : deep r.S n c)
    (ha : Arg w lb lo [(c : Int), (s : Int), (l : Int), (a : Int), (e : Int), (g : Int), (h : Int)]) (hab : lb ≠ ab) (hlb : lb ≠ b) (hm : 0 ≤ r.made) (hm2 : r.made < 4611686018427387904) (hb : ¬ (busyS r.S c s a e e ∨ busyQ r.S c g h)) :
    Calls Tryz.prog 42 #[.pointer (some ⟨ab, 0, none⟩), .int .i64 7, .slice (some ⟨lb, lo, none⟩) 7 cap] w fun e' w' => e' = .returned (.tuple #[]) ∧
      AK w' ab b T O (makingF r.S O T n c s l p) (if (makingF r.S O T n c s l p).2 = 0 then (r.putIf (makingF r.S O T n c s l p) s ⟨1, l, 0, none, 0, 0, 0, false, a, e, g, h⟩).idle g h else r) ∧ Fr (fun k => k = ab ∨ k = b) w w' :=
  second_cont' n w ab b T O lb lo cap p r c s l a e g h hk hc hs hl hae he hgh hh hd ha hab hlb hm hm2 _ _ (Or.inr ⟨hb, rfl⟩) rfl

end Go.Proofs.YtloppmepfkkblaaGreat
