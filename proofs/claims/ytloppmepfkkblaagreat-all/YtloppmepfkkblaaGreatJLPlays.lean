/- The law's 'plays': a script on two kernels in turns. -/
import Derived.StillTailTactics
import Derived.Test.YtloppmepfkkblaaGreatJLPrToLStep
open Go Go.Proofs Go.RowKit
namespace Go.Proofs.YtloppmepfkkblaaGreat

/-- Two pairs, and an empty book, in memory that is new since w0. -/
structure Two (w0 w : World) (lb bb p0 p1 : Nat) (m : Int) : Prop where
  list : Blk w lb #[.pointer (some ⟨p0, 0, none⟩), .pointer (some ⟨p1, 0, none⟩)]
  book : Blk w bb #[.slice none 0 0]
  two : ∃ F0 F1, Pr w p0 F0 m ∧ Pr w p1 F1 m ∧ (∀ k, F0 k → ¬ F1 k) ∧ ∀ k, F0 k ∨ F1 k → w0.heap.size ≤ k ∧ k ≠ lb ∧ k ≠ bb
  old : Below w0.heap.size w0 w

section
variable {w0 w w' : World} {lb bb p0 p1 : Nat} {m : Int}

theorem Two.later (h : Two w0 w lb bb p0 p1 m) (hb : Below w.heap.size w w') : Two w0 w' lb bb p0 p1 m := by
  obtain ⟨F0, F1, h0, h1, hd, hF⟩ := h.two
  exact ⟨h.list.below hb h.list.lt, h.book.below hb h.book.lt, ⟨F0, F1, h0.below hb, h1.below hb, hd, hF⟩, h.old.trans (hb.mono h.old.size)⟩

theorem Two.more {m' : Int} (h : Two w0 w lb bb p0 p1 m) (hm : m ≤ m') : Two w0 w lb bb p0 p1 m' := by
  obtain ⟨F0, F1, h0, h1, hd, hF⟩ := h.two
  exact ⟨h.list, h.book, ⟨F0, F1, h0.more hm, h1.more hm, hd, hF⟩, h.old⟩

theorem Two.zero (h : Two w0 w lb bb p0 p1 m) : ∃ F, Pr w p0 F m ∧ (∀ k, F k → w0.heap.size ≤ k) ∧ ∀ w', PrGoes w p0 F m w' → Two w0 w' lb bb p0 p1 (m + 1) := by
  obtain ⟨F0, F1, h0, h1, hd, hF⟩ := h.two
  refine ⟨F0, h0, fun k hk => (hF k (Or.inl hk)).1, ?_⟩
  rintro w' ⟨F', g1, g2, g3⟩
  refine ⟨h.list.fr g3 (fun hk => (hF lb (Or.inl hk)).2.1 rfl), h.book.fr g3 (fun hk => (hF bb (Or.inl hk)).2.2 rfl), ⟨F', F1, g1, (h1.fr g3 (fun k h1 h0 => hd k h0 h1)).more (by omega), fun k hk h1' => ?_, fun k hk => ?_⟩, h.old.trans (g3.below_lo (fun k hk => (hF k (Or.inl hk)).1) h.old.size)⟩
  · rcases g2 k hk with h | h
    · exact hd k h h1'
    · have := h1.lt h1'; omega
  · rcases hk with hk | hk
    · rcases g2 k hk with h' | h'
      · exact hF k (Or.inl h')
      · have e1 := h.old.size
        have e2 := h.list.lt
        have e3 := h.book.lt
        omega
    · exact hF k (Or.inr hk)

theorem Two.one (h : Two w0 w lb bb p0 p1 m) : ∃ F, Pr w p1 F m ∧ (∀ k, F k → w0.heap.size ≤ k) ∧ ∀ w', PrGoes w p1 F m w' → Two w0 w' lb bb p0 p1 (m + 1) := by
  obtain ⟨F0, F1, h0, h1, hd, hF⟩ := h.two
  refine ⟨F1, h1, fun k hk => (hF k (Or.inr hk)).1, ?_⟩
  rintro w' ⟨F', g1, g2, g3⟩
  refine ⟨h.list.fr g3 (fun hk => (hF lb (Or.inr hk)).2.1 rfl), h.book.fr g3 (fun hk => (hF bb (Or.inr hk)).2.2 rfl), ⟨F0, F', (h0.fr g3 (fun k h0 h1 => hd k h0 h1)).more (by omega), g1, fun k h0' hk => ?_, fun k hk => ?_⟩, h.old.trans (g3.below_lo (fun k hk => (hF k (Or.inr hk)).1) h.old.size)⟩
  · rcases g2 k hk with h | h
    · exact hd k h0' h
    · have := h0.lt h0'; omega
  · rcases hk with hk | hk
    · exact hF k (Or.inl hk)
    · rcases g2 k hk with h' | h'
      · exact hF k (Or.inr h')
      · have e1 := h.old.size
        have e2 := h.list.lt
        have e3 := h.book.lt
        omega

theorem Two.pick (h : Two w0 w lb bb p0 p1 m) {k : Nat} (hk : k < 2) : ∃ pk F, w.cell? ⟨lb, k, none⟩ = some (.pointer (some ⟨pk, 0, none⟩)) ∧ Pr w pk F m ∧ (∀ k, F k → w0.heap.size ≤ k) ∧ ∀ w', PrGoes w pk F m w' → Two w0 w' lb bb p0 p1 (m + 1) := by
  have : k = 0 ∨ k = 1 := by omega
  rcases this with rfl | rfl
  · obtain ⟨F, h1, h2, h3⟩ := h.zero
    exact ⟨p0, F, by rw [h.list.cell]; rfl, h1, h2, h3⟩
  · obtain ⟨F, h1, h2, h3⟩ := h.one
    exact ⟨p1, F, by rw [h.list.cell]; rfl, h1, h2, h3⟩
end

/-- A script, as it lies in memory. -/
def ScriptAt (w : World) (sa : Option Addr) (n : Nat) : Prop :=
  n = 0 ∨ ∃ sb so, sa = some ⟨sb, so, none⟩ ∧ sb < w.heap.size ∧ ∀ i, i < n → ∃ (K T : Int) (v : Value), w.cell? ⟨sb, so + i * 3, none⟩ = some (.int .i64 K) ∧ w.cell? ⟨sb, so + i * 3 + 1, none⟩ = some (.int .i64 T) ∧ w.cell? ⟨sb, so + i * 3 + 2, none⟩ = some v ∧ (-9223372036854775808 ≤ K ∧ K ≤ 9223372036854775807) ∧ ArgsV w (fun k => w.heap.size ≤ k) v

theorem ArgsV.form {w : World} {F : Nat → Prop} {v : Value} (h : ArgsV w F v) : ∃ a l c, v = .slice a l c := by
  rcases h with h | ⟨la, xs, cap, h, _⟩
  · exact ⟨_, _, _, h⟩
  · exact ⟨_, _, _, h⟩

theorem ArgsV.older {w w' : World} {v : Value} (h : ArgsV w (fun k => w.heap.size ≤ k) v) (hb : Below w.heap.size w w') : ArgsV w' (fun k => w.heap.size ≤ k) v := by
  rcases h with h | ⟨la, xs, cap, h1, h2⟩
  · exact Or.inl h
  · refine Or.inr ⟨la, xs, cap, h1, h2.len, ?_, h2.wf⟩
    rcases h2.at' with h | ⟨lb, lo, h3, h4, h5⟩
    · exact Or.inl h
    · exact Or.inr ⟨lb, lo, h3, h4.below hb h4.lt, h5⟩

theorem PrGoes.from {w w1 w' : World} {pb : Nat} {F : Nat → Prop} {m : Int} (h : PrGoes w1 pb F m w') (hb : Below w.heap.size w w1) : PrGoes w pb F m w' := by
  obtain ⟨F', h1, h2, h3⟩ := h
  refine ⟨F', h1, fun k hk => ?_, (Fr.of_below hb).trans h3⟩
  rcases h2 k hk with h | h
  · exact Or.inl h
  · exact Or.inr (Nat.le_trans hb.size h)

theorem Pr.lts {w : World} {pb : Nat} {F : Nat → Prop} {m : Int} (h : Pr w pb F m) : ∀ k, F k → k < w.heap.size := fun _ hk => h.lt hk

theorem two_start {w w1 w2 : World} {p0 p1 : Nat} {F0 F1 : Nat → Prop} (hb1 : Below w.heap.size w w1) (hb2 : Below w1.heap.size w1 w2) (h0 : Pr w2 p0 F0 3) (h1 : Pr w2 p1 F1 3) (hF0 : ∀ k, F0 k → w.heap.size ≤ k) (hF1 : ∀ k, F1 k → w1.heap.size ≤ k) (hL0 : ∀ k, F0 k → k < w1.heap.size) :
    Two w ((w2.alloc (.cells #[.pointer (some ⟨p0, 0, none⟩), .pointer (some ⟨p1, 0, none⟩)] 25)).alloc (.cells #[.slice none 0 0] 31)) w2.heap.size (w2.heap.size + 1) p0 p1 3 := by
  have b1 : Below w2.heap.size w2 ((w2.alloc (.cells #[.pointer (some ⟨p0, 0, none⟩), .pointer (some ⟨p1, 0, none⟩)] 25)).alloc (.cells #[.slice none 0 0] 31)) := ((Below.refl _ _).alloc (Nat.le_refl _) _).alloc (by simp) _
  have e1 := hb1.size
  refine ⟨(Blk.new _ _ _).alloc _, Blk.new' (by simp), ⟨F0, F1, h0.below b1, h1.below b1, fun k h h' => ?_, fun k hk => ?_⟩, (hb1.trans (hb2.mono e1)).trans (b1.mono (by have := hb2.size; omega))⟩
  · have := hL0 k h
    have := hF1 k h'
    omega
  · rcases hk with h | h
    · have := hF0 k h
      have := h0.lt h
      omega
    · have := hF1 k h
      have := h1.lt h
      omega

theorem now_form (M : MS) : ∃ (nt : Int) (nl : Nat), M.now = nowV M.ph nt nl := by
  unfold MS.now
  cases M.cur with
  | none => exact ⟨-1, 0, rfl⟩
  | some s => exact ⟨s, _, rfl⟩

set_option maxRecDepth 100000 in
set_option maxHeartbeats 4000000 in
theorem plays_any (w : World) (mo : Int) (sa : Option Addr) (n cap : Nat) (hs : ScriptAt w sa n) (hn : n ≤ 17592186043904) :
    Calls Tryz.prog 7 #[.slice sa n cap, .int .i64 mo, .bool false] w fun e w' => e = .returned (.bool true) ∧ Below w.heap.size w w' := by
  have HS := hide hs
  clear hs
  go_enter Tryz.func7, Tryz.ntmps7
  go_wp2_with fail
  refine (booted_any w).mono ?_
  rintro e w1 ⟨p0, F0, rfl, h0, hF0, hb1⟩
  have H0 := hide h0
  have HF0 := hide hF0
  have HB1 := hide hb1
  clear h0 hF0 hb1
  go_wp2_with fail
  refine (booted_any w1).mono ?_
  rintro e w2 ⟨p1, F1, rfl, h1, hF1, hb2⟩
  have H1 := hide h1
  have HF1 := hide hF1
  have HB2 := hide hb2
  have H02 := hide (H0.out.below hb2)
  clear h1 hF1 hb2
  go_wp2_with fail
  go_loopw [9] (fun i w' => ∃ k : Nat, k ≤ n ∧ i = .int .i64 k ∧ Two w w' w2.heap.size (w2.heap.size + 1) p0 p1 (3 + k)) (fun i _ => n - (intOf i).toNat)
  case atStart => exact ⟨0, by omega, rfl, (two_start HB1.out HB2.out H02.out H1.out HF0.out HF1.out H0.out.lts).more (by omega)⟩
  case round =>
    obtain ⟨k, hk, rfl, ht⟩ := hrel
    by_cases hkn : k < n
    · have hki : (k : Int) < (n : Int) := by omega
      obtain ⟨sb, so, hsa, hsb, hops⟩ := HS.out.resolve_left (by omega)
      obtain ⟨K, T, v, c0, c1, c2, hK, ha⟩ := hops k hkn
      subst hsa
      have d0 : wr.cell? ⟨sb, so + k * 3, none⟩ = some (.int .i64 K) := (cell_same' (ht.old.block sb hsb) _).trans c0
      have d1 : wr.cell? ⟨sb, so + k * 3 + 1, none⟩ = some (.int .i64 T) := (cell_same' (ht.old.block sb hsb) _).trans c1
      have d2 : wr.cell? ⟨sb, so + k * 3 + 2, none⟩ = some v := (cell_same' (ht.old.block sb hsb) _).trans c2
      have HT := hide ht
      have HA := hide ha
      have HK := hide hK
      clear ht hops ha hK c0 c1 c2 
      obtain ⟨va, vl, vc, hv⟩ := HA.out.form
      subst hv
      have hal : Below wr.heap.size wr (wr.alloc (.cells #[.int .i64 K, .int .i64 T, .slice va vl vc] 34)) := (Below.refl _ _).alloc (Nat.le_refl _) _
      have HT1 := hide (HT.out.later hal)
      have HA1 := hide (HA.out.older (HT.out.old.trans (hal.mono HT.out.old.size)))
      clear hal
      by_cases hT : T = -3
      · subst hT
        go_wp2_with fail
        exact ⟨⟨k + 1, by omega, by go_num, HT1.out.more (by omega)⟩, by simp [intOf]; omega⟩
      · by_cases hT2 : mo < T ∧ T ≤ 16
        · obtain ⟨hT3, hT4⟩ := hT2
          go_wp2_with fail
          exact ⟨⟨k + 1, by omega, by go_num, HT1.out.more (by omega)⟩, by simp [intOf]; omega⟩
        · have hT5 : T ≤ mo ∨ 17 ≤ T := by omega
          obtain ⟨j, hj, hpv⟩ := pick_val K HK.out
          have PV := hide hpv
          clear hpv
          rcases hj with rfl | rfl
          · obtain ⟨F, hpr, hFk, hgo⟩ := (HT1.out.later (Below.refl _ _).drew).zero
            have cl : (wr.alloc (.cells #[.int .i64 K, .int .i64 T, .slice va vl vc] 34)).cell? ⟨w2.heap.size, 0, none⟩ = some (.pointer (some ⟨p0, 0, none⟩)) := by rw [HT1.out.list.cell]; rfl
            have ST := hide (step_any (K := K) (n := T) (v := .slice va vl vc) (bv := .pointer (some ⟨w2.heap.size + 1, 0, none⟩)) hpr (by omega) hT ((HA1.out.fr ((Fr.refl _ _).drew)).sub hFk))
            have HGO := hide hgo
            clear hpr hFk hgo
            have BO := hide (Blk.new wr #[.int .i64 K, .int .i64 T, .slice va vl vc] 34)
            have HN : Hid (T ≤ mo ∨ mo < T ∧ ¬ T ≤ 16) := by unfold Hid; omega
            clear hT5
            rcases HN.out with hT5 | ⟨hT5, hT6⟩
            all_goals
              go_wp2_with fail
              generalize (wr.alloc (.cells #[.int .i64 K, .int .i64 T, .slice va vl vc] 34)) = w3 at *
              have o0 : w3.cell? ⟨wr.heap.size, 0, none⟩ = some (.int .i64 K) := by rw [BO.out.cell]; rfl
              have o1 : w3.cell? ⟨wr.heap.size, 1, none⟩ = some (.int .i64 T) := by rw [BO.out.cell]; rfl
              have o2 : w3.cell? ⟨wr.heap.size, 2, none⟩ = some (.slice va vl vc) := by rw [BO.out.cell]; rfl
              refine wp_region_still_tail 8 (by kernel_rfl) (by kernel_rfl) ?_
              simp only [List.take_succ_cons, List.take_zero, List.drop_succ_cons, List.drop_zero]
              iterate 3 still_step
              still_call (PV.out _)
              repeat still_step
              refine wpStill_nil ?_
              go_wp2_with fail
              refine ST.out.mono ?_
              rintro e w4 ⟨rfl, hg4⟩
              have HT4 := hide (HGO.out w4 hg4)
              clear hg4
              go_wp2_with fail
              refine (looks_empty w4 _ HT4.out.book).mono ?_
              rintro e w5 ⟨rfl, hw⟩
              rw [hw]
              clear hw w5
              go_wp2_with fail
              exact ⟨⟨k + 1, by omega, by go_num, HT4.out.more (by omega)⟩, by simp [intOf]; omega⟩
          · obtain ⟨F, hpr, hFk, hgo⟩ := (HT1.out.later (Below.refl _ _).drew).one
            have cl : (wr.alloc (.cells #[.int .i64 K, .int .i64 T, .slice va vl vc] 34)).cell? ⟨w2.heap.size, 1, none⟩ = some (.pointer (some ⟨p1, 0, none⟩)) := by rw [HT1.out.list.cell]; rfl
            have ST := hide (step_any (K := K) (n := T) (v := .slice va vl vc) (bv := .pointer (some ⟨w2.heap.size + 1, 0, none⟩)) hpr (by omega) hT ((HA1.out.fr ((Fr.refl _ _).drew)).sub hFk))
            have HGO := hide hgo
            clear hpr hFk hgo
            have BO := hide (Blk.new wr #[.int .i64 K, .int .i64 T, .slice va vl vc] 34)
            have HN : Hid (T ≤ mo ∨ mo < T ∧ ¬ T ≤ 16) := by unfold Hid; omega
            clear hT5
            rcases HN.out with hT5 | ⟨hT5, hT6⟩
            all_goals
              go_wp2_with fail
              generalize (wr.alloc (.cells #[.int .i64 K, .int .i64 T, .slice va vl vc] 34)) = w3 at *
              have o0 : w3.cell? ⟨wr.heap.size, 0, none⟩ = some (.int .i64 K) := by rw [BO.out.cell]; rfl
              have o1 : w3.cell? ⟨wr.heap.size, 1, none⟩ = some (.int .i64 T) := by rw [BO.out.cell]; rfl
              have o2 : w3.cell? ⟨wr.heap.size, 2, none⟩ = some (.slice va vl vc) := by rw [BO.out.cell]; rfl
              refine wp_region_still_tail 8 (by kernel_rfl) (by kernel_rfl) ?_
              simp only [List.take_succ_cons, List.take_zero, List.drop_succ_cons, List.drop_zero]
              iterate 3 still_step
              still_call (PV.out _)
              repeat still_step
              refine wpStill_nil ?_
              go_wp2_with fail
              refine ST.out.mono ?_
              rintro e w4 ⟨rfl, hg4⟩
              have HT4 := hide (HGO.out w4 hg4)
              clear hg4
              go_wp2_with fail
              refine (looks_empty w4 _ HT4.out.book).mono ?_
              rintro e w5 ⟨rfl, hw⟩
              rw [hw]
              clear hw w5
              go_wp2_with fail
              exact ⟨⟨k + 1, by omega, by go_num, HT4.out.more (by omega)⟩, by simp [intOf]; omega⟩
    · have hki : ¬ (k : Int) < (n : Int) := by omega
      have HT0 := hide (ht.more (m' := 3 + n) (by omega))
      clear ht
      go_wp2_with fail
      go_loopw [13] (fun i w' => ∃ k : Nat, k ≤ 2 ∧ i = .int .i64 k ∧ Two w w' w2.heap.size (w2.heap.size + 1) p0 p1 (3 + n + 32 * k)) (fun i _ => 2 - (intOf i).toNat)
      case atStart => exact ⟨0, by omega, rfl, HT0.out.more (by omega)⟩
      case round =>
        obtain ⟨j, hj, rfl, ht⟩ := hrel
        by_cases hj2 : j < 2
        · have hji : (j : Int) < 2 := by omega
          obtain ⟨pk, F, cl, hpr, hFk, hgo⟩ := ht.pick hj2
          obtain ⟨kb, b, r, M, ob, cb, qp, h1, h2, h3, h4, h5⟩ := hpr
          have HT := hide ht
          have hll := ht.list.lt
          have v2 := later_cell cl hll
          have v0 := later_cell (w := wr) (b := pk) (n := 0) (v := .pointer (some ⟨kb, 0, none⟩)) (by rw [h2.cell]; rfl) h2.lt
          have v1 := later_cell (w := wr) (b := pk) (n := 1) (v := .pointer (some ⟨b, 0, none⟩)) (by rw [h2.cell]; rfl) h2.lt
          obtain ⟨nt, nl, hnow⟩ := now_form M
          have PN := hide (fun x : Later wr => Calls.later_of (x := x) (p_now (h1.still (Fr.of_below x.2)).kp))
          have RN := hide (fun x : Later wr => Calls.later_of (x := x) (r_now (h1.still (Fr.of_below x.2)).rr h1.inv))
          simp only [hnow, nowV] at PN RN
          clear hnow
          clear ht h1 h2 h3 h4 h5 hgo hFk HT0
          go_wp2_with fail
          have hne : Nonempty (Later wr) := ⟨⟨wr, Below.refl _ _⟩⟩
          refine wp_region_later (by kernel_rfl) (by kernel_rfl) ?_
          repeat (go_big_quiet_step ((first | (go_at_call 12; exact PN.out _) | (go_at_call 13; exact RN.out _))))
          refine wpQuiet_nil ?_
          rintro _ ⟨wl, rfl⟩
          clear hne
          have HT3 := hide (HT.out.later wl.2)
          clear PN RN v0 v1 v2 cl HT
          go_wp2_with fail
          go_loopw [14] (fun i w' => ∃ s : Nat, s ≤ 32 ∧ i = .int .i64 s ∧ Two w w' w2.heap.size (w2.heap.size + 1) p0 p1 (3 + n + 32 * j + s)) (fun i _ => 32 - (intOf i).toNat)
          case atStart => exact ⟨0, by omega, rfl, HT3.out.more (by omega)⟩
          case round =>
            obtain ⟨s, hs, rfl, ht⟩ := hrel
            by_cases hs2 : s < 32
            · have hsi : (s : Int) < 32 := by omega
              obtain ⟨pk, F, cl, hpr, hFk, hgo⟩ := ht.pick hj2
              have hll := ht.list.lt
              have hnew : ¬ F wr.heap.size := fun h => by have := hpr.lt h; omega
              have hba : Below wr.heap.size wr (wr.alloc (.cells #[.int .i64 s] 3)) := (Below.refl _ _).alloc (Nat.le_refl _) _
              have TR := hide (pr_trap (hpr.below hba) (by omega) 2 (.slice (some ⟨wr.heap.size, 0, none⟩) 1 1) (Or.inr ⟨⟨wr.heap.size, 0, none⟩, [(s : Int)], 1, rfl, by simp, Or.inr ⟨wr.heap.size, 0, rfl, ⟨by simp, fun i x hx => by
                have hi := (List.getElem?_eq_some_iff.1 hx).1
                simp at hi
                subst hi
                simp at hx
                subst hx
                exact (Blk.new wr #[.int .i64 s] 3).cell 0⟩, hnew⟩, fun x hx => by
                  simp at hx
                  subst hx
                  exact ⟨by omega, by omega⟩⟩))
              have HGO : Hid (∀ w', PrGoes (wr.alloc (.cells #[.int .i64 s] 3)) pk F (3 + n + 32 * j + s) w' → Two w w' w2.heap.size (w2.heap.size + 1) p0 p1 (3 + n + 32 * j + s + 1)) := fun w' h => hgo w' (h.from hba)
              clear hpr hFk hgo ht hnew hba
              go_wp2_with fail
              refine TR.out.mono ?_
              rintro e w4 ⟨rfl, hg4⟩
              have HT4 := hide (HGO.out w4 hg4)
              clear hg4 TR HGO
              go_wp2_with fail
              exact ⟨⟨s + 1, by omega, by go_num, HT4.out.more (by omega)⟩, by simp [intOf]; omega⟩
            · have hsi : ¬ (s : Int) < 32 := by omega
              have HT4 := hide (ht.more (m' := 3 + n + 32 * (j + 1)) (by omega))
              clear ht
              go_wp2_with fail
              go_roundw
              case rel => exact ⟨j + 1, by omega, by go_num, HT4.out.more (by omega)⟩
              case measure => simp [intOf]; omega
        · have hji : ¬ (j : Int) < 2 := by omega
          have HT := hide ht
          clear ht HT0
          go_wp2_with fail
          refine (looks_empty wr _ HT.out.book).mono ?_
          rintro e w5 ⟨rfl, hw⟩
          rw [hw]
          clear hw w5
          go_wp2_with fail
          go_ret
          exact ⟨rfl, HT.out.old⟩

end Go.Proofs.YtloppmepfkkblaaGreat
