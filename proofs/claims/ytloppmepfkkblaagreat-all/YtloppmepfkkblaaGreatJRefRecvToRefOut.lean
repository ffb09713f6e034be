/- What the reference's 'fourth' does: Receive. -/
import Derived.Test.YtloppmepfkkblaaGreatProg
import Derived.BigRegion
import Derived.Test.YtloppmepfkkblaaGreatJRefThirdToRefSend
import Derived.Test.YtloppmepfkkblaaGreatJBaseToTreeKeeps
import Derived.Test.YtloppmepfkkblaaGreatJRefMayToRefOwn
import Derived.Test.YtloppmepfkkblaaGreatJOuts0

section
open Go Go.Proofs Go.RowKit
namespace Go.Proofs.YtloppmepfkkblaaGreat

set_option maxHeartbeats 2000000 in
set_option maxRecDepth 100000 in
theorem fourth_recv_no (n : Nat) (w : World) (ab b T O lb lo cap : Nat) (p : Nat × Int) (r : RSt) (s : Nat) (h : AK w ab b T O p r) (hs : s < 32) (hd : deep r.S n s) (ha : Arg w lb lo [(s : Int)])
    (q : Nat × Int) (hq0 : recvF r.S O T n s p = q) (hno : q.2 ≠ 0) :
    Calls Tryz.prog 44 #[.pointer (some ⟨ab, 0, none⟩), .int .i64 16, .slice (some ⟨lb, lo, none⟩) 1 cap] w fun e' w' => e' = .returned (.int .i64 0) ∧
      AK w' ab b T O q r ∧ Fr (fun k => k = ab) w w' := by
  have l0 := ha.c0
  have hsi : (s : Int) < 32 := by omega
  obtain ⟨a0, -⟩ := h.ask.cells
  obtain ⟨c0, c1, c2, c3, c4, c5, c6, c7, c8, c9⟩ := h.rk.things hs
  have habw : ab < w.heap.size := Blk.lt h.ask
  have hne : ¬ w.heap.size = ab := by omega
  have hTl := wf_label h.wf hs
  have H := hide h
  have HA := hide ha
  have HD := hide hd
  have HQ0 := hide hq0
  have HNO := hide hno
  have HTL := hide hTl
  clear h ha hd hq0 hno hTl
  go_enter Tryz.func44, Tryz.ntmps44
  go_wp2_with fail
  have B0 : Hid (Blk (w.alloc (.cells #[.int .i64 (r.S s).kind, .int .i64 (r.S s).label, .int .i64 (r.S s).id, .slice (r.S s).Wa (r.S s).Wn (r.S s).Wc, .int .i64 (r.S s).owns, .bool (r.S s).awake, .int .i64 (r.S s).A, .int .i64 (r.S s).B, .int .i64 (r.S s).G, .int .i64 (r.S s).H] 71)) w.heap.size (r.S s).cells) := Blk.new w _ _
  refine (path_any n _ _ _ _ _ _ _ s (H.out.fr ((Fr.refl _ _).alloc _)) hs HD.out).mono ?_
  rintro e w1 ⟨rfl, h1, g1⟩
  have H1 := hide h1
  have B1 := hide (Blk.fr B0.out g1 hne)
  have G1 : Hid (Fr (fun k => k = ab) w w1) := ((Fr.refl _ _).alloc _).trans g1
  clear h1 g1 l0 a0 c0 c1 c2 c3 c4 c5 c6 c7 c8 c9 B0
  go_wp2_with fail
  refine (there_any _ _ _ _ _ _ _ _ H1.out hs).mono ?_
  rintro e w2 ⟨rfl, h2, g2⟩
  have H2 := hide h2
  have B2 := hide (Blk.fr B1.out g2 hne)
  have G2 := hide (G1.out.trans g2)
  clear h2 g2 H1 G1 B1
  have x1 : w2.cell? ⟨w.heap.size, 1, none⟩ = some (.int .i64 (r.S s).label) := by rw [Blk.cell B2.out]; rfl
  go_wp2_with fail
  refine (read_any _ _ _ _ _ _ _ _ H2.out HTL.out).mono ?_
  rintro e w2r ⟨rfl, h2r, g2r⟩
  have H2r := hide h2r
  have B2r := hide (Blk.fr B2.out g2r hne)
  have G2r := hide (G2.out.trans g2r)
  clear h2r g2r H2 G2 B2 x1
  have x1 : w2r.cell? ⟨w.heap.size, 1, none⟩ = some (.int .i64 (r.S s).label) := by rw [Blk.cell B2r.out]; rfl
  go_wp2_with fail
  refine (write_any _ _ _ _ _ _ _ _ H2r.out HTL.out).mono ?_
  rintro e w3 ⟨rfl, h3, g3⟩
  have H3 := hide h3
  have B3 := hide (Blk.fr B2r.out g3 hne)
  have G3 := hide (G2r.out.trans g3)
  clear h3 g3 H2r G2r B2r x1
  go_wp2_with fail
  refine (kind_any _ _ _ _ _ _ _ _ _ H3.out hs).mono ?_
  rintro e w4 ⟨rfl, h4, g4⟩
  have B4 := hide (Blk.fr B3.out g4 hne)
  have G4 := hide (G3.out.trans g4)
  have H4 := hide h4
  clear h4 g4 H3 G3 B3
  have x3 : w4.cell? ⟨w.heap.size, 3, none⟩ = some (.slice (r.S s).Wa (r.S s).Wn (r.S s).Wc) := by rw [Blk.cell B4.out]; rfl
  by_cases hz : (r.S s).Wn = 0
  · have EQ : Hid (q = failed 9 (kindF r.S s 4 (chk O T (r.S s).label (chk O (r.S s).label T (thereF r.S s (pathF r.S O T n s p)))))) := by rw [← HQ0.out]; exact if_pos hz
    rw [hz] at x3
    go_wp2_with fail
    refine (fail_any _ _ _ _ _ _ _ 9 H4.out (by omega)).mono ?_
    rintro e w5 ⟨rfl, h5, g5⟩
    have H5 : Hid (AK w5 ab b T O q r) := by rw [EQ.out]; exact h5
    have G5 := hide (G4.out.trans g5)
    obtain ⟨-, -, -, -, a4, -, -⟩ := H5.out.ask.cells
    have hq1 : (q.2 == 0) = false := by simpa using HNO.out
    clear h5 g5 H4 G4
    go_wp2_with fail
    go_ret
    exact ⟨rfl, H5.out, G5.out⟩
  · have EQ : Hid (q = kindF r.S s 4 (chk O T (r.S s).label (chk O (r.S s).label T (thereF r.S s (pathF r.S O T n s p))))) := by rw [← HQ0.out]; exact if_neg hz
    have H5 : Hid (AK w4 ab b T O q r) := by rw [EQ.out]; exact H4.out
    have hz' : ((r.S s).Wn == 0) = false := by simpa using hz
    obtain ⟨-, -, -, -, a4, -, -⟩ := H5.out.ask.cells
    have hq1 : (q.2 == 0) = false := by simpa using HNO.out
    clear H4
    go_wp2_with fail
    go_ret
    exact ⟨rfl, H5.out, G4.out⟩

set_option maxHeartbeats 2000000 in
set_option maxRecDepth 100000 in
theorem fourth_recv (n : Nat) (w : World) (ab b T O lb lo cap : Nat) (p : Nat × Int) (r : RSt) (s : Nat) (h : AK w ab b T O p r) (hs : s < 32) (hd : deep r.S n s) (ha : Arg w lb lo [(s : Int)])
    (q : Nat × Int) (hq0 : recvF r.S O T n s p = q) (hq : q.2 = 0) (x : Int) (xs : List Int) (hown : Own w (r.S s) (x :: xs)) (hlen : xs.length ≤ 3) (hoff : ∀ g, (r.S s).wb g → g ≠ ab ∧ g ≠ b ∧ g ≠ lb) :
    Calls Tryz.prog 44 #[.pointer (some ⟨ab, 0, none⟩), .int .i64 16, .slice (some ⟨lb, lo, none⟩) 1 cap] w fun e' w' => e' = .returned (.int .i64 x) ∧
      ∃ t, t = { r.S s with Wa := t.Wa, Wn := t.Wn, Wc := t.Wc } ∧ Own w' t xs ∧ (∀ g, t.wb g → w.heap.size ≤ g) ∧ AK w' ab b T O q (r.put s t) ∧ Fr (fun k => k = ab ∨ k = b) w w' := by
  have l0 := ha.c0
  have hsi : (s : Int) < 32 := by omega
  obtain ⟨a0, -⟩ := h.ask.cells
  obtain ⟨c0, c1, c2, c3, c4, c5, c6, c7, c8, c9⟩ := h.rk.things hs
  have habw : ab < w.heap.size := Blk.lt h.ask
  have hne : ¬ w.heap.size = ab := by omega
  have hTl := wf_label h.wf hs
  have H := hide h
  have HA := hide ha
  have HD := hide hd
  have HQ0 := hide hq0
  have HQ := hide hq
  have HOWN := hide hown
  have HOFF := hide hoff
  have HTL := hide hTl
  clear h ha hd hq0 hq hown hoff hTl
  go_enter Tryz.func44, Tryz.ntmps44
  go_wp2_with fail
  have B0 : Hid (Blk (w.alloc (.cells #[.int .i64 (r.S s).kind, .int .i64 (r.S s).label, .int .i64 (r.S s).id, .slice (r.S s).Wa (r.S s).Wn (r.S s).Wc, .int .i64 (r.S s).owns, .bool (r.S s).awake, .int .i64 (r.S s).A, .int .i64 (r.S s).B, .int .i64 (r.S s).G, .int .i64 (r.S s).H] 71)) w.heap.size (r.S s).cells) := Blk.new w _ _
  refine (path_any n _ _ _ _ _ _ _ s (H.out.fr ((Fr.refl _ _).alloc _)) hs HD.out).mono ?_
  rintro e w1 ⟨rfl, h1, g1⟩
  have H1 := hide h1
  have B1 := hide (Blk.fr B0.out g1 hne)
  have G1 : Hid (Fr (fun k => k = ab) w w1) := ((Fr.refl _ _).alloc _).trans g1
  clear h1 g1 l0 a0 c0 c1 c2 c3 c4 c5 c6 c7 c8 c9 B0
  go_wp2_with fail
  refine (there_any _ _ _ _ _ _ _ _ H1.out hs).mono ?_
  rintro e w2 ⟨rfl, h2, g2⟩
  have H2 := hide h2
  have B2 := hide (Blk.fr B1.out g2 hne)
  have G2 := hide (G1.out.trans g2)
  clear h2 g2 H1 G1 B1
  have x1 : w2.cell? ⟨w.heap.size, 1, none⟩ = some (.int .i64 (r.S s).label) := by rw [Blk.cell B2.out]; rfl
  go_wp2_with fail
  refine (read_any _ _ _ _ _ _ _ _ H2.out HTL.out).mono ?_
  rintro e w2r ⟨rfl, h2r, g2r⟩
  have H2r := hide h2r
  have B2r := hide (Blk.fr B2.out g2r hne)
  have G2r := hide (G2.out.trans g2r)
  clear h2r g2r H2 G2 B2 x1
  have x1 : w2r.cell? ⟨w.heap.size, 1, none⟩ = some (.int .i64 (r.S s).label) := by rw [Blk.cell B2r.out]; rfl
  go_wp2_with fail
  refine (write_any _ _ _ _ _ _ _ _ H2r.out HTL.out).mono ?_
  rintro e w3 ⟨rfl, h3, g3⟩
  have H3 := hide h3
  have B3 := hide (Blk.fr B2r.out g3 hne)
  have G3 := hide (G2r.out.trans g3)
  clear h3 g3 H2r G2r B2r x1
  go_wp2_with fail
  refine (kind_any _ _ _ _ _ _ _ _ _ H3.out hs).mono ?_
  rintro e w4 ⟨rfl, h4, g4⟩
  have B4 := hide (Blk.fr B3.out g4 hne)
  have G4 := hide (G3.out.trans g4)
  have H4 := hide h4
  clear h4 g4 H3 G3 B3
  have x3 : w4.cell? ⟨w.heap.size, 3, none⟩ = some (.slice (r.S s).Wa (r.S s).Wn (r.S s).Wc) := by rw [Blk.cell B4.out]; rfl
  have hz : (r.S s).Wn = xs.length + 1 := by have := HOWN.out.len; simpa using this
  have EQ : Hid (q = kindF r.S s 4 (chk O T (r.S s).label (chk O (r.S s).label T (thereF r.S s (pathF r.S O T n s p))))) := by rw [← HQ0.out]; exact if_neg (by omega)
  have H5 : Hid (AK w4 ab b T O q r) := by rw [EQ.out]; exact H4.out
  obtain ⟨g, cap', cur, e1, -, e3, e4, e5, e6, e7⟩ : ∃ g cap cur, Value.slice (r.S s).Wa (r.S s).Wn (r.S s).Wc = .slice (some ⟨g, 0, none⟩) (r.S s).Wn cap ∧ 0 ≤ g ∧ w.heap[g]? = some (.cells cur 3 (0, 0)) ∧ (r.S s).Wn ≤ cap ∧ cap ≤ maxLen ∧ cur.size = cap * 1 ∧ cur.toList.take ((r.S s).Wn * 1) = (x :: xs).map (Value.int .i64) := by
    rcases HOWN.out.2 with h1 | h1
    · omega
    · exact h1
  have hgw : (r.S s).wb g := by injection e1 with e1; exact ⟨0, none, e1⟩
  have hg4 : w4.heap[g]? = some (.cells cur 3 (0, 0)) := (G4.out.block g (HOWN.out.lt hgw) (HOFF.out g hgw).1).trans e3
  have hcell : ∀ i y, ((x :: xs).map (Value.int .i64))[i]? = some y → w4.cell? ⟨g, i, none⟩ = some y := fun i y hy => by
    rw [← e7] at hy
    have hi : i < (r.S s).Wn * 1 := by
      have := (List.getElem?_eq_some_iff.1 hy).1
      rw [List.length_take] at this
      omega
    rw [List.getElem?_take_of_lt hi] at hy
    rw [cell_of_row w4 g i cur _ _ hg4]
    simpa using hy
  rw [e1, hz] at x3
  have e4' : xs.length + 1 ≤ cap' := by omega
  have hci : ((xs.length : Int) + 1) ≤ (cap' : Int) := by omega
  obtain ⟨a0, -, -, -, a4, -, -⟩ := H5.out.ask.cells
  rw [HQ.out] at a4
  obtain ⟨-, -, -, k3, -⟩ := H5.out.rk.things hs
  rw [e1, hz] at k3
  have hfr : w4.frozen? ⟨b, s * 10 + 3, none⟩ = false := H5.out.rk.frozen _
  have hab4 : ab < w4.heap.size := Blk.lt H5.out.ask
  have hb4 := H5.out.rk.lt
  have hc0 : w4.cell? ⟨g, 0, none⟩ = some (.int .i64 x) := hcell 0 _ rfl
  have hg4l : g < w4.heap.size := (Array.getElem?_eq_some_iff.1 hg4).1
  have hl4 : w.heap.size < w4.heap.size := B4.out.lt
  have hgb : ¬ g = b := (HOFF.out g hgw).2.1
  have hbw : b < w.heap.size := by have := H.out.rk.lt; exact this
  have hwb : ¬ w.heap.size = b := by omega
  clear hbw
  clear H4
  go_wp2_with fail
  have HK : Hid (∀ w', Fr (fun _ => False) w4 w' → w'.cell? ⟨ab, 0, none⟩ = some (.pointer (some ⟨b, 0, none⟩)) ∧ w'.cell? ⟨w.heap.size, 3, none⟩ = some (.slice (some ⟨g, 0, none⟩) (xs.length + 1) cap') ∧ w'.cell? ⟨b, s * 10 + 3, none⟩ = some (.slice (some ⟨g, 0, none⟩) (xs.length + 1) cap') ∧ w'.frozen? ⟨b, s * 10 + 3, none⟩ = false ∧ w'.cell? ⟨g, 0, none⟩ = some (.int .i64 x)) := fun w' f => by
    refine ⟨?_, ?_, ?_, ?_, ?_⟩
    · rw [cell_same' (f.block ab hab4 id)]; exact a0
    · rw [cell_same' (f.block _ hl4 id)]; exact x3
    · rw [cell_same' (f.block b hb4 id)]; exact k3
    · rw [frozen_same' (f.block b hb4 id)]; exact hfr
    · rw [cell_same' (f.block g hg4l id)]; exact hc0
  refine wp_region_plan2 (fun w' => w'.cell? ⟨ab, 0, none⟩ = some (.pointer (some ⟨b, 0, none⟩)) ∧ w'.cell? ⟨w.heap.size, 3, none⟩ = some (.slice (some ⟨g, 0, none⟩) (xs.length + 1) cap') ∧ w'.cell? ⟨b, s * 10 + 3, none⟩ = some (.slice (some ⟨g, 0, none⟩) (xs.length + 1) cap') ∧ w'.frozen? ⟨b, s * 10 + 3, none⟩ = false ∧ w'.cell? ⟨g, 0, none⟩ = some (.int .i64 x)) 14 9 10 2 (by kernel_rfl) (by kernel_rfl) (by rfl) (fun _ a d v w h => by cases d <;> exact h) (HK.out _ (by (repeat (first | exact Fr.refl _ _ | refine Fr.drew ?_ | refine Fr.drewN ?_ _ | refine Fr.alloc ?_ _)))) ?_
  simp only [List.take_succ_cons, List.take_zero, List.drop_succ_cons, List.drop_zero, List.cons_append, List.nil_append]
  iterate 8 (
    refine wpPlanL_cons (v := ?_) (by rfl) ?_ ?_
    rotate_left
    · (intro wS hSw; (try dsimp only at hSw); go_simp; try with_reducible rfl)
    simp only [Act.put, List.setIfInBounds_toArray])
  obtain ⟨ad, had, had2⟩ : ∃ ad : Addr, (if cap' = 1 then some (⟨g, 0, none⟩ : Addr) else some ⟨g, 1, none⟩) = some ad ∧ (xs ≠ [] → ad = ⟨g, 1, none⟩) := by
    by_cases h1 : cap' = 1
    · refine ⟨⟨g, 0, none⟩, if_pos h1, fun hx => ?_⟩
      have := List.length_pos_iff.2 hx
      omega
    · exact ⟨⟨g, 1, none⟩, if_neg h1, fun _ => rfl⟩
  refine wpPlanL_cons (v := .slice (some ad) xs.length (cap' - 1)) (by rfl) ?_ ?_
  · intro wS hSw
    go_simp
    intro h
    omega
  simp only [Act.put, List.setIfInBounds_toArray]
  iterate 2 (
    refine wpPlanL_cons (v := ?_) (by rfl) ?_ ?_
    rotate_left
    · (intro wS hSw; (try dsimp only at hSw); go_simp; try with_reducible rfl)
    simp only [Act.put, List.setIfInBounds_toArray])
  refine wpPlanL_nil ?_
  have HCELL := hide hcell
  have HAD := hide had2
  clear hcell had had2
  by_cases hxe : xs = []
  · subst hxe
    have hap : ∀ w, (Builtin.append_ #[32, 32] 32 #[.slice none 0 0, .slice (some ad) 0 (cap' - 1)]).run Tryz.prog w = .ok (.slice none 0 0) w := fun w => by kernel_rfl
    refine wpAnyT_one (i := 9) (by kernel_rfl) (by rfl) (by rfl) (fun K hK => ?_)
    go_simp
    refine hK _ _ (fun _ => HK.out _ (by (repeat (first | exact Fr.refl _ _ | refine Fr.drew ?_ | refine Fr.drewN ?_ _ | refine Fr.alloc ?_ _)))) ?_
    clear hK
    refine wpAnyT_one (i := 12) (by kernel_rfl) (by rfl) (by rfl) (fun K hK => ?_)
    go_simp
    refine hK _ _ (fun _ => HK.out _ (by (repeat (first | exact Fr.refl _ _ | refine Fr.drew ?_ | refine Fr.drewN ?_ _ | refine Fr.alloc ?_ _)))) ?_
    clear hK
    refine wpAnyT_one (i := 13) (by kernel_rfl) (by rfl) (by rfl) (fun K hK => ?_)
    go_simp
    refine hK _ _ (fun _ => HK.out _ (by (repeat (first | exact Fr.refl _ _ | refine Fr.drew ?_ | refine Fr.drewN ?_ _ | refine Fr.alloc ?_ _)))) ?_
    clear hK
    refine wpAnyT_one (i := 14) (by kernel_rfl) (by rfl) (by rfl) (fun K hK => ?_)
    go_simp
    refine hK _ _ (fun h => absurd h (by omega)) ?_
    clear hK
    refine wpAnyT_done (by kernel_rfl) ?_
    go_wp2_with fail
    go_ret
    have F8 : Fr (fun k => k = b) w4 ((w4.setCell ⟨b, s * 10 + 3, none⟩ (.slice none 0 0)).drew) := (Fr.own w4 b _ _).drew
    refine ⟨rfl, { r.S s with Wa := none, Wn := 0, Wc := 0 }, rfl, ⟨rfl, Or.inl ⟨rfl, rfl⟩⟩, fun k hk => ?_, ?_, ?_⟩
    · obtain ⟨o, sp, e⟩ := hk; cases e
    · exact ⟨Blk.fr H5.out.ask F8 H5.out.ne, (H5.out.rk.putW hs none 0 0).drew, H5.out.ne, H5.out.hT, H5.out.hO, H5.out.hu, words_wf H5.out.wf hs _ _ _⟩
    · exact (G4.out.mono (fun _ _ h => Or.inl h)).trans (F8.mono (fun _ _ h => Or.inr h))
  · refine wpAnyT_one (i := 9) (by kernel_rfl) (by rfl) (by rfl) (fun K hK => ?_)
    have hxl := List.length_pos_iff.2 hxe
    refine wp_append_lies _ _ _ 32 (by rfl) 0 3 Tryz.t3 (.int .i64 0) 1 8 Tryz.underlying32 (by kernel_rfl) (by kernel_rfl) (by kernel_rfl) (by kernel_rfl) (by rfl) (by omega) (.slice none 0 0) 0 [] (by rfl) ⟨rfl, Or.inl ⟨rfl, rfl⟩⟩ ad xs.length (cap' - 1) (xs.map (Value.int .i64)) (by rfl) (by simp) (fun j u hu => ?_) (fun u hu => by obtain ⟨y, _, rfl⟩ := List.mem_map.1 hu; rfl) hxl (by unfold maxLen; omega) (by omega) (by omega) w4.heap.size rfl ?_
    · have e1 := HAD.out hxe
      subst e1
      have hj : (⟨g, 1, none⟩ : Addr).add j = ⟨g, 1 + j, none⟩ := by unfold Addr.add; split <;> simp_all
      rw [hj]
      exact HCELL.out (1 + j) u (by rw [Nat.add_comm 1 j]; exact hu)
    intro g2 cap2 w7 hown7 hgrow hat hlt
    have F7 : Fr (fun _ => False) w4 w7 := Fr.grow (S := fun _ => False) (a := w4) (by (repeat (first | exact Fr.refl _ _ | refine Fr.drew ?_ | refine Fr.drewN ?_ _ | refine Fr.alloc ?_ _))) hgrow (fun k _ hk => by cases hk)
    refine hK _ _ (fun _ => HK.out _ F7) ?_
    clear hK
    obtain ⟨-, hx7, hc7, hf7, hg7⟩ := HK.out _ F7
    simp only [Act.put, List.setIfInBounds_toArray]
    refine wpAnyT_one (i := 12) (by kernel_rfl) (by rfl) (by rfl) (fun K hK => ?_)
    go_simp
    refine hK _ _ (fun _ => HK.out _ F7) ?_
    clear hK
    refine wpAnyT_one (i := 13) (by kernel_rfl) (by rfl) (by rfl) (fun K hK => ?_)
    go_simp
    refine hK _ _ (fun _ => HK.out _ F7) ?_
    clear hK
    refine wpAnyT_one (i := 14) (by kernel_rfl) (by rfl) (by rfl) (fun K hK => ?_)
    go_simp
    refine hK _ _ (fun h => absurd h (by omega)) ?_
    clear hK
    refine wpAnyT_done (by kernel_rfl) ?_
    go_wp2_with fail
    go_ret
    simp only [Nat.zero_add, List.nil_append] at hown7
    have hg2 : g2 = w4.heap.size := by
      rcases hat with e | e
      · cases e
      · exact e
    have hw4 := G4.out.size
    have F8 : Fr (fun k => k = b) w7 (w7.setCell ⟨b, s * 10 + 3, none⟩ (.slice (some ⟨g2, 0, none⟩) xs.length cap2)) := Fr.own w7 b _ _
    have R7 : RK w7 b r := H5.out.rk.fr F7 id
    have A7 : AskAt w7 ab b T O q := Blk.fr H5.out.ask F7 id
    have h7 : Own w7 { r.S s with Wa := some ⟨g2, 0, none⟩, Wn := xs.length, Wc := cap2 } xs := hown7
    refine ⟨rfl, { r.S s with Wa := some ⟨g2, 0, none⟩, Wn := xs.length, Wc := cap2 }, rfl, ?_, fun k hk => ?_, ?_, ?_⟩
    · exact h7.same (fun k hk => F8.block k (h7.lt hk) (fun e => by
        obtain ⟨o, sp, e2⟩ := hk
        injection e2 with e2
        injection e2 with e2
        omega))
    · obtain ⟨o, sp, e2⟩ := hk
      injection e2 with e2
      injection e2 with e2
      omega
    · exact ⟨Blk.fr A7 F8 H5.out.ne, R7.putW hs _ _ _, H5.out.ne, H5.out.hT, H5.out.hO, H5.out.hu, words_wf H5.out.wf hs _ _ _⟩
    · exact ((G4.out.mono (fun _ _ h => Or.inl h)).trans (F7.mono (fun _ _ h => h.elim))).trans (F8.mono (fun _ _ h => Or.inr h))

end Go.Proofs.YtloppmepfkkblaaGreat
end

section
/- The reference's 'Trap' is the plain kernel's trap: trap by trap. -/
open Go Go.Proofs Go.RowKit
namespace Go.Proofs.YtloppmepfkkblaaGreat

section
variable {w : World} {b : Nat} {r : RSt} {M : MS}

/-- A word of a segment is written. -/
theorem RR.write (h : RR w b r M) {s g i : Nat} (hs : s < 32) (hk : (r.S s).kind = 3) (hg : (r.S s).Wa = some ⟨g, 0, none⟩) (hi : i < (M.ws s).length) (v : Int) : RR (w.setCell ⟨g, i, none⟩ (.int .i64 v)) b r (M.words s ((M.ws s).set i v)) := by
  have hgw : (r.S s).wb g := ⟨0, none, hg⟩
  have f : Fr (fun k => k = g) w (w.setCell ⟨g, i, none⟩ (.int .i64 v)) := Fr.own w g i _
  have hne : ∀ j k, j < 32 → j ≠ s → (r.S j).wb k → k ≠ g := fun j k hj hjs hk e => hjs (h.wsx.apart j s k hj hs hk (e ▸ hgw))
  refine ⟨⟨Nat.lt_of_lt_of_le h.blt f.size, ⟨fun j hj => ?_, h.wsx.apart, h.wsx.off⟩, fun j hj h4 => ?_, h.S, h.lq, h.ph, h.ids⟩, h.rk.fr f (fun e => h.wsx.off s g hs hgw e.symm)⟩
  · show Words _ (r.S j) (upd M.ws s _ j)
    by_cases e : j = s
    · subst e
      rw [upd_same]
      have h0 := h.wsx.words j hj
      refine ⟨by rw [List.length_set]; exact h0.n, h0.cap, ?_⟩
      rcases h0.at' with ⟨h1, _⟩ | ⟨g', cs, h1, h2, h3, h4, h5⟩
      · rw [h1] at hg; cases hg
      · have e : g' = g := by rw [h1] at hg; injection hg with hg; injection hg
        subst e
        have hcs : i < cs.size := by have := h0.n; have := h0.cap; omega
        refine Or.inr ⟨g', _, h1, h2.set i _, by simpa using h3, fun k hk' => ?_, fun k x hx => ?_⟩
        · by_cases ek : k = i
          · subst ek; exact ⟨v, by rw [Array.getElem?_setIfInBounds_self_of_lt hcs]⟩
          · obtain ⟨y, hy⟩ := h4 k hk'
            exact ⟨y, by rw [Array.getElem?_setIfInBounds_ne (Ne.symm ek)]; exact hy⟩
        · by_cases ek : k = i
          · subst ek
            rw [List.getElem?_set_self hi] at hx
            injection hx with hx
            subst hx
            rw [Array.getElem?_setIfInBounds_self_of_lt hcs]
          · rw [List.getElem?_set_ne (Ne.symm ek)] at hx
            rw [Array.getElem?_setIfInBounds_ne (Ne.symm ek)]
            exact h5 k x hx
    · rw [upd_ne _ _ e]
      exact (h.wsx.words j hj).same (fun k hk' => f.block k ((h.wsx.words j hj).lt hk') (hne j k hj e hk'))
  · show Own _ (r.S j) (upd M.ws s _ j)
    have e : j ≠ s := fun e => by rw [e] at h4; omega
    rw [upd_ne _ _ e]
    exact (h.own j hj h4).same (fun k hk' => f.block k ((h.wsx.words j hj).lt hk') (hne j k hj e hk'))

/-- A segment's words in memory. -/
theorem RR.seg (h : RR w b r M) (hi : MInv M) {s : Nat} (hs : s < 32) (hk : (r.S s).kind = 3) : ∃ g cs, (r.S s).Wa = some ⟨g, 0, none⟩ ∧ (r.S s).Wn = 8 ∧ (M.ws s).length = 8 ∧ Blk w g cs ∧ ∀ (i : Nat) (x : Int), (M.ws s)[i]? = some x → cs[i]? = some (Value.int .i64 x) := by
  have hl := hi.segs s (by rw [h.kind]; exact hk)
  have h0 := h.wsx.words s hs
  rcases h0.at' with ⟨h1, h2⟩ | ⟨g, cs, h1, h2, h3, h4, h5⟩
  · have := h0.n; have := h0.cap; omega
  · exact ⟨g, cs, h1, by rw [h0.n]; exact hl, hl, h2, h5⟩

theorem seg_words {w' : World} {g : Nat} {l : Nat} {i : Int} (hB : Blk w' g #[.int .i64 0, .int .i64 0, .int .i64 0, .int .i64 0, .int .i64 0, .int .i64 0, .int .i64 0, .int .i64 0]) :
    Words w' ⟨3, l, i, some ⟨g, 0, none⟩, 8, 8, 0, false, 0, 0, 0, 0⟩ [0, 0, 0, 0, 0, 0, 0, 0] := by
  refine ⟨rfl, Nat.le_refl _, Or.inr ⟨g, _, rfl, hB, Nat.le_refl _, fun j hj => ?_, fun j x hx => ?_⟩⟩
  · have : j < 8 := hj
    have hj : j = 0 ∨ j = 1 ∨ j = 2 ∨ j = 3 ∨ j = 4 ∨ j = 5 ∨ j = 6 ∨ j = 7 := by omega
    rcases hj with rfl | rfl | rfl | rfl | rfl | rfl | rfl | rfl <;> exact ⟨0, rfl⟩
  · have : j < 8 := (List.getElem?_eq_some_iff.1 hx).1
    have hj : j = 0 ∨ j = 1 ∨ j = 2 ∨ j = 3 ∨ j = 4 ∨ j = 5 ∨ j = 6 ∨ j = 7 := by omega
    rcases hj with rfl | rfl | rfl | rfl | rfl | rfl | rfl | rfl <;> (injection hx with hx; subst hx; rfl)

theorem none_words {w' : World} (t : Th) (h1 : t.Wa = none) (h2 : t.Wn = 0) (h3 : t.Wc = 0) : Words w' t [] := ⟨h2, by omega, Or.inl ⟨h1, h3⟩⟩

theorem busyB_true {S : Nat → Th} {c s a e g h : Nat} (hb : busyB S c s a e g h = true) : busyS S c s a e e ∨ busyQ S c g h := by
  unfold busyB at hb
  simp only [Bool.or_eq_true, List.any_eq_true, Bool.and_eq_true, decide_eq_true_eq, Bool.not_eq_true', decide_eq_false_iff_not] at hb
  rcases hb with (hb | ⟨i, _, ⟨h1, h2⟩, h3⟩) | ⟨q, _, ⟨h1, h2⟩, h3⟩
  · exact Or.inl (Or.inl hb)
  · refine Or.inl (Or.inr ⟨i, h1, h2, ?_⟩)
    by_cases h4 : (S i).kind = 0
    · exact Or.inr (fun h5 => h3 ⟨h4, h5⟩)
    · exact Or.inl h4
  · exact Or.inr ⟨q, h1, h2, h3⟩

theorem roomy_not {S : Nat → Th} {c s a e g h : Nat} (hr : Roomy S c s a e g h) : ¬ (busyS S c s a e e ∨ busyQ S c g h) := by
  rintro ((h1 | ⟨i, h1, h2, h3⟩) | ⟨q, h1, h2, h3⟩)
  · exact hr.own h1
  · obtain ⟨h4, h5⟩ := hr.slots i h1 h2
    rcases h3 with h3 | h3
    · exact h3 h4
    · exact h3 h5
  · exact h3 (hr.quanta q h1 h2)

theorem out_ite (p : Nat × Int) (V : Int) : outV p.2 (if p.2 = 0 then V else 0) p.1 = outV p.2 (if p.2 = 0 then V else 0) p.1 := rfl

variable (h : RR w b r M) (hi : MInv M) {me : Nat} (hc : M.cur = some me)
include h hi hc

set_option maxHeartbeats 1000000 in
theorem r_do (hmade : r.made < 4611686018427387904) (n : Int) (la : Option Addr) (cap : Nat) (xs : List Int) (hl : (shapeL n).length = xs.length) (hm : mayTo (shapeL n) xs xs.length = true) (hA : Args n xs)
    (ha : xs = [] ∨ ∃ lb lo, la = some ⟨lb, lo, none⟩ ∧ Arg w lb lo xs ∧ ¬ RFt b r.S lb) :
    Calls Tryz.prog 30 #[.pointer (some ⟨b, 0, none⟩), .int .i64 n, .slice la xs.length cap] w fun e w' =>
      e = .returned (outV (M.ask me n xs).2 (if (M.ask me n xs).2 = 0 then M.val me n xs else 0) (M.ask me n xs).1) ∧ RGoes w b r (if (M.ask me n xs).2 = 0 then M.next me n xs else M) w' := by
  obtain ⟨m1, m2, _⟩ := hi.cur_some hc
  have eO := h.owns me
  have eT := h.label me
  have haX : xs = [] ∨ ∃ lb lo, la = some ⟨lb, lo, none⟩ ∧ Arg w lb lo xs := ha.imp id (fun ⟨lb, lo, h1, h2, _⟩ => ⟨lb, lo, h1, h2⟩)
  have hnew : ∀ {w1 ab}, Below w.heap.size w w1 → w.heap.size < ab → AK w1 ab b (r.S me).label (r.S me).owns (0, 0) r → w.heap.size < w1.heap.size := fun hb hab hak => by have := Blk.lt hak.ask; omega
  have hP : ∀ {ab : Nat}, w.heap.size < ab → ∀ k i, i < 32 → (r.S i).wb k → ¬ (k = ab ∨ k = b) := fun hab k i hi32 hg e => by
    rcases e with e | e
    · have := (h.wsx.words i hi32).lt hg; omega
    · exact h.wsx.off i k hi32 hg e
  have hF : ∀ {ab : Nat} {w1 w' : World}, Fr (fun k => k = ab ∨ k = b) w1 w' → Fr (fun k => k = ab ∨ RFt b r.S k) w1 w' := fun f => f.mono (fun k _ e => e.imp id (fun e => Or.inl e))
  have hKeep : ∀ {ab : Nat} {w1 w' : World}, Below w.heap.size w w1 → w.heap.size < ab → RK w' b r → Fr (fun k => k = ab ∨ k = b) w1 w' → RMid w b r M w' := fun hb hab hk hf =>
    ⟨r, ⟨⟨Nat.lt_of_lt_of_le (h.still (Fr.of_below hb)).blt hf.size, (h.still (Fr.of_below hb)).wsx.fr hf (fun i g hi32 hg => hP hab g i hi32 hg), fun i hi32 h4 => ((h.still (Fr.of_below hb)).own i hi32 h4).same (fun g hg => hf.block g ((h.still (Fr.of_below hb)).lt (Or.inr ⟨i, hi32, hg⟩)) (hP hab g i hi32 hg)), h.S, h.lq, h.ph, h.ids⟩, hk⟩, by omega, fun k hk => Or.inl hk⟩
  cases hA with
  | self =>
    exact r_first h hi hc 1 (by omega) (by omega) la cap [] hl hm haX me (0, 0) M (fun w1 ab hak hb hab => (first_self w1 ab me _).mono (fun e w' ⟨he, hw⟩ => by
      subst hw
      exact ⟨me, he, fun _ => rfl, hak.ask, RMid.same h hb hab (Fr.refl _ _), Fr.refl _ _⟩))
  | kind s hs =>
    obtain ⟨lb, lo, rfl, hA, hlb⟩ := ha.resolve_left (by simp)
    have eP : M.ask me 2 [(s : Int)] = pathF r.S (r.S me).owns (r.S me).label DEEP s (0, 0) := by
      show pathF M.S (M.S me).owns (M.S me).label DEEP s (0, 0) = _
      rw [h.path, eO, eT]
    have eV : M.val me 2 [(s : Int)] = (r.S s).kind := h.kind s
    have eN : M.next me 2 [(s : Int)] = M := rfl
    rw [eP, eV, eN, ite_self]
    exact r_first h hi hc 2 (by omega) (by omega) _ cap _ hl hm haX _ _ M (fun w1 ab hak hb hab => (first_kind DEEP w1 ab b _ _ me lb lo cap (0, 0) r s hak hs (h.deep hi s) (hA.below hb hA.lt) (by have := hA.lt; omega)).mono (fun e w' ⟨he, hk, hf⟩ =>
      ⟨_, he, fun _ => rfl, hk.ask, RMid.same h hb hab hf, hf.mono (fun _ _ h => Or.inl h)⟩))
  | label s hs =>
    obtain ⟨lb, lo, rfl, hA, hlb⟩ := ha.resolve_left (by simp)
    have eP : M.ask me 3 [(s : Int)] = thereF r.S s (pathF r.S (r.S me).owns (r.S me).label DEEP s (0, 0)) := by
      show thereF M.S s (pathF M.S (M.S me).owns (M.S me).label DEEP s (0, 0)) = _
      rw [h.path, eO, eT, h.there]
    have eV : M.val me 3 [(s : Int)] = (r.S s).label := by show ((M.S s).label : Int) = _; rw [h.label]
    have eN : M.next me 3 [(s : Int)] = M := rfl
    rw [eP, eV, eN, ite_self]
    exact r_first h hi hc 3 (by omega) (by omega) _ cap _ hl hm haX _ _ M (fun w1 ab hak hb hab => (first_label DEEP w1 ab b _ _ me lb lo cap (0, 0) r s hak hs (h.deep hi s) (hA.below hb hA.lt) (by have := hA.lt; omega)).mono (fun e w' ⟨he, hk, hf⟩ =>
      ⟨_, he, fun _ => rfl, hk.ask, RMid.same h hb hab hf, hf.mono (fun _ _ h => Or.inl h)⟩))
  | seg c s l hcc hs hll =>
    obtain ⟨lb, lo, rfl, hA, hlb⟩ := ha.resolve_left (by simp)
    have eP : M.ask me 4 [(c : Int), (s : Int), (l : Int)] = makingF r.S (r.S me).owns (r.S me).label DEEP c s l (0, 0) := by
      show makingF M.S (M.S me).owns (M.S me).label DEEP c s l (0, 0) = _
      rw [h.making, eO, eT]
    have eV : M.val me 4 [(c : Int), (s : Int), (l : Int)] = 0 := rfl
    have eN : M.next me 4 [(c : Int), (s : Int), (l : Int)] = M.put s (segT l) [0, 0, 0, 0, 0, 0, 0, 0] := rfl
    rw [eP, eV, eN]
    by_cases h0 : (makingF r.S (r.S me).owns (r.S me).label DEEP c s l (0, 0)).2 = 0
    · rw [if_pos (c := (makingF r.S (r.S me).owns (r.S me).label DEEP c s l (0, 0)).2 = 0) (t := M.put s (segT l) [0, 0, 0, 0, 0, 0, 0, 0]) h0]
      refine r_first h hi hc 4 (by omega) (by omega) _ cap _ hl hm haX 0 _ _ (fun w1 ab hak hb hab => (first_new_yes DEEP w1 ab b _ _ me lb lo cap (0, 0) r c s l hak hcc hs hll (h.deep hi c) (hA.below hb hA.lt) (by have := hA.lt; omega) (fun e => hlb (Or.inl e)) (makingF r.S (r.S me).owns (r.S me).label DEEP c s l (0, 0)).1 (Prod.ext rfl h0) h.ids.made hmade).mono ?_)
      rintro e w' ⟨rfl, g, hg, hk, hB, hf⟩
      have hw1 := hnew hb hab hak
      refine ⟨0, rfl, fun _ => rfl, ?_, ⟨_, ⟨(h.still (Fr.of_below hb)).toRQ.put (making_zero h0).free ⟨3, l, 0, some ⟨g, 0, none⟩, 8, 8, 0, false, 0, 0, 0, 0⟩ (show (3 : Int) ≠ 0 by decide) _ (seg_words hB) (fun k hk => ?_) (fun e => absurd (show (3 : Int) = 4 from e) (by decide)) hf (hP hab), hk.rk⟩, Int.le_refl _, fun k hk => ?_⟩, hF hf⟩
      · have := hk.ask; rw [show (((makingF r.S (r.S me).owns (r.S me).label DEEP c s l (0, 0)).1, (0 : Int)) : Nat × Int) = makingF r.S (r.S me).owns (r.S me).label DEEP c s l (0, 0) from Prod.ext rfl h0.symm] at this; exact this
      · obtain ⟨o, sp, e⟩ := hk; injection e with e; injection e with e; omega
      · rcases put_foot hk with h1 | ⟨o, sp, e⟩
        · exact Or.inl h1
        · injection e with e; injection e with e; exact Or.inr (by omega)
    · rw [if_neg (c := (makingF r.S (r.S me).owns (r.S me).label DEEP c s l (0, 0)).2 = 0) (t := M.put s (segT l) [0, 0, 0, 0, 0, 0, 0, 0]) h0]
      exact r_first h hi hc 4 (by omega) (by omega) _ cap _ hl hm haX 0 _ M (fun w1 ab hak hb hab => (first_new_no DEEP w1 ab b _ _ me lb lo cap (0, 0) r c s l hak hcc hs hll (h.deep hi c) (hA.below hb hA.lt) (by have := hA.lt; omega) h0).mono (fun e w' ⟨he, hk, hf⟩ =>
        ⟨_, he, fun _ => rfl, hk.ask, RMid.same h hb hab hf, hf.mono (fun _ _ h => Or.inl h)⟩))
  | read s i hs hi8 =>
    obtain ⟨lb, lo, rfl, hA, hlb⟩ := ha.resolve_left (by simp)
    have eP : M.ask me 5 [(s : Int), (i : Int)] = readF r.S (r.S me).owns (r.S me).label DEEP s (0, 0) := by
      show kindF M.S s 3 (chk (M.S me).owns (M.S s).label (M.S me).label (thereF M.S s (pathF M.S (M.S me).owns (M.S me).label DEEP s (0, 0)))) = _
      rw [h.kindF, h.there, h.path, h.label s, eO, eT]
      rfl
    have eV : M.val me 5 [(s : Int), (i : Int)] = (M.ws s).getD i 0 := rfl
    have eN : M.next me 5 [(s : Int), (i : Int)] = M := rfl
    rw [eP, eV, eN, ite_self]
    by_cases h0 : (readF r.S (r.S me).owns (r.S me).label DEEP s (0, 0)).2 = 0
    · obtain ⟨g, cs, q1, q2, q3, q4, q5⟩ := h.seg hi hs (kindF_zero' h0).1
      have hx : (M.ws s)[i]? = some ((M.ws s).getD i 0) := by rw [List.getD_eq_getElem?_getD, List.getElem?_eq_getElem (by omega)]; rfl
      refine r_first h hi hc 5 (by omega) (by omega) _ cap _ hl hm haX _ _ M (fun w1 ab hak hb hab => (first_read_yes DEEP w1 ab b _ _ me lb lo cap (0, 0) r s i hak hs (h.deep hi s) (hA.below hb hA.lt) (by have := hA.lt; omega) g _ q1 q2 (by have := q4.lt; omega) (by have := q4.lt; have := hb.size; omega) (by rw [(q4.below hb q4.lt).cell]; exact q5 i _ hx) hi8 h0).mono (fun e w' ⟨he, hk, hf⟩ =>
        ⟨_, he, fun _ => rfl, hk.ask, RMid.same h hb hab hf, hf.mono (fun _ _ h => Or.inl h)⟩))
    · exact r_first h hi hc 5 (by omega) (by omega) _ cap _ hl hm haX _ _ M (fun w1 ab hak hb hab => (first_read_no DEEP w1 ab b _ _ me lb lo cap (0, 0) r s i hak hs (h.deep hi s) (hA.below hb hA.lt) (by have := hA.lt; omega) h0).mono (fun e w' ⟨he, hk, hf⟩ =>
        ⟨_, he, fun e => absurd e h0, hk.ask, RMid.same h hb hab hf, hf.mono (fun _ _ h => Or.inl h)⟩))
  | write s i v hs hi8 =>
    obtain ⟨lb, lo, rfl, hA, hlb⟩ := ha.resolve_left (by simp)
    have eP : M.ask me 6 [(s : Int), (i : Int), v] = writeF r.S (r.S me).owns (r.S me).label DEEP s (0, 0) := by
      show kindF M.S s 3 (chk (M.S me).owns (M.S me).label (M.S s).label (thereF M.S s (pathF M.S (M.S me).owns (M.S me).label DEEP s (0, 0)))) = _
      rw [h.kindF, h.there, h.path, h.label s, eO, eT]
      rfl
    have eV : M.val me 6 [(s : Int), (i : Int), v] = 0 := rfl
    have eN : M.next me 6 [(s : Int), (i : Int), v] = M.words s ((M.ws s).set i v) := rfl
    rw [eP, eV, eN]
    by_cases h0 : (writeF r.S (r.S me).owns (r.S me).label DEEP s (0, 0)).2 = 0
    · rw [if_pos (c := (writeF r.S (r.S me).owns (r.S me).label DEEP s (0, 0)).2 = 0) (t := M.words s ((M.ws s).set i v)) h0]
      obtain ⟨g, cs, q1, q2, q3, q4, q5⟩ := h.seg hi hs (kindF_zero' h0).1
      have hgw : (r.S s).wb g := ⟨0, none, q1⟩
      have hx : (M.ws s)[i]? = some ((M.ws s).getD i 0) := by rw [List.getD_eq_getElem?_getD, List.getElem?_eq_getElem (by omega)]; rfl
      refine r_first h hi hc 6 (by omega) (by omega) _ cap _ hl hm haX 0 _ _ (fun w1 ab hak hb hab => (first_write_yes DEEP w1 ab b _ _ me lb lo cap (0, 0) r s i v hak hs (h.deep hi s) (hA.below hb hA.lt) (by have := hA.lt; omega) g _ q1 q2 (by have := q4.lt; omega) (h.wsx.off s g hs hgw) (by have := q4.lt; have := hb.size; omega) (by rw [(q4.below hb q4.lt).cell]; exact q5 i _ hx) ((q4.below hb q4.lt).frozen i) hi8 h0).mono ?_)
      rintro e w' ⟨rfl, w4, hk, hf, rfl⟩
      have h4 : RR w4 b r M := (h.still (Fr.of_below hb)).fr hf (fun k hk e => by have := h.lt hk; omega)
      refine ⟨0, rfl, fun _ => rfl, ?_, ⟨r, (h4.write hs (kindF_zero' h0).1 q1 (by omega) v).still ((Fr.refl _ _).drew), by omega, fun k hk => Or.inl hk⟩, ?_⟩
      · exact (Blk.apart hk.ask (p := ⟨g, i, none⟩) (by have := q4.lt; show ab ≠ g; omega) _).drew
      · exact (hf.mono (fun _ _ h => Or.inl h)).trans (((Fr.own w4 g i _).drew).mono (fun k _ e => Or.inr (e ▸ Or.inr ⟨s, hs, hgw⟩)))
    · rw [if_neg (c := (writeF r.S (r.S me).owns (r.S me).label DEEP s (0, 0)).2 = 0) (t := M.words s ((M.ws s).set i v)) h0]
      exact r_first h hi hc 6 (by omega) (by omega) _ cap _ hl hm haX 0 _ M (fun w1 ab hak hb hab => (first_write_no DEEP w1 ab b _ _ me lb lo cap (0, 0) r s i v hak hs (h.deep hi s) (hA.below hb hA.lt) (by have := hA.lt; omega) h0).mono (fun e w' ⟨he, hk, hf⟩ =>
        ⟨_, he, fun e => absurd e h0, hk.ask, RMid.same h hb hab hf, hf.mono (fun _ _ h => Or.inl h)⟩))
  | cont c s l a e g k hcc hs hll ha1 hae he hgk hk8 =>
    obtain ⟨lb, lo, rfl, hA, hlb⟩ := ha.resolve_left (by simp)
    have eB : busyB M.S c s a e g k = busyB r.S c s a e g k := by
      unfold busyB
      simp only [h.lies, h.has, h.kind]
    have eM : mMake M.S (M.S me).owns (M.S me).label c s l = makingF r.S (r.S me).owns (r.S me).label DEEP c s l (0, 0) := by
      show makingF M.S (M.S me).owns (M.S me).label DEEP c s l (0, 0) = _
      rw [h.making, eO, eT]
    have eV : M.val me 7 [(c : Int), (s : Int), (l : Int), (a : Int), (e : Int), (g : Int), (k : Int)] = 0 := rfl
    have eN : M.next me 7 [(c : Int), (s : Int), (l : Int), (a : Int), (e : Int), (g : Int), (k : Int)] = (M.put s (contT l a e g k) []).idle g k := rfl
    have eP : M.ask me 7 [(c : Int), (s : Int), (l : Int), (a : Int), (e : Int), (g : Int), (k : Int)] = if busyB r.S c s a e g k = true then failed 7 (makingF r.S (r.S me).owns (r.S me).label DEEP c s l (0, 0)) else makingF r.S (r.S me).owns (r.S me).label DEEP c s l (0, 0) := by
      show (if busyB M.S c s a e g k = true then failed 7 (mMake M.S (M.S me).owns (M.S me).label c s l) else mMake M.S (M.S me).owns (M.S me).label c s l) = _
      rw [eM, eB]
    rw [eP, eV, eN, ite_self]
    by_cases hbz : busyB r.S c s a e g k = true
    · rw [if_pos hbz, if_neg (failed_zero (by decide) _)]
      exact r_second h hi hc 7 (by omega) (by omega) _ cap _ hl hm haX _ M (fun w1 ab hak hb hab => (second_cont_no DEEP w1 ab b _ _ lb lo cap (0, 0) r c s l a e g k hak hcc hs hll hae he hgk hk8 (h.deep hi c) (hA.below hb hA.lt) (by have := hA.lt; omega) (fun e => hlb (Or.inl e)) h.ids.made hmade (busyB_true hbz)).mono (fun e w' ⟨he, hk, hf⟩ =>
        ⟨he, hk.ask, hKeep hb hab hk.rk hf, hF hf⟩))
    · rw [if_neg hbz]
      have hr : Roomy r.S c s a e g k := busyB_spec he hk8 (by simpa using hbz)
      by_cases h0 : (makingF r.S (r.S me).owns (r.S me).label DEEP c s l (0, 0)).2 = 0
      · rw [if_pos h0]
        refine r_second h hi hc 7 (by omega) (by omega) _ cap _ hl hm haX _ _ (fun w1 ab hak hb hab => (second_cont DEEP w1 ab b _ _ lb lo cap (0, 0) r c s l a e g k hak hcc hs hll hae he hgk hk8 (h.deep hi c) (hA.below hb hA.lt) (by have := hA.lt; omega) (fun e => hlb (Or.inl e)) h.ids.made hmade (roomy_not hr)).mono ?_)
        rintro e w' ⟨rfl, hk, hf⟩
        rw [if_pos h0] at hk
        have eI : r.putIf (makingF r.S (r.S me).owns (r.S me).label DEEP c s l (0, 0)) s ⟨1, l, 0, none, 0, 0, 0, false, a, e, g, k⟩ = (r.mk1 (r.made + 1)).put s ⟨1, l, r.made + 1, none, 0, 0, 0, false, a, e, g, k⟩ := if_pos h0
        rw [eI] at hk
        have h1 := (h.still (Fr.of_below hb)).toRQ.put (w' := w') (making_zero h0).free ⟨1, l, 0, none, 0, 0, 0, false, a, e, g, k⟩ (show (1 : Int) ≠ 0 by decide) [] (none_words _ rfl rfl rfl) (fun k hk => by obtain ⟨o, sp, e⟩ := hk; cases e) (fun e => absurd (show (1 : Int) = 4 from e) (by decide)) hf (hP hab)
        refine ⟨rfl, hk.ask, ⟨_, ⟨h1.idle g k (Fr.refl (fun _ => False) w') (fun _ _ _ _ => id), hk.rk⟩, Int.le_refl _, fun k' hk' => ?_⟩, hF hf⟩
        rcases put_foot (t := ⟨1, l, 0, none, 0, 0, 0, false, a, e, g, k⟩) hk' with h2 | ⟨o, sp, e⟩
        · exact Or.inl h2
        · cases e
      · rw [if_neg h0]
        refine r_second h hi hc 7 (by omega) (by omega) _ cap _ hl hm haX _ _ (fun w1 ab hak hb hab => (second_cont DEEP w1 ab b _ _ lb lo cap (0, 0) r c s l a e g k hak hcc hs hll hae he hgk hk8 (h.deep hi c) (hA.below hb hA.lt) (by have := hA.lt; omega) (fun e => hlb (Or.inl e)) h.ids.made hmade (roomy_not hr)).mono ?_)
        rintro e w' ⟨rfl, hk, hf⟩
        rw [if_neg h0] at hk
        exact ⟨rfl, hk.ask, hKeep hb hab hk.rk hf, hF hf⟩
  | free s hs =>
    obtain ⟨lb, lo, rfl, hA, hlb⟩ := ha.resolve_left (by simp)
    have eV : M.val me 8 [(s : Int)] = 0 := rfl
    have eN : M.next me 8 [(s : Int)] = M.gone s := rfl
    by_cases hs0 : s = 0
    · subst hs0
      have eP : M.ask me 8 [((0 : Nat) : Int)] = failed 3 (pathF r.S (r.S me).owns (r.S me).label DEEP (0 : Nat) (0, 0)) := by
        show mFree M.S (M.S me).owns (M.S me).label 0 = _
        unfold mFree
        rw [if_pos rfl, h.path, eO, eT]
      rw [eP, if_neg (failed_zero (by decide) _), if_neg (failed_zero (by decide) _)]
      exact r_second h hi hc 8 (by omega) (by omega) _ cap _ hl hm haX _ M (fun w1 ab hak hb hab => (second_root DEEP w1 ab b _ _ lb lo cap (0, 0) r hak (h.deep hi _) (hA.below hb hA.lt) (by have := hA.lt; omega)).mono (fun e w' ⟨he, hk, hf⟩ =>
        ⟨he, hk.ask, RMid.same h hb hab hf, hf.mono (fun _ _ h => Or.inl h)⟩))
    · obtain ⟨c, hcl⟩ := hi.tree.lies_root (show 1 ≤ s by omega) hs
      have hcl' : lies r.S s = some c := by rw [← h.lies]; exact hcl
      have eP : M.ask me 8 [(s : Int)] = freeF r.S (r.S me).owns (r.S me).label DEEP s c (0, 0) := by
        show mFree M.S (M.S me).owns (M.S me).label s = _
        unfold mFree mFind freeF
        rw [if_neg hs0, hcl, h.path, h.there, eO, eT]
        show chk _ _ (M.S c).label _ = _
        rw [h.label c]
      have hR : (0 ≤ (r.S s).A ∧ (r.S s).A ≤ (r.S s).B ∧ (r.S s).B ≤ 32) ∧ (0 ≤ (r.S s).G ∧ (r.S s).G ≤ (r.S s).H ∧ (r.S s).H ≤ 8) := by
        rw [← h.A, ← h.B, ← h.G, ← h.H]
        by_cases hk : (M.S s).kind = 1
        · have := hi.tree.rng s hs hk; omega
        · have := hi.tree.oth s hs hk; omega
      have hgw : (r.gone s).wf := fun i hi32 => by
        rw [gone_S]
        dsimp only
        split
        · exact th0_wf
        · exact h.wf hi i hi32
      rw [eP, eV, eN, ite_self]
      by_cases h0 : (freeF r.S (r.S me).owns (r.S me).label DEEP s c (0, 0)).2 = 0
      · rw [if_pos h0]
        refine r_second h hi hc 8 (by omega) (by omega) _ cap _ hl hm haX _ _ (fun w1 ab hak hb hab => (second_free DEEP w1 ab b _ _ lb lo cap (0, 0) r s c hak hs hs0 hcl' (h.deep hi s) (hA.below hb hA.lt) (by have := hA.lt; omega) hR.1 hR.2 hgw).mono ?_)
        rintro e w' ⟨rfl, hk, hf⟩
        rw [if_pos h0] at hk
        exact ⟨rfl, hk.ask, ⟨_, ⟨(h.still (Fr.of_below hb)).toRQ.gone s hf (hP hab), hk.rk⟩, by rw [(gone_rest r s).2]; omega, fun k hk => Or.inl (gone_foot hk)⟩, hF hf⟩
      · rw [if_neg h0]
        refine r_second h hi hc 8 (by omega) (by omega) _ cap _ hl hm haX _ _ (fun w1 ab hak hb hab => (second_free DEEP w1 ab b _ _ lb lo cap (0, 0) r s c hak hs hs0 hcl' (h.deep hi s) (hA.below hb hA.lt) (by have := hA.lt; omega) hR.1 hR.2 hgw).mono ?_)
        rintro e w' ⟨rfl, hk, hf⟩
        rw [if_neg h0] at hk
        exact ⟨rfl, hk.ask, hKeep hb hab hk.rk hf, hF hf⟩
  | thread c s l o hcc hs hll ho =>
    obtain ⟨lb, lo, rfl, hA, hlb⟩ := ha.resolve_left (by simp)
    have eM : mMake M.S (M.S me).owns (M.S me).label c s l = makingF r.S (r.S me).owns (r.S me).label DEEP c s l (0, 0) := by
      show makingF M.S (M.S me).owns (M.S me).label DEEP c s l (0, 0) = _
      rw [h.making, eO, eT]
    have eP : M.ask me 9 [(c : Int), (s : Int), (l : Int), (o : Int)] = threadF r.S (r.S me).owns (r.S me).label DEEP c s l o (0, 0) := by
      show mThread M.S (M.S me).owns (M.S me).label c s l o = _
      unfold mThread threadF
      rw [eM, eO]
    have eV : M.val me 9 [(c : Int), (s : Int), (l : Int), (o : Int)] = 0 := rfl
    have eN : M.next me 9 [(c : Int), (s : Int), (l : Int), (o : Int)] = M.put s (thrT l o) [] := rfl
    rw [eP, eV, eN, ite_self]
    by_cases h0 : (threadF r.S (r.S me).owns (r.S me).label DEEP c s l o (0, 0)).2 = 0
    · rw [if_pos h0]
      have hmk : Made r.S c s l := by
        unfold threadF at h0
        exact making_zero (if_zero (by decide) h0).2
      refine r_second h hi hc 9 (by omega) (by omega) _ cap _ hl hm haX _ _ (fun w1 ab hak hb hab => (second_thread DEEP w1 ab b _ _ lb lo cap (0, 0) r c s l o hak hcc hs hll ho (h.deep hi c) (hA.below hb hA.lt) (by have := hA.lt; omega) h.ids.made hmade).mono ?_)
      rintro e w' ⟨rfl, hk, hf⟩
      have eI : r.putIf (threadF r.S (r.S me).owns (r.S me).label DEEP c s l o (0, 0)) s ⟨2, l, 0, none, 0, 0, o, true, 0, 0, 0, 0⟩ = (r.mk1 (r.made + 1)).put s ⟨2, l, r.made + 1, none, 0, 0, o, true, 0, 0, 0, 0⟩ := if_pos h0
      rw [eI] at hk
      have h1 := (h.still (Fr.of_below hb)).toRQ.put (w' := w') hmk.free ⟨2, l, 0, none, 0, 0, o, true, 0, 0, 0, 0⟩ (show (2 : Int) ≠ 0 by decide) [] (none_words _ rfl rfl rfl) (fun k hk => by obtain ⟨o, sp, e⟩ := hk; cases e) (fun e => absurd (show (2 : Int) = 4 from e) (by decide)) hf (hP hab)
      refine ⟨rfl, hk.ask, ⟨_, ⟨h1, hk.rk⟩, Int.le_refl _, fun k' hk' => ?_⟩, hF hf⟩
      rcases put_foot (t := ⟨2, l, 0, none, 0, 0, o, true, 0, 0, 0, 0⟩) hk' with h2 | ⟨o, sp, e⟩
      · exact Or.inl h2
      · cases e
    · rw [if_neg h0]
      refine r_second h hi hc 9 (by omega) (by omega) _ cap _ hl hm haX _ _ (fun w1 ab hak hb hab => (second_thread DEEP w1 ab b _ _ lb lo cap (0, 0) r c s l o hak hcc hs hll ho (h.deep hi c) (hA.below hb hA.lt) (by have := hA.lt; omega) h.ids.made hmade).mono ?_)
      rintro e w' ⟨rfl, hk, hf⟩
      have eI : r.putIf (threadF r.S (r.S me).owns (r.S me).label DEEP c s l o (0, 0)) s ⟨2, l, 0, none, 0, 0, o, true, 0, 0, 0, 0⟩ = r := if_neg h0
      rw [eI] at hk
      exact ⟨rfl, hk.ask, hKeep hb hab hk.rk hf, hF hf⟩
  | give q s hq hs =>
    obtain ⟨lb, lo, rfl, hA, hlb⟩ := ha.resolve_left (by simp)
    obtain ⟨c, hch⟩ := hi.tree.has_root hq
    have hch' : has r.S q = some c := by rw [← h.has]; exact hch
    have eD : mDrop M.S (M.S me).owns (M.S me).label q = dropF r.S (r.S me).owns (r.S me).label DEEP c (0, 0) := by
      unfold mDrop dropF
      rw [hch]
      show chk _ _ (M.S c).label (chk _ (M.S c).label _ (pathF M.S _ _ DEEP c (0, 0))) = _
      rw [h.path, h.label c, eO, eT]
    have eP : M.ask me 10 [(q : Int), (s : Int)] = giveF r.S (r.S me).owns (r.S me).label DEEP c s (0, 0) := by
      show mGive M.S (M.S me).owns (M.S me).label q s = _
      unfold mGive giveF
      rw [eD, hch]
      show chk _ (M.S c).label (M.S s).label _ = _
      rw [h.kindF, h.there, h.path, h.label c, h.label s, eO, eT]
    have eV : M.val me 10 [(q : Int), (s : Int)] = 0 := rfl
    have eN : M.next me 10 [(q : Int), (s : Int)] = M.turn q (some s) := rfl
    rw [eP, eV, eN, ite_self]
    by_cases h0 : (giveF r.S (r.S me).owns (r.S me).label DEEP c s (0, 0)).2 = 0
    · rw [if_pos h0]
      have hk2 : (r.S s).kind = 2 := by
        unfold giveF at h0
        exact (kindF_zero' (chk_zero h0).1).1
      refine r_third h hi hc 10 (by omega) (by omega) _ cap _ hl hm haX _ _ (fun w1 ab hak hb hab => (third_give' DEEP w1 ab b _ _ me lb lo cap (0, 0) r q c s hak hq hch' (h.deep hi c) hs (h.deep hi s) (hA.below hb hA.lt) (by have := hA.lt; omega) (fun e => hlb (Or.inl e)) _ _ rfl rfl).mono ?_)
      rintro e w' ⟨rfl, hk, hf⟩
      rw [if_pos h0] at hk
      exact ⟨rfl, hk.ask, ⟨_, ⟨(h.still (Fr.of_below hb)).toRQ.turn q s hs _ (some s) (Or.inr ⟨rfl, hk2, rfl⟩) hf (hP hab), hk.rk⟩, by show r.made ≤ r.made + 1; omega, fun k hk => Or.inl hk⟩, hF hf⟩
    · rw [if_neg h0]
      refine r_third h hi hc 10 (by omega) (by omega) _ cap _ hl hm haX _ _ (fun w1 ab hak hb hab => (third_give' DEEP w1 ab b _ _ me lb lo cap (0, 0) r q c s hak hq hch' (h.deep hi c) hs (h.deep hi s) (hA.below hb hA.lt) (by have := hA.lt; omega) (fun e => hlb (Or.inl e)) _ _ rfl rfl).mono ?_)
      rintro e w' ⟨rfl, hk, hf⟩
      rw [if_neg h0] at hk
      exact ⟨rfl, hk.ask, hKeep hb hab hk.rk hf, hF hf⟩
  | drop q hq =>
    obtain ⟨lb, lo, rfl, hA, hlb⟩ := ha.resolve_left (by simp)
    obtain ⟨c, hch⟩ := hi.tree.has_root hq
    have hch' : has r.S q = some c := by rw [← h.has]; exact hch
    have eP : M.ask me 11 [(q : Int)] = dropF r.S (r.S me).owns (r.S me).label DEEP c (0, 0) := by
      show mDrop M.S (M.S me).owns (M.S me).label q = _
      unfold mDrop dropF
      rw [hch]
      show chk _ _ (M.S c).label (chk _ (M.S c).label _ (pathF M.S _ _ DEEP c (0, 0))) = _
      rw [h.path, h.label c, eO, eT]
    have eV : M.val me 11 [(q : Int)] = 0 := rfl
    have eN : M.next me 11 [(q : Int)] = M.turn q none := rfl
    rw [eP, eV, eN, ite_self]
    by_cases h0 : (dropF r.S (r.S me).owns (r.S me).label DEEP c (0, 0)).2 = 0
    · rw [if_pos h0]
      refine r_third h hi hc 11 (by omega) (by omega) _ cap _ hl hm haX _ _ (fun w1 ab hak hb hab => (third_drop' DEEP w1 ab b _ _ me lb lo cap (0, 0) r q c hak hq hch' (h.deep hi c) (hA.below hb hA.lt) (by have := hA.lt; omega) _ _ rfl rfl).mono ?_)
      rintro e w' ⟨rfl, hk, hf⟩
      rw [if_pos h0] at hk
      exact ⟨rfl, hk.ask, ⟨_, ⟨(h.still (Fr.of_below hb)).toRQ.turn q 0 (by omega) _ none (Or.inl ⟨rfl, rfl⟩) hf (hP hab), hk.rk⟩, by show r.made ≤ r.made + 1; omega, fun k hk => Or.inl hk⟩, hF hf⟩
    · rw [if_neg h0]
      refine r_third h hi hc 11 (by omega) (by omega) _ cap _ hl hm haX _ _ (fun w1 ab hak hb hab => (third_drop' DEEP w1 ab b _ _ me lb lo cap (0, 0) r q c hak hq hch' (h.deep hi c) (hA.below hb hA.lt) (by have := hA.lt; omega) _ _ rfl rfl).mono ?_)
      rintro e w' ⟨rfl, hk, hf⟩
      rw [if_neg h0] at hk
      exact ⟨rfl, hk.ask, hKeep hb hab hk.rk hf, hF hf⟩
  | sleep =>
    have eP : M.ask me 12 [] = (0, 0) := rfl
    have eN : M.next me 12 [] = M.awake me false := rfl
    rw [eP, eN, if_pos rfl, if_pos rfl]
    show Calls _ _ _ _ fun e w' => e = .returned (outV 0 0 0) ∧ RGoes w b r (M.awake me false) w'
    have hk2 : (r.S me).kind ≠ 0 := by rw [← h.kind, m2]; decide
    refine r_third h hi hc 12 (by omega) (by omega) _ cap _ hl hm haX (0, 0) _ (fun w1 ab hak hb hab => (third_sleep w1 ab b _ _ me _ (0, 0) r hak m1).mono ?_)
    rintro e w' ⟨rfl, hk, hf⟩
    have hf' : Fr (fun k => k = ab ∨ k = b) w1 w' := hf.mono (fun _ _ e => Or.inr e)
    exact ⟨rfl, hk.ask, ⟨_, ⟨(h.still (Fr.of_below hb)).toRQ.wake me false hk2 hf' (hP hab), hk.rk⟩, by show r.made ≤ r.made + 1; omega, fun k hk => Or.inl (wake_foot hk)⟩, hF hf'⟩
  | wake s hs =>
    obtain ⟨lb, lo, rfl, hA, hlb⟩ := ha.resolve_left (by simp)
    have eP : M.ask me 13 [(s : Int)] = wakeF r.S (r.S me).owns (r.S me).label DEEP s (0, 0) := by
      show kindF M.S s 2 (chk (M.S me).owns (M.S me).label (M.S s).label (thereF M.S s (pathF M.S (M.S me).owns (M.S me).label DEEP s (0, 0)))) = _
      rw [h.kindF, h.there, h.path, h.label s, eO, eT]
      rfl
    have eV : M.val me 13 [(s : Int)] = 0 := rfl
    have eN : M.next me 13 [(s : Int)] = M.awake s true := rfl
    rw [eP, eV, eN, ite_self]
    by_cases h0 : (wakeF r.S (r.S me).owns (r.S me).label DEEP s (0, 0)).2 = 0
    · rw [if_pos h0]
      have hk2 : (r.S s).kind ≠ 0 := by rw [(kindF_zero' h0).1]; decide
      refine r_third h hi hc 13 (by omega) (by omega) _ cap _ hl hm haX _ _ (fun w1 ab hak hb hab => (third_wake' DEEP w1 ab b _ _ me lb lo cap (0, 0) r s hak hs (h.deep hi s) (hA.below hb hA.lt) (by have := hA.lt; omega) _ _ rfl rfl).mono ?_)
      rintro e w' ⟨rfl, hk, hf⟩
      rw [if_pos h0] at hk
      exact ⟨rfl, hk.ask, ⟨_, ⟨(h.still (Fr.of_below hb)).toRQ.wake s true hk2 hf (hP hab), hk.rk⟩, by show r.made ≤ r.made + 1; omega, fun k hk => Or.inl (wake_foot hk)⟩, hF hf⟩
    · rw [if_neg h0]
      refine r_third h hi hc 13 (by omega) (by omega) _ cap _ hl hm haX _ _ (fun w1 ab hak hb hab => (third_wake' DEEP w1 ab b _ _ me lb lo cap (0, 0) r s hak hs (h.deep hi s) (hA.below hb hA.lt) (by have := hA.lt; omega) _ _ rfl rfl).mono ?_)
      rintro e w' ⟨rfl, hk, hf⟩
      rw [if_neg h0] at hk
      exact ⟨rfl, hk.ask, hKeep hb hab hk.rk hf, hF hf⟩
  | port c s l hcc hs hll =>
    obtain ⟨lb, lo, rfl, hA, hlb⟩ := ha.resolve_left (by simp)
    have eP : M.ask me 14 [(c : Int), (s : Int), (l : Int)] = makingF r.S (r.S me).owns (r.S me).label DEEP c s l (0, 0) := by
      show makingF M.S (M.S me).owns (M.S me).label DEEP c s l (0, 0) = _
      rw [h.making, eO, eT]
    have eV : M.val me 14 [(c : Int), (s : Int), (l : Int)] = 0 := rfl
    have eN : M.next me 14 [(c : Int), (s : Int), (l : Int)] = M.put s (portT l) [] := rfl
    rw [eP, eV, eN]
    by_cases h0 : (makingF r.S (r.S me).owns (r.S me).label DEEP c s l (0, 0)).2 = 0
    · rw [if_pos (c := (makingF r.S (r.S me).owns (r.S me).label DEEP c s l (0, 0)).2 = 0) (t := M.put s (portT l) []) h0]
      refine r_fourth h hi hc 14 (by omega) (by omega) _ cap _ hl hm haX 0 _ _ (fun w1 ab hak hb hab => (fourth_port DEEP w1 ab b _ _ lb lo cap (0, 0) r c s l hak hcc hs hll (h.deep hi c) (hA.below hb hA.lt) (by have := hA.lt; omega) h.ids.made hmade).mono ?_)
      rintro e w' ⟨rfl, hk, hf⟩
      have eI : r.putIf (makingF r.S (r.S me).owns (r.S me).label DEEP c s l (0, 0)) s ⟨4, l, 0, none, 0, 0, 0, false, 0, 0, 0, 0⟩ = (r.mk1 (r.made + 1)).put s ⟨4, l, r.made + 1, none, 0, 0, 0, false, 0, 0, 0, 0⟩ := if_pos h0
      rw [eI] at hk
      have h1 := (h.still (Fr.of_below hb)).toRQ.put (w' := w') (making_zero h0).free ⟨4, l, 0, none, 0, 0, 0, false, 0, 0, 0, 0⟩ (show (4 : Int) ≠ 0 by decide) [] (none_words _ rfl rfl rfl) (fun k hk => by obtain ⟨o, sp, e⟩ := hk; cases e) (fun _ => ⟨rfl, Or.inl ⟨rfl, rfl⟩⟩) hf (hP hab)
      refine ⟨0, rfl, fun _ => rfl, hk.ask, ⟨_, ⟨h1, hk.rk⟩, Int.le_refl _, fun k' hk' => ?_⟩, hF hf⟩
      rcases put_foot (t := ⟨4, l, 0, none, 0, 0, 0, false, 0, 0, 0, 0⟩) hk' with h2 | ⟨o, sp, e⟩
      · exact Or.inl h2
      · cases e
    · rw [if_neg (c := (makingF r.S (r.S me).owns (r.S me).label DEEP c s l (0, 0)).2 = 0) (t := M.put s (portT l) []) h0]
      refine r_fourth h hi hc 14 (by omega) (by omega) _ cap _ hl hm haX 0 _ _ (fun w1 ab hak hb hab => (fourth_port DEEP w1 ab b _ _ lb lo cap (0, 0) r c s l hak hcc hs hll (h.deep hi c) (hA.below hb hA.lt) (by have := hA.lt; omega) h.ids.made hmade).mono ?_)
      rintro e w' ⟨rfl, hk, hf⟩
      have eI : r.putIf (makingF r.S (r.S me).owns (r.S me).label DEEP c s l (0, 0)) s ⟨4, l, 0, none, 0, 0, 0, false, 0, 0, 0, 0⟩ = r := if_neg h0
      rw [eI] at hk
      exact ⟨0, rfl, fun _ => rfl, hk.ask, hKeep hb hab hk.rk hf, hF hf⟩
  | send s v hs =>
    obtain ⟨lb, lo, rfl, hA, hlb⟩ := ha.resolve_left (by simp)
    have hWn : (M.ws s).length = (r.S s).Wn := (h.wsx.words s hs).n.symm
    have eP : M.ask me 15 [(s : Int), v] = fullF r.S (r.S me).owns (r.S me).label DEEP s (0, 0) := by
      show mSend M.S (M.S me).owns (M.S me).label s (M.ws s).length = _
      unfold mSend fullF sendF mFind
      dsimp only
      rw [h.kindF, h.there, h.path, h.label s, eO, eT, hWn]
    have eV : M.val me 15 [(s : Int), v] = 0 := rfl
    have eN : M.next me 15 [(s : Int), v] = if 4 ≤ (M.ws s).length then M else M.words s (M.ws s ++ [v]) := rfl
    rw [eP, eV, eN, ite_self]
    by_cases hno : (fullF r.S (r.S me).owns (r.S me).label DEEP s (0, 0)).2 ≠ 0 ∨ 4 ≤ (r.S s).Wn
    · have eM : (if (fullF r.S (r.S me).owns (r.S me).label DEEP s (0, 0)).2 = 0 then if 4 ≤ (M.ws s).length then M else M.words s (M.ws s ++ [v]) else M) = M := by
        rcases hno with h0 | h0
        · rw [if_neg h0]
        · rw [if_pos (c := 4 ≤ (M.ws s).length) (by omega), ite_self]
      rw [eM]
      have h9 := r_fourth h hi hc 15 (by omega) (by omega) _ cap _ hl hm haX 0 (fullF r.S (r.S me).owns (r.S me).label DEEP s (0, 0)) M (fun w1 ab hak hb hab => (fourth_send_no DEEP w1 ab b _ _ lb lo cap (0, 0) r s v hak hs (h.deep hi s) (hA.below hb hA.lt) _ rfl hno).mono (fun e w' ⟨he, hk, hf⟩ =>
        ⟨_, he, fun _ => rfl, hk.ask, RMid.same h hb hab hf, hf.mono (fun _ _ h => Or.inl h)⟩))
      rw [ite_self] at h9
      exact h9
    · have h0 : (fullF r.S (r.S me).owns (r.S me).label DEEP s (0, 0)).2 = 0 := Classical.not_not.1 (fun h => hno (Or.inl h))
      have hf4 : (r.S s).Wn < 4 := by omega
      have hk4 : (r.S s).kind = 4 := by
        unfold fullF at h0
        rw [if_neg (by omega)] at h0
        exact (kindF_zero' h0).1
      rw [if_pos h0, if_neg (by omega)]
      have h9 := r_fourth h hi hc 15 (by omega) (by omega) _ cap _ hl hm haX 0 (fullF r.S (r.S me).owns (r.S me).label DEEP s (0, 0)) (M.words s (M.ws s ++ [v])) (fun w1 ab hak hb hab => (fourth_send DEEP w1 ab b _ _ lb lo cap (0, 0) r s v hak hs (h.deep hi s) (hA.below hb hA.lt) (by have := hA.lt; omega) _ rfl h0 hf4 (M.ws s) ((h.still (Fr.of_below hb)).own s hs hk4) (fun g hg => ?_)).mono ?_)
      · rw [ite_self] at h9
        exact h9
      · have := h.lt (Or.inr ⟨s, hs, hg⟩)
        exact ⟨by omega, h.wsx.off s g hs hg, fun e => hlb (e ▸ Or.inr ⟨s, hs, hg⟩)⟩
      · rintro e w' ⟨rfl, t, ht, _, hown, hnw, hk, hf⟩
        have hw1 := hnew hb hab hak
        refine ⟨0, rfl, fun _ => rfl, hk.ask, ⟨_, ⟨(h.still (Fr.of_below hb)).toRQ.rewords hs hk4 t ht _ hown (fun g hg => hnw g hg) hf (fun k i hi32 his hg e => ?_), hk.rk⟩, by show r.made ≤ r.made + 1; omega, fun k hk => ?_⟩, hf.mono (fun k _ e => ?_)⟩
        · rcases e with e | e | e
          · have := h.lt (Or.inr ⟨i, hi32, hg⟩); omega
          · exact h.wsx.off i k hi32 hg e
          · exact his (h.wsx.apart i s k hi32 hs hg e)
        · rcases rewords_foot hk with h1 | h1
          · exact Or.inl h1
          · rcases hnw k h1 with h2 | h2
            · exact Or.inl (Or.inr ⟨s, hs, h2⟩)
            · exact Or.inr (by omega)
        · rcases e with e | e | e
          · exact Or.inl e
          · exact Or.inr (Or.inl e)
          · exact Or.inr (Or.inr ⟨s, hs, e⟩)
  | receive s hs =>
    obtain ⟨lb, lo, rfl, hA, hlb⟩ := ha.resolve_left (by simp)
    have hWn : (M.ws s).length = (r.S s).Wn := (h.wsx.words s hs).n.symm
    have eP : M.ask me 16 [(s : Int)] = recvF r.S (r.S me).owns (r.S me).label DEEP s (0, 0) := by
      show mRecv M.S (M.S me).owns (M.S me).label s (M.ws s).length = _
      unfold mRecv recvF mFind
      dsimp only
      rw [h.kindF, h.there, h.path, h.label s, eO, eT, hWn]
    have eV : M.val me 16 [(s : Int)] = (M.ws s).getD 0 0 := rfl
    have eN : M.next me 16 [(s : Int)] = M.words s (M.ws s).tail := rfl
    rw [eP, eV, eN]
    by_cases h0 : (recvF r.S (r.S me).owns (r.S me).label DEEP s (0, 0)).2 = 0
    · rw [if_pos (c := (recvF r.S (r.S me).owns (r.S me).label DEEP s (0, 0)).2 = 0) (t := M.words s (M.ws s).tail) h0]
      obtain ⟨hn0, h0'⟩ : ¬ (r.S s).Wn = 0 ∧ (kindF r.S s 4 (chk (r.S me).owns (r.S me).label (r.S s).label (chk (r.S me).owns (r.S s).label (r.S me).label (thereF r.S s (pathF r.S (r.S me).owns (r.S me).label DEEP s (0, 0)))))).2 = 0 := by
        unfold recvF at h0
        exact if_zero' (by decide) h0
      have hk4 := (kindF_zero' h0').1
      have hp4 := hi.ports s (by rw [h.kind]; exact hk4)
      obtain ⟨x, xs, hx⟩ : ∃ x xs, M.ws s = x :: xs := by
        cases hws : M.ws s with
        | nil => rw [hws] at hWn; exact absurd hWn.symm hn0
        | cons x xs => exact ⟨x, xs, rfl⟩
      rw [hx]
      show Calls _ _ _ _ fun e w' => e = .returned (outV _ (if (recvF r.S (r.S me).owns (r.S me).label DEEP s (0, 0)).2 = 0 then x else 0) _) ∧ RGoes w b r (M.words s xs) w'
      refine r_fourth h hi hc 16 (by omega) (by omega) _ cap _ hl hm haX x _ _ (fun w1 ab hak hb hab => (fourth_recv DEEP w1 ab b _ _ lb lo cap (0, 0) r s hak hs (h.deep hi s) (hA.below hb hA.lt) _ rfl h0 x xs ?_ ?_ (fun g hg => ?_)).mono ?_)
      · have := (h.still (Fr.of_below hb)).own s hs hk4
        rw [hx] at this
        exact this
      · rw [hx] at hp4; simp at hp4; omega
      · have := h.lt (Or.inr ⟨s, hs, hg⟩)
        exact ⟨by omega, h.wsx.off s g hs hg, fun e => hlb (e ▸ Or.inr ⟨s, hs, hg⟩)⟩
      · rintro e w' ⟨rfl, t, ht, hown, hnw, hk, hf⟩
        have hw1 := hnew hb hab hak
        refine ⟨x, rfl, fun _ => rfl, hk.ask, ⟨_, ⟨(h.still (Fr.of_below hb)).toRQ.rewords hs hk4 t ht _ hown (fun g hg => Or.inr (hnw g hg)) hf (fun k i hi32 _ hg => hP hab k i hi32 hg), hk.rk⟩, by show r.made ≤ r.made + 1; omega, fun k hk => ?_⟩, hF hf⟩
        rcases rewords_foot hk with h1 | h1
        · exact Or.inl h1
        · exact Or.inr (by have := hnw k h1; omega)
    · rw [if_neg (c := (recvF r.S (r.S me).owns (r.S me).label DEEP s (0, 0)).2 = 0) (t := M.words s (M.ws s).tail) h0]
      exact r_fourth h hi hc 16 (by omega) (by omega) _ cap _ hl hm haX _ _ M (fun w1 ab hak hb hab => (fourth_recv_no DEEP w1 ab b _ _ lb lo cap (0, 0) r s hak hs (h.deep hi s) (hA.below hb hA.lt) _ rfl h0).mono (fun e w' ⟨he, hk, hf⟩ =>
        ⟨_, he, fun e => absurd e h0, hk.ask, RMid.same h hb hab hf, hf.mono (fun _ _ h => Or.inl h)⟩))
end

end Go.Proofs.YtloppmepfkkblaaGreat
end

section
/- What the reference's 'Boot' does. -/
open Go Go.Proofs Go.RowKit
namespace Go.Proofs.YtloppmepfkkblaaGreat

def zeroTh : Th := ⟨0, 0, 0, none, 0, 0, 0, false, 0, 0, 0, 0⟩
def rootTh : Th := ⟨1, 0, 1, none, 0, 0, 0, false, 1, 32, 0, 8⟩
def firstTh : Th := ⟨2, 0, 2, none, 0, 0, 255, true, 0, 0, 0, 0⟩
/-- Ahead of all stores. -/
def rzero : RSt := ⟨fun _ => zeroTh, fun _ => 0, fun _ => 0, 0, 2⟩
/-- The reference's kernel as it is at first, but for the quanta from q on. -/
def rbootTo (q : Nat) : RSt := ⟨upd (upd (fun _ => zeroTh) 0 rootTh) 1 firstTh, fun i => if i < q then 1 else 0, fun i => if i < q then 2 else 0, 0, 2⟩
def rboot : RSt := rbootTo 8

theorem zero_cells : (Tryz.zeroCells77.setIfInBounds 337 (.int .i64 2)).toList = (List.range 338).map rzero.cell := by kernel_rfl

theorem rzero_at (n : Nat) (hn : n < 338) : (Tryz.zeroCells77.setIfInBounds 337 (.int .i64 2))[n]? = some (rzero.cell n) := by
  rw [← Array.getElem?_toList, zero_cells]
  simp [hn]

theorem zero_size : (Tryz.zeroCells77.setIfInBounds 337 (.int .i64 2)).size = 338 := by
  rw [← Array.length_toList, zero_cells]; simp

theorem rbootTo_succ (q : Nat) : (rbootTo q).turn q 1 2 = rbootTo (q + 1) := by
  unfold rbootTo RSt.turn
  dsimp only
  congr 1
  · funext i
    unfold upd
    dsimp only
    by_cases h : i = q
    · rw [if_pos h, if_pos (by omega)]
    · rw [if_neg h]
      by_cases h2 : i < q
      · rw [if_pos h2, if_pos (by omega)]
      · rw [if_neg h2, if_neg (by omega)]
  · funext i
    unfold upd
    dsimp only
    by_cases h : i = q
    · rw [if_pos h, if_pos (by omega)]
    · rw [if_neg h]
      by_cases h2 : i < q
      · rw [if_pos h2, if_pos (by omega)]
      · rw [if_neg h2, if_neg (by omega)]

theorem rbootTo_zero : (rzero.put 0 rootTh).put 1 firstTh = rbootTo 0 := by
  unfold rbootTo rzero RSt.put
  simp

theorem rboot_start {w : World} {b : Nat} (h : RK w b rzero) : RK (World.putTh (World.putTh w b 0 rootTh) b 10 firstTh) b (rbootTo 0) := by
  rw [← rbootTo_zero]
  exact (h.put (s := 0) (by omega) rootTh).put (s := 1) (by omega) firstTh

set_option maxRecDepth 100000 in
set_option maxHeartbeats 4000000 in
theorem rboot_any (w : World) :
    Calls Tryz.prog 16 #[] w fun e w' => e = .returned (.pointer (some ⟨w.heap.size, 0, none⟩)) ∧ RK w' w.heap.size rboot ∧ Below w.heap.size w w' := by
  go_enter Tryz.func16, Tryz.ntmps16
  iterate 16 go_step
  have R0 : RK (w.alloc (.cells (Tryz.zeroCells77.setIfInBounds 337 (.int .i64 2)) 77)) w.heap.size rzero := ⟨_, Blk.new w _ _, zero_size, rzero_at⟩
  have F0 : Below w.heap.size w (w.alloc (.cells (Tryz.zeroCells77.setIfInBounds 337 (.int .i64 2)) 77)) := (Below.refl _ _).alloc (Nat.le_refl _) _
  generalize (w.alloc (.cells (Tryz.zeroCells77.setIfInBounds 337 (.int .i64 2)) 77)) = w1 at *
  have hlt := R0.lt
  obtain ⟨c0, c1, c2, c3, c4, c5, c6, c7, c8, c9⟩ := R0.things (k := 0) (by omega)
  obtain ⟨d0, d1, d2, d3, d4, d5, d6, d7, d8, d9⟩ := R0.things (k := 1) (by omega)
  simp only [Nat.zero_mul, Nat.zero_add, Nat.one_mul, rzero, zeroTh] at c0 c1 c2 c3 c4 c5 c6 c7 c8 c9 d0 d1 d2 d3 d4 d5 d6 d7 d8 d9
  have hfr : ∀ n, w1.frozen? ⟨w.heap.size, n, none⟩ = false := fun n => R0.frozen n
  have HR := hide R0
  have HF := hide F0
  clear R0 F0
  go_wp2_with fail
  have R1 := rboot_start HR.out
  have G1 := (HF.out).trans (((Fr.putTh w1 w.heap.size 0 rootTh).trans (Fr.putTh _ w.heap.size 10 firstTh)).below_of hlt)
  unfold World.putTh at R1 G1
  simp only [rootTh, firstTh] at R1 G1
  have HR1 := hide R1
  have HG1 := hide G1
  clear R1 G1 c0 c1 c2 c3 c4 c5 c6 c7 c8 c9 d0 d1 d2 d3 d4 d5 d6 d7 d8 d9 hfr
  go_loopw [2] (fun q w' => ∃ k : Nat, k ≤ 8 ∧ q = .int .i64 k ∧ RK w' w.heap.size (rbootTo k) ∧ Below w.heap.size w w') (fun q _ => 8 - (intOf q).toNat)
  case atStart => exact ⟨0, by omega, rfl, HR1.out, HG1.out⟩
  case round =>
    obtain ⟨k, hk, rfl, hr, hb⟩ := hrel
    by_cases hk8 : k < 8
    · obtain ⟨q0, q1⟩ := hr.turn hk8
      have hk8i : (k : Int) < 8 := by omega
      have hfr : ∀ n, wr.frozen? ⟨w.heap.size, n, none⟩ = false := fun n => hr.frozen n
      have H1 := hide (hr.putTurn hk8 1 2)
      have HB := hide hb
      clear hr hb
      go_wp2_with fail
      exact ⟨⟨k + 1, by omega, by go_num, by rw [← rbootTo_succ]; exact H1.out, (HB.out.setCell (by simp) _).setCell (by simp) _⟩, by simp [intOf]; omega⟩
    · have : k = 8 := by omega
      subst this
      have HR2 := hide hr
      have HB := hide hb
      clear hr hb
      go_wp2_with fail
      go_ret
      exact ⟨rfl, HR2.out, HB.out⟩

end Go.Proofs.YtloppmepfkkblaaGreat
end

section
/- The reference's calls are the plain kernel's: Trap, Tick, Now, Boot. -/
open Go Go.Proofs Go.RowKit
namespace Go.Proofs.YtloppmepfkkblaaGreat

section
variable {w : World} {b : Nat} {r : RSt} {M : MS}

theorem r_trap (h : RR w b r M) (hi : MInv M) (hmade : r.made < 4611686018427387904) (n : Int) (xs : List Int) (la : Option Addr) (cap : Nat) (ha : xs = [] ∨ ∃ lb lo, la = some ⟨lb, lo, none⟩ ∧ Arg w lb lo xs ∧ ¬ RFt b r.S lb) :
    Calls Tryz.prog 30 #[.pointer (some ⟨b, 0, none⟩), .int .i64 n, .slice la xs.length cap] w fun e w' => e = .returned (M.out n xs) ∧ RGoes w b r (M.trap n xs).2 w' := by
  unfold MS.out MS.trap
  cases hc : M.cur with
  | none =>
    exact (rtrap_idle w b r n _ h.rk (h.wq hi) (by rw [h.cur]; exact hc)).mono (fun e w' ⟨he, hb⟩ => ⟨he, RGoes.still h (Fr.of_below hb)⟩)
  | some me =>
    dsimp only
    by_cases h1 : n < 1 ∨ 17 ≤ n ∨ (shapeL n).length ≠ xs.length
    · rw [if_pos h1]
      exact (rtrap_bad w b r n la xs.length cap me h.rk (h.wq hi) (by rw [h.cur]; exact hc) h1).mono (fun e w' ⟨he, hb⟩ => ⟨he, RGoes.still h (Fr.of_below hb)⟩)
    · rw [if_neg h1]
      have hl : (shapeL n).length = xs.length := Classical.not_not.1 (fun e => h1 (Or.inr (Or.inr e)))
      have ha' : ∀ {w2}, Below w.heap.size w w2 → xs = [] ∨ ∃ lb lo, la = some ⟨lb, lo, none⟩ ∧ Arg w2 lb lo xs := fun hb => ha.imp id (fun ⟨lb, lo, h1, h2, _⟩ => ⟨lb, lo, h1, h2.below hb h2.lt⟩)
      by_cases h2 : mayTo (shapeL n) xs xs.length = false
      · rw [if_pos h2]
        refine (rtrap_arg w b r n la xs.length cap me h.rk (h.wq hi) (by rw [h.cur]; exact hc) (by omega) (by omega) hl (fun w2 hb => ?_)).mono (fun e w' ⟨he, hb⟩ => ⟨he, RGoes.still h (Fr.of_below hb)⟩)
        have := r_may w2 n la cap xs hl (ha' hb)
        rw [h2] at this
        exact this
      · rw [if_neg h2]
        have hm : mayTo (shapeL n) xs xs.length = true := by simpa using h2
        have h3 := r_do h hi hc hmade n la cap xs hl hm (args_of (by omega) (by omega) hl hm) ha
        by_cases h0 : (M.ask me n xs).2 = 0
        · rw [if_pos h0, if_pos h0] at h3
          rw [if_pos h0]
          rw [h0] at h3
          exact h3
        · rw [if_neg h0, if_neg h0] at h3
          rw [if_neg h0]
          exact h3

theorem r_now (h : RR w b r M) (hi : MInv M) : Calls Tryz.prog 13 #[.pointer (some ⟨b, 0, none⟩)] w fun e w' => e = .returned M.now ∧ Below w.heap.size w w' := by
  refine (rnow_any w b r h.rk (h.wq hi)).mono ?_
  rintro e w' ⟨rfl, hb⟩
  refine ⟨?_, hb⟩
  unfold nowF MS.now
  rw [h.cur, h.ph]
  cases M.cur with
  | none => rfl
  | some s => dsimp only; rw [h.label]

theorem r_tick (h : RR w b r M) (hi : MInv M) : Calls Tryz.prog 19 #[.pointer (some ⟨b, 0, none⟩)] w fun e w' => e = .returned (.tuple #[]) ∧ RGoes w b r M.tick w' := by
  refine (rtick_any w b r h.rk (h.wq hi)).mono ?_
  rintro e w' ⟨rfl, hk, hf⟩
  have hP : ∀ k i, i < 32 → (r.S i).wb k → ¬ k = b := fun k i hi32 hg => h.wsx.off i k hi32 hg
  refine ⟨rfl, { r with phase := (r.phase + 1) % 8 }, ⟨⟨Nat.lt_of_lt_of_le h.blt hf.size, h.wsx.fr hf (fun i g hi32 hg => hP g i hi32 hg), fun i hi32 h4 => (h.own i hi32 h4).same (fun g hg => hf.block g (h.lt (Or.inr ⟨i, hi32, hg⟩)) (hP g i hi32 hg)), h.S, h.lq, ?_, ⟨h.ids.zero, h.ids.pos, h.ids.inj, h.ids.qi, h.ids.qs, h.ids.live, h.ids.made⟩⟩, hk⟩, by show r.made ≤ r.made + 1; omega, fun k hk => Or.inl hk, hf.mono (fun k _ e => Or.inl e)⟩
  show (r.phase + 1) % 8 = (M.ph + 1) % 8
  rw [h.ph]
end

theorem rboot_kind (i : Nat) : rboot.S i = rootTh ∧ i = 0 ∨ rboot.S i = firstTh ∧ i = 1 ∨ rboot.S i = fth ∧ i ≠ 0 ∧ i ≠ 1 := by
  show upd (upd (fun _ => zeroTh) 0 rootTh) 1 firstTh i = _ ∧ _ ∨ upd (upd (fun _ => zeroTh) 0 rootTh) 1 firstTh i = _ ∧ _ ∨ upd (upd (fun _ => zeroTh) 0 rootTh) 1 firstTh i = _ ∧ _
  by_cases e1 : i = 1
  · subst e1; exact Or.inr (Or.inl ⟨rfl, rfl⟩)
  · by_cases e0 : i = 0
    · subst e0; exact Or.inl ⟨rfl, rfl⟩
    · rw [upd_ne _ _ e1, upd_ne _ _ e0]; exact Or.inr (Or.inr ⟨rfl, e0, e1⟩)

theorem rboot_rr {w : World} {b : Nat} (h : RK w b rboot) : RR w b rboot MS.boot := by
  have hwb : ∀ i k, ¬ (rboot.S i).wb k := fun i k => by
    rintro ⟨o, s, e⟩
    rcases rboot_kind i with ⟨e1, _⟩ | ⟨e1, _⟩ | ⟨e1, _⟩ <;> rw [e1] at e <;> cases e
  refine ⟨⟨h.lt, ⟨fun i _ => ?_, fun i j k _ _ h1 => absurd h1 (hwb i k), fun i k _ h1 => absurd h1 (hwb i k)⟩, fun i _ h4 => ?_, ?_, fun q => ?_, rfl, ⟨fun i hi => ?_, fun i hi => ?_, fun i j hi hj hij => ?_, fun q => ?_, fun q => ?_, fun q hq hl => ?_, by decide⟩⟩, h⟩
  · show Words w (rboot.S i) []
    rcases rboot_kind i with ⟨e1, _⟩ | ⟨e1, _⟩ | ⟨e1, _⟩ <;> rw [e1] <;> exact none_words _ rfl rfl rfl
  · rcases rboot_kind i with ⟨e1, _⟩ | ⟨e1, _⟩ | ⟨e1, _⟩ <;> rw [e1] at h4 <;> exact absurd h4 (by decide)
  · funext i
    show clean (rboot.S i) = (if i = 0 then _ else if i = 1 then _ else fth)
    rcases rboot_kind i with ⟨e1, e2⟩ | ⟨e1, e2⟩ | ⟨e1, e2, e3⟩
    · rw [e1, if_pos e2]; rfl
    · rw [e1, if_neg (by omega), if_pos e2]; rfl
    · rw [e1, if_neg e2, if_neg e3]; rfl
  · show lqR rboot q = if q < 8 then some 1 else none
    by_cases h8 : q < 8
    · have e1 : rboot.qi q = 2 := if_pos h8
      have e2 : rboot.qs q = 1 := if_pos h8
      rw [if_pos h8, ← e2]
      refine lqR_some ?_
      rw [e1, e2]
      decide
    · rw [if_neg h8]
      exact lqR_none (Or.inl (if_neg h8))
  · rcases rboot_kind i with ⟨e1, e2⟩ | ⟨e1, e2⟩ | ⟨e1, e2, e3⟩
    · rw [e1] at hi; exact absurd hi (by decide)
    · rw [e1] at hi; exact absurd hi (by decide)
    · exact e1
  · show 1 ≤ (rboot.S i).id ∧ (rboot.S i).id ≤ 2
    rcases rboot_kind i with ⟨e1, e2⟩ | ⟨e1, e2⟩ | ⟨e1, e2, e3⟩
    · rw [e1]; decide
    · rw [e1]; decide
    · rw [e1] at hi; exact absurd rfl hi
  · rcases rboot_kind i with ⟨e1, e2⟩ | ⟨e1, e2⟩ | ⟨e1, e2, e3⟩
    · rcases rboot_kind j with ⟨f1, f2⟩ | ⟨f1, f2⟩ | ⟨f1, f2, f3⟩
      · omega
      · rw [e1, f1] at hij; exact absurd hij (by decide)
      · rw [f1] at hj; exact absurd rfl hj
    · rcases rboot_kind j with ⟨f1, f2⟩ | ⟨f1, f2⟩ | ⟨f1, f2, f3⟩
      · rw [e1, f1] at hij; exact absurd hij (by decide)
      · omega
      · rw [f1] at hj; exact absurd rfl hj
    · rw [e1] at hi; exact absurd rfl hi
  · show 0 ≤ (if q < 8 then (2 : Int) else 0) ∧ (if q < 8 then (2 : Int) else 0) ≤ 2
    split <;> decide
  · show (if q < 8 then 1 else 0) < 32
    split <;> decide
  · have h8 : q < 8 := by
      by_cases h8 : q < 8
      · exact h8
      · exact absurd (show rboot.qi q = 0 from if_neg h8) hq
    have e2 : rboot.qs q = 1 := if_pos h8
    rw [e2]
    rfl

theorem r_boot (w : World) : Calls Tryz.prog 16 #[] w fun e w' => e = .returned (.pointer (some ⟨w.heap.size, 0, none⟩)) ∧ RR w' w.heap.size rboot MS.boot ∧ (∀ k, RFt w.heap.size rboot.S k → w.heap.size ≤ k) ∧ Below w.heap.size w w' := by
  refine (rboot_any w).mono ?_
  rintro e w' ⟨rfl, hk, hb⟩
  refine ⟨rfl, rboot_rr hk, fun k hk => ?_, hb⟩
  rcases hk with rfl | ⟨i, _, hg⟩
  · exact Nat.le_refl _
  · obtain ⟨o, s, e⟩ := hg
    rcases rboot_kind i with ⟨e1, _⟩ | ⟨e1, _⟩ | ⟨e1, _⟩ <;> rw [e1] at e <;> cases e

end Go.Proofs.YtloppmepfkkblaaGreat
end

section
/- Numbers that come out, for the reference. -/
end
