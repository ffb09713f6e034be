/- What the reference's 'thing' tells of a slot. -/
import Derived.Test.YtloppmepfkkblaaGreatJRefRecvToRefOut
import Derived.Test.YtloppmepfkkblaaGreatJRefGoneToRefFree
import Derived.Test.YtloppmepfkkblaaGreatJMKeepsToViewM
import Derived.Test.YtloppmepfkkblaaGreatJRefAskToRefWithin

section
open Go Go.Proofs Go.RowKit
namespace Go.Proofs.YtloppmepfkkblaaGreat

set_option maxHeartbeats 2000000 in
set_option maxRecDepth 100000 in
theorem thing_free {w : World} {b : Nat} {r : RSt} {M : MS} (h : RR w b r M) (B : Nat) (hB : B ≤ w.heap.size) (v : Value) (xs : List Int) (hv : Outs w B v xs) (hlen : xs.length ≤ 900000) (s l : Nat) (hs : s < 32) (hk : (r.S s).kind = 0) :
    Calls Tryz.prog 65 #[.pointer (some ⟨b, 0, none⟩), v, .int .i64 s, .int .i64 l] w fun e w' => ∃ v', e = .returned v' ∧ Outs w' B v' (xs ++ thingM M l s) ∧ Below B w w' := by
  obtain ⟨c0, c1, c2, c3, c4, c5, c6, c7, c8, c9⟩ := h.rk.things hs
  have hsi : (s : Int) < 32 := by omega
  have ET : Hid (thingM M l s = [(s : Int), 0]) := by
    unfold Hid thingM
    rw [if_pos (by rw [h.kind]; exact hk), h.kind, hk]
  have H := hide h
  have HV := hide hv
  rw [hk] at c0
  have hXr : Hid (v.ownBlock ≠ some w.heap.size) := fun e => by have := (HV.out.row e).2; omega
  clear h hv hk
  go_enter Tryz.func65, Tryz.ntmps65
  go_wp2_with (at_builtin; refine wpList_out_new _ (by rfl) _ _ (by rfl) B v xs (by rfl) (HV.out.alloc _) _ 2 [(s : Int), 0] (w.heap.size + 1) (by simp) (by rfl) (by rfl) (by rfl) (by omega) (by simp; omega) ?_; intro v1 w1 hv1 hb1 hk1; have x0 : w1.cell? ⟨w.heap.size, 0, none⟩ = some (.int .i64 0) := (cell_same' (hk1 w.heap.size (by simp) hXr.out).1 0).trans (by rw [Blk.cell (Blk.new w _ _)]; rfl))
  go_ret
  exact ⟨v1, rfl, by rw [ET.out]; exact hv1, ((Below.refl B w).alloc hB _).trans hb1⟩



set_option maxHeartbeats 4000000 in
set_option maxRecDepth 100000 in
theorem thing_hidden {w : World} {b : Nat} {r : RSt} {M : MS} (h : RR w b r M) (hi : MInv M) (B : Nat) (hB : B ≤ w.heap.size) (v : Value) (xs : List Int) (hv : Outs w B v xs) (hlen : xs.length ≤ 900000) (s l : Nat) (hs : s < 32) (hl : l < 256) (hk : (r.S s).kind ≠ 0) (hsub : sub (r.S s).label l = false) :
    Calls Tryz.prog 65 #[.pointer (some ⟨b, 0, none⟩), v, .int .i64 s, .int .i64 l] w fun e w' => ∃ v', e = .returned v' ∧ Outs w' B v' (xs ++ thingM M l s) ∧ Below B w w' := by
  obtain ⟨c0, c1, c2, c3, c4, c5, c6, c7, c8, c9⟩ := h.rk.things hs
  have hsi : (s : Int) < 32 := by omega
  have HLB := hide (wf_label (h.wf hi) hs)
  have HLL := hide hl
  have HSUB := hide hsub
  have hk' : ((r.S s).kind == 0) = false := by simpa using hk
  have ET : Hid (thingM M l s = [(s : Int), (r.S s).kind, ((r.S s).label : Int)]) := by
    unfold Hid thingM
    rw [h.kind, h.label]
    rw [if_neg hk, if_neg (by rw [hsub]; decide)]
  have H := hide h
  have HV := hide hv
  have hXr : Hid (v.ownBlock ≠ some w.heap.size) := fun e => by have := (HV.out.row e).2; omega
  have HX : Hid (Blk (w.alloc (.cells #[.int .i64 (r.S s).kind, .int .i64 (r.S s).label, .int .i64 (r.S s).id, .slice (r.S s).Wa (r.S s).Wn (r.S s).Wc, .int .i64 (r.S s).owns, .bool (r.S s).awake, .int .i64 (r.S s).A, .int .i64 (r.S s).B, .int .i64 (r.S s).G, .int .i64 (r.S s).H] 71)) w.heap.size #[.int .i64 (r.S s).kind, .int .i64 (r.S s).label, .int .i64 (r.S s).id, .slice (r.S s).Wa (r.S s).Wn (r.S s).Wc, .int .i64 (r.S s).owns, .bool (r.S s).awake, .int .i64 (r.S s).A, .int .i64 (r.S s).B, .int .i64 (r.S s).G, .int .i64 (r.S s).H]) := Blk.new w _ _
  clear h hv hsub hl
  go_enter Tryz.func65, Tryz.ntmps65
  go_wp2_with (first | (at_builtin; refine wpList_out_new _ (by rfl) _ _ (by rfl) B v xs (by rfl) (HV.out.alloc _) _ 2 [(s : Int), (r.S s).kind] (w.heap.size + 1) (by simp) (by rfl) (by rfl) (by rfl) (by omega) (by simp; omega) ?_; intro v1 w1 hv1 hb1 hk1; have X1 := hide (Blk.same HX.out (hk1 w.heap.size (by simp) hXr.out).1); have N1 := hide (hk1 w.heap.size (by simp) hXr.out).2; have hw1 : w.heap.size < w1.heap.size := X1.out.lt; have hB1 : B ≤ w1.heap.size := (by omega); have HV1 := hide hv1; have HB1 : Hid (Below B w w1) := ((Below.refl B w).alloc hB _).trans hb1; clear hv1 hb1 hk1; have p0 : w1.cell? ⟨w.heap.size, 0, none⟩ = some (.int .i64 (r.S s).kind) := (by rw [Blk.cell X1.out]; rfl); have p1 : w1.cell? ⟨w.heap.size, 1, none⟩ = some (.int .i64 (r.S s).label) := (by rw [Blk.cell X1.out]; rfl)) | (at_builtin; refine wpList_out_new _ (by rfl) _ _ (by rfl) B v1 (xs ++ [(s : Int), (r.S s).kind]) (by rfl) HV1.out _ 1 [((r.S s).label : Int)] w1.heap.size rfl (by rfl) (by rfl) (by rfl) (by simp; omega) hB1 ?_; intro v2 w2 hv2 hb2 hk2; have X2 := hide (Blk.same X1.out (hk2 w.heap.size hw1 N1.out).1); have N2 := hide (hk2 w.heap.size hw1 N1.out).2; have hw2 : w.heap.size < w2.heap.size := X2.out.lt; have hB2 : B ≤ w2.heap.size := (by omega); have HV2 := hide hv2; have HB2 : Hid (Below B w w2) := HB1.out.trans hb2; clear hv2 hb2 hk2 p0 p1; have p0 : w2.cell? ⟨w.heap.size, 0, none⟩ = some (.int .i64 (r.S s).kind) := (by rw [Blk.cell X2.out]; rfl); have p1 : w2.cell? ⟨w.heap.size, 1, none⟩ = some (.int .i64 (r.S s).label) := (by rw [Blk.cell X2.out]; rfl)))
  refine (in_any _ _ _ HLB.out HLL.out).mono ?_
  rintro e w3 ⟨rfl, hw3⟩
  rw [HSUB.out, hw3]
  clear hw3 w3
  go_wp2_with fail
  go_ret
  refine ⟨v2, rfl, ?_, HB2.out⟩
  rw [ET.out]
  have := HV2.out
  rw [List.append_assoc] at this
  exact this

set_option maxHeartbeats 4000000 in
set_option maxRecDepth 100000 in
theorem thing_cont {w : World} {b : Nat} {r : RSt} {M : MS} (h : RR w b r M) (hi : MInv M) (B : Nat) (hB : B ≤ w.heap.size) (v : Value) (xs : List Int) (hv : Outs w B v xs) (hlen : xs.length ≤ 900000) (s l : Nat) (hs : s < 32) (hl : l < 256) (hk : (r.S s).kind = 1) (hsub : sub (r.S s).label l = true) :
    Calls Tryz.prog 65 #[.pointer (some ⟨b, 0, none⟩), v, .int .i64 s, .int .i64 l] w fun e w' => ∃ v', e = .returned v' ∧ Outs w' B v' (xs ++ thingM M l s) ∧ Below B w w' := by
  obtain ⟨c0, c1, c2, c3, c4, c5, c6, c7, c8, c9⟩ := h.rk.things hs
  have hsi : (s : Int) < 32 := by omega
  have HLB := hide (wf_label (h.wf hi) hs)
  have HLL := hide hl
  have HSUB := hide hsub
  rw [hk] at c0
  have ET : Hid (thingM M l s = [(s : Int), 1, ((r.S s).label : Int), (r.S s).A, (r.S s).B, (r.S s).G, (r.S s).H]) := by
    unfold Hid thingM
    rw [h.kind, h.label]
    rw [if_neg (by omega), if_pos hsub]
    unfold bodyM
    rw [h.kind, if_pos hk, h.A, h.B, h.G, h.H, hk]
  have H := hide h
  have HV := hide hv
  have hXr : Hid (v.ownBlock ≠ some w.heap.size) := fun e => by have := (HV.out.row e).2; omega
  have HX : Hid (Blk (w.alloc (.cells #[.int .i64 1, .int .i64 (r.S s).label, .int .i64 (r.S s).id, .slice (r.S s).Wa (r.S s).Wn (r.S s).Wc, .int .i64 (r.S s).owns, .bool (r.S s).awake, .int .i64 (r.S s).A, .int .i64 (r.S s).B, .int .i64 (r.S s).G, .int .i64 (r.S s).H] 71)) w.heap.size #[.int .i64 1, .int .i64 (r.S s).label, .int .i64 (r.S s).id, .slice (r.S s).Wa (r.S s).Wn (r.S s).Wc, .int .i64 (r.S s).owns, .bool (r.S s).awake, .int .i64 (r.S s).A, .int .i64 (r.S s).B, .int .i64 (r.S s).G, .int .i64 (r.S s).H]) := Blk.new w _ _
  clear h hv hsub hl
  go_enter Tryz.func65, Tryz.ntmps65
  go_wp2_with (first | (at_builtin; refine wpList_out_new _ (by rfl) _ _ (by rfl) B v xs (by rfl) (HV.out.alloc _) _ 2 [(s : Int), 1] (w.heap.size + 1) (by simp) (by rfl) (by rfl) (by rfl) (by omega) (by simp; omega) ?_; intro v1 w1 hv1 hb1 hk1; have X1 := hide (Blk.same HX.out (hk1 w.heap.size (by simp) hXr.out).1); have N1 := hide (hk1 w.heap.size (by simp) hXr.out).2; have hw1 : w.heap.size < w1.heap.size := X1.out.lt; have hB1 : B ≤ w1.heap.size := (by omega); have HV1 := hide hv1; have HB1 : Hid (Below B w w1) := ((Below.refl B w).alloc hB _).trans hb1; clear hv1 hb1 hk1; have p0 : w1.cell? ⟨w.heap.size, 0, none⟩ = some (.int .i64 1) := (by rw [Blk.cell X1.out]; rfl); have p1 : w1.cell? ⟨w.heap.size, 1, none⟩ = some (.int .i64 (r.S s).label) := (by rw [Blk.cell X1.out]; rfl)) | (at_builtin; refine wpList_out_new _ (by rfl) _ _ (by rfl) B v1 (xs ++ [(s : Int), 1]) (by rfl) HV1.out _ 1 [((r.S s).label : Int)] w1.heap.size rfl (by rfl) (by rfl) (by rfl) (by simp; omega) hB1 ?_; intro v2 w2 hv2 hb2 hk2; have X2 := hide (Blk.same X1.out (hk2 w.heap.size hw1 N1.out).1); have N2 := hide (hk2 w.heap.size hw1 N1.out).2; have hw2 : w.heap.size < w2.heap.size := X2.out.lt; have hB2 : B ≤ w2.heap.size := (by omega); have HV2 := hide hv2; have HB2 : Hid (Below B w w2) := HB1.out.trans hb2; clear hv2 hb2 hk2 p0 p1; have p0 : w2.cell? ⟨w.heap.size, 0, none⟩ = some (.int .i64 1) := (by rw [Blk.cell X2.out]; rfl); have p1 : w2.cell? ⟨w.heap.size, 1, none⟩ = some (.int .i64 (r.S s).label) := (by rw [Blk.cell X2.out]; rfl)))
  refine (in_any _ _ _ HLB.out HLL.out).mono ?_
  rintro e w3 ⟨rfl, hw3⟩
  rw [HSUB.out, hw3]
  clear hw3 w3
  have p6 : w2.cell? ⟨w.heap.size, 6, none⟩ = some (.int .i64 (r.S s).A) := by rw [Blk.cell X2.out]; rfl
  have p7 : w2.cell? ⟨w.heap.size, 7, none⟩ = some (.int .i64 (r.S s).B) := by rw [Blk.cell X2.out]; rfl
  have p8 : w2.cell? ⟨w.heap.size, 8, none⟩ = some (.int .i64 (r.S s).G) := by rw [Blk.cell X2.out]; rfl
  have p9 : w2.cell? ⟨w.heap.size, 9, none⟩ = some (.int .i64 (r.S s).H) := by rw [Blk.cell X2.out]; rfl
  go_wp2_with (at_builtin; refine wpList_out_new _ (by rfl) _ _ (by rfl) B v2 (xs ++ [(s : Int), 1] ++ [((r.S s).label : Int)]) (by rfl) HV2.out _ 4 [(r.S s).A, (r.S s).B, (r.S s).G, (r.S s).H] w2.heap.size rfl (by rfl) (by rfl) (by rfl) (by simp; omega) hB2 ?_; intro v3 w3 hv3 hb3 hk3)
  go_ret
  refine ⟨v3, rfl, ?_, HB2.out.trans hb3⟩
  rw [ET.out]
  rw [List.append_assoc, List.append_assoc] at hv3
  exact hv3

set_option maxHeartbeats 4000000 in
set_option maxRecDepth 100000 in
theorem thing_thread {w : World} {b : Nat} {r : RSt} {M : MS} (h : RR w b r M) (hi : MInv M) (B : Nat) (hB : B ≤ w.heap.size) (v : Value) (xs : List Int) (hv : Outs w B v xs) (hlen : xs.length ≤ 900000) (s l : Nat) (hs : s < 32) (hl : l < 256) (hk : (r.S s).kind = 2) (hsub : sub (r.S s).label l = true) :
    Calls Tryz.prog 65 #[.pointer (some ⟨b, 0, none⟩), v, .int .i64 s, .int .i64 l] w fun e w' => ∃ v', e = .returned v' ∧ Outs w' B v' (xs ++ thingM M l s) ∧ Below B w w' := by
  obtain ⟨c0, c1, c2, c3, c4, c5, c6, c7, c8, c9⟩ := h.rk.things hs
  have hsi : (s : Int) < 32 := by omega
  have HLB := hide (wf_label (h.wf hi) hs)
  have HLL := hide hl
  have HSUB := hide hsub
  rw [hk] at c0
  have ET : Hid (thingM M l s = [(s : Int), 2, ((r.S s).label : Int), ((r.S s).owns : Int), if (r.S s).awake = true then 1 else 0]) := by
    unfold Hid thingM
    rw [h.kind, h.label]
    rw [if_neg (by omega), if_pos hsub]
    unfold bodyM
    have haw : (M.S s).awake = (r.S s).awake := by rw [← h.S]; rfl
    rw [h.kind, if_neg (by omega), if_pos hk, h.owns, haw, hk]
  have H := hide h
  have HV := hide hv
  have hXr : Hid (v.ownBlock ≠ some w.heap.size) := fun e => by have := (HV.out.row e).2; omega
  have HX : Hid (Blk (w.alloc (.cells #[.int .i64 2, .int .i64 (r.S s).label, .int .i64 (r.S s).id, .slice (r.S s).Wa (r.S s).Wn (r.S s).Wc, .int .i64 (r.S s).owns, .bool (r.S s).awake, .int .i64 (r.S s).A, .int .i64 (r.S s).B, .int .i64 (r.S s).G, .int .i64 (r.S s).H] 71)) w.heap.size #[.int .i64 2, .int .i64 (r.S s).label, .int .i64 (r.S s).id, .slice (r.S s).Wa (r.S s).Wn (r.S s).Wc, .int .i64 (r.S s).owns, .bool (r.S s).awake, .int .i64 (r.S s).A, .int .i64 (r.S s).B, .int .i64 (r.S s).G, .int .i64 (r.S s).H]) := Blk.new w _ _
  clear h hv hsub hl
  go_enter Tryz.func65, Tryz.ntmps65
  go_wp2_with (first | (at_builtin; refine wpList_out_new _ (by rfl) _ _ (by rfl) B v xs (by rfl) (HV.out.alloc _) _ 2 [(s : Int), 2] (w.heap.size + 1) (by simp) (by rfl) (by rfl) (by rfl) (by omega) (by simp; omega) ?_; intro v1 w1 hv1 hb1 hk1; have X1 := hide (Blk.same HX.out (hk1 w.heap.size (by simp) hXr.out).1); have N1 := hide (hk1 w.heap.size (by simp) hXr.out).2; have hw1 : w.heap.size < w1.heap.size := X1.out.lt; have hB1 : B ≤ w1.heap.size := (by omega); have HV1 := hide hv1; have HB1 : Hid (Below B w w1) := ((Below.refl B w).alloc hB _).trans hb1; clear hv1 hb1 hk1; have p0 : w1.cell? ⟨w.heap.size, 0, none⟩ = some (.int .i64 2) := (by rw [Blk.cell X1.out]; rfl); have p1 : w1.cell? ⟨w.heap.size, 1, none⟩ = some (.int .i64 (r.S s).label) := (by rw [Blk.cell X1.out]; rfl)) | (at_builtin; refine wpList_out_new _ (by rfl) _ _ (by rfl) B v1 (xs ++ [(s : Int), 2]) (by rfl) HV1.out _ 1 [((r.S s).label : Int)] w1.heap.size rfl (by rfl) (by rfl) (by rfl) (by simp; omega) hB1 ?_; intro v2 w2 hv2 hb2 hk2; have X2 := hide (Blk.same X1.out (hk2 w.heap.size hw1 N1.out).1); have N2 := hide (hk2 w.heap.size hw1 N1.out).2; have hw2 : w.heap.size < w2.heap.size := X2.out.lt; have hB2 : B ≤ w2.heap.size := (by omega); have HV2 := hide hv2; have HB2 : Hid (Below B w w2) := HB1.out.trans hb2; clear hv2 hb2 hk2 p0 p1; have p0 : w2.cell? ⟨w.heap.size, 0, none⟩ = some (.int .i64 2) := (by rw [Blk.cell X2.out]; rfl); have p1 : w2.cell? ⟨w.heap.size, 1, none⟩ = some (.int .i64 (r.S s).label) := (by rw [Blk.cell X2.out]; rfl)))
  refine (in_any _ _ _ HLB.out HLL.out).mono ?_
  rintro e w3 ⟨rfl, hw3⟩
  rw [HSUB.out, hw3]
  clear hw3 w3
  have p4 : w2.cell? ⟨w.heap.size, 4, none⟩ = some (.int .i64 (r.S s).owns) := by rw [Blk.cell X2.out]; rfl
  have p5 : w2.cell? ⟨w.heap.size, 5, none⟩ = some (.bool (r.S s).awake) := by rw [Blk.cell X2.out]; rfl
  rcases haw : (r.S s).awake
  · rw [haw] at p5
    have HAW := hide haw
    clear haw
    go_wp2_with (at_builtin; refine wpList_out_new _ (by rfl) _ _ (by rfl) B v2 (xs ++ [(s : Int), 2] ++ [((r.S s).label : Int)]) (by rfl) HV2.out _ 2 [((r.S s).owns : Int), 0] w2.heap.size rfl (by rfl) (by rfl) (by rfl) (by simp; omega) hB2 ?_; intro v3 w3 hv3 hb3 hk3)
    go_ret
    refine ⟨v3, rfl, ?_, HB2.out.trans hb3⟩
    rw [ET.out, HAW.out]
    rw [List.append_assoc, List.append_assoc] at hv3
    exact hv3
  · rw [haw] at p5
    have HAW := hide haw
    clear haw
    go_wp2_with (at_builtin; refine wpList_out_new _ (by rfl) _ _ (by rfl) B v2 (xs ++ [(s : Int), 2] ++ [((r.S s).label : Int)]) (by rfl) HV2.out _ 2 [((r.S s).owns : Int), 1] w2.heap.size rfl (by rfl) (by rfl) (by rfl) (by simp; omega) hB2 ?_; intro v3 w3 hv3 hb3 hk3)
    go_ret
    refine ⟨v3, rfl, ?_, HB2.out.trans hb3⟩
    rw [ET.out, HAW.out]
    rw [List.append_assoc, List.append_assoc] at hv3
    exact hv3

set_option maxHeartbeats 4000000 in
set_option maxRecDepth 100000 in
theorem thing_seg {w : World} {b : Nat} {r : RSt} {M : MS} (h : RR w b r M) (hi : MInv M) (B : Nat) (hB : B ≤ w.heap.size) (v : Value) (xs : List Int) (hv : Outs w B v xs) (hlen : xs.length ≤ 900000) (s l : Nat) (hs : s < 32) (hl : l < 256) (hk : (r.S s).kind = 3) (hsub : sub (r.S s).label l = true) (hF : ∀ k, RFt b r.S k → k < B) :
    Calls Tryz.prog 65 #[.pointer (some ⟨b, 0, none⟩), v, .int .i64 s, .int .i64 l] w fun e w' => ∃ v', e = .returned v' ∧ Outs w' B v' (xs ++ thingM M l s) ∧ Below B w w' := by
  obtain ⟨c0, c1, c2, c3, c4, c5, c6, c7, c8, c9⟩ := h.rk.things hs
  have hsi : (s : Int) < 32 := by omega
  have HLB := hide (wf_label (h.wf hi) hs)
  have HLL := hide hl
  have HSUB := hide hsub
  obtain ⟨g, cs, q1, q2, q3, q4, q5⟩ := h.seg hi hs hk
  have hgB : g < B := hF g (Or.inr ⟨s, hs, ⟨0, none, q1⟩⟩)
  rw [hk] at c0
  rw [q1, q2] at c3
  have HC : Hid (∀ w', Below B w w' → ∀ j y, (M.ws s)[j]? = some y → w'.cell? ((⟨g, 0, none⟩ : Addr).add j) = some (.int .i64 y)) := fun w' hb j y hy => by
    have e1 : (⟨g, 0, none⟩ : Addr).add j = ⟨g, j, none⟩ := by unfold Addr.add; split <;> simp_all
    rw [e1, cell_same' (hb.block g hgB), Blk.cell q4]
    exact q5 j y hy
  have Q3 := hide q3
  have ET : Hid (thingM M l s = [(s : Int), 3, ((r.S s).label : Int)] ++ M.ws s) := by
    unfold Hid thingM
    rw [h.kind, h.label]
    rw [if_neg (by omega), if_pos hsub]
    unfold bodyM
    rw [h.kind, if_neg (by omega), if_neg (by omega), if_pos hk, hk]
    rfl
  have H := hide h
  have HV := hide hv
  have hXr : Hid (v.ownBlock ≠ some w.heap.size) := fun e => by have := (HV.out.row e).2; omega
  have HX : Hid (Blk (w.alloc (.cells #[.int .i64 3, .int .i64 (r.S s).label, .int .i64 (r.S s).id, .slice (some ⟨g, 0, none⟩) 8 (r.S s).Wc, .int .i64 (r.S s).owns, .bool (r.S s).awake, .int .i64 (r.S s).A, .int .i64 (r.S s).B, .int .i64 (r.S s).G, .int .i64 (r.S s).H] 71)) w.heap.size #[.int .i64 3, .int .i64 (r.S s).label, .int .i64 (r.S s).id, .slice (some ⟨g, 0, none⟩) 8 (r.S s).Wc, .int .i64 (r.S s).owns, .bool (r.S s).awake, .int .i64 (r.S s).A, .int .i64 (r.S s).B, .int .i64 (r.S s).G, .int .i64 (r.S s).H]) := Blk.new w _ _
  clear h hv hsub hl
  go_enter Tryz.func65, Tryz.ntmps65
  go_wp2_with (first | (at_builtin; refine wpList_out_new _ (by rfl) _ _ (by rfl) B v xs (by rfl) (HV.out.alloc _) _ 2 [(s : Int), 3] (w.heap.size + 1) (by simp) (by rfl) (by rfl) (by rfl) (by omega) (by simp; omega) ?_; intro v1 w1 hv1 hb1 hk1; have X1 := hide (Blk.same HX.out (hk1 w.heap.size (by simp) hXr.out).1); have N1 := hide (hk1 w.heap.size (by simp) hXr.out).2; have hw1 : w.heap.size < w1.heap.size := X1.out.lt; have hB1 : B ≤ w1.heap.size := (by omega); have HV1 := hide hv1; have HB1 : Hid (Below B w w1) := ((Below.refl B w).alloc hB _).trans hb1; clear hv1 hb1 hk1; have p0 : w1.cell? ⟨w.heap.size, 0, none⟩ = some (.int .i64 3) := (by rw [Blk.cell X1.out]; rfl); have p1 : w1.cell? ⟨w.heap.size, 1, none⟩ = some (.int .i64 (r.S s).label) := (by rw [Blk.cell X1.out]; rfl)) | (at_builtin; refine wpList_out_new _ (by rfl) _ _ (by rfl) B v1 (xs ++ [(s : Int), 3]) (by rfl) HV1.out _ 1 [((r.S s).label : Int)] w1.heap.size rfl (by rfl) (by rfl) (by rfl) (by simp; omega) hB1 ?_; intro v2 w2 hv2 hb2 hk2; have X2 := hide (Blk.same X1.out (hk2 w.heap.size hw1 N1.out).1); have N2 := hide (hk2 w.heap.size hw1 N1.out).2; have hw2 : w.heap.size < w2.heap.size := X2.out.lt; have hB2 : B ≤ w2.heap.size := (by omega); have HV2 := hide hv2; have HB2 : Hid (Below B w w2) := HB1.out.trans hb2; clear hv2 hb2 hk2 p0 p1; have p0 : w2.cell? ⟨w.heap.size, 0, none⟩ = some (.int .i64 3) := (by rw [Blk.cell X2.out]; rfl); have p1 : w2.cell? ⟨w.heap.size, 1, none⟩ = some (.int .i64 (r.S s).label) := (by rw [Blk.cell X2.out]; rfl)))
  refine (in_any _ _ _ HLB.out HLL.out).mono ?_
  rintro e w3 ⟨rfl, hw3⟩
  rw [HSUB.out, hw3]
  clear hw3 w3
  have p3 : w2.cell? ⟨w.heap.size, 3, none⟩ = some (.slice (some ⟨g, 0, none⟩) 8 (r.S s).Wc) := by rw [Blk.cell X2.out]; rfl
  go_wp2_with (at_builtin; refine wpList_out _ (by rfl) _ _ (by rfl) B v2 (xs ++ [(s : Int), 3] ++ [((r.S s).label : Int)]) (by rfl) HV2.out ⟨g, 0, none⟩ 8 (r.S s).Wc (M.ws s) (by rfl) Q3.out (HC.out _ HB2.out) (by simp; omega) hB2 ?_; intro v3 w3 hv3 hb3 hk3)
  go_ret
  refine ⟨v3, rfl, ?_, HB2.out.trans hb3⟩
  rw [ET.out, ← List.append_assoc]
  rw [List.append_assoc xs] at hv3
  exact hv3

set_option maxHeartbeats 4000000 in
set_option maxRecDepth 100000 in
theorem thing_port {w : World} {b : Nat} {r : RSt} {M : MS} (h : RR w b r M) (hi : MInv M) (B : Nat) (hB : B ≤ w.heap.size) (v : Value) (xs : List Int) (hv : Outs w B v xs) (hlen : xs.length ≤ 900000) (s l : Nat) (hs : s < 32) (hl : l < 256) (hk : (r.S s).kind = 4) (hsub : sub (r.S s).label l = true) (hF : ∀ k, RFt b r.S k → k < B) (g : Nat) (hg : (r.S s).Wa = some ⟨g, 0, none⟩) :
    Calls Tryz.prog 65 #[.pointer (some ⟨b, 0, none⟩), v, .int .i64 s, .int .i64 l] w fun e w' => ∃ v', e = .returned v' ∧ Outs w' B v' (xs ++ thingM M l s) ∧ Below B w w' := by
  obtain ⟨c0, c1, c2, c3, c4, c5, c6, c7, c8, c9⟩ := h.rk.things hs
  have hsi : (s : Int) < 32 := by omega
  have HLB := hide (wf_label (h.wf hi) hs)
  have HLL := hide hl
  have HSUB := hide hsub
  have hgB : g < B := hF g (Or.inr ⟨s, hs, ⟨0, none, hg⟩⟩)
  rw [hk] at c0
  rw [hg] at c3
  have hn4 := hi.ports s (by rw [h.kind]; exact hk)
  have q3 : (M.ws s).length = (r.S s).Wn := (h.wsx.words s hs).n.symm
  have HC : Hid (∀ w', Below B w w' → ∀ j y, (M.ws s)[j]? = some y → w'.cell? ((⟨g, 0, none⟩ : Addr).add j) = some (.int .i64 y)) := fun w' hb j y hy => by
    have e1 : (⟨g, 0, none⟩ : Addr).add j = ⟨g, j, none⟩ := by unfold Addr.add; split <;> simp_all
    rcases (h.wsx.words s hs).at' with ⟨h1, _⟩ | ⟨g', cs, h1, h2, _, _, h5⟩
    · rw [h1] at hg; cases hg
    · have e2 : g' = g := by rw [h1] at hg; injection hg with hg; injection hg
      subst e2
      rw [e1, cell_same' (hb.block g' hgB), Blk.cell h2]
      exact h5 j y hy
  have Q3 := hide q3
  have HN4 := hide hn4
  clear hn4
  have ET : Hid (thingM M l s = [(s : Int), 4, ((r.S s).label : Int)] ++ ((M.ws s).length : Int) :: M.ws s) := by
    unfold Hid thingM
    rw [h.kind, h.label]
    rw [if_neg (by omega), if_pos hsub]
    unfold bodyM
    rw [h.kind, if_neg (by omega), if_neg (by omega), if_neg (by omega), if_pos hk, hk]
    rfl
  have H := hide h
  have HV := hide hv
  have hXr : Hid (v.ownBlock ≠ some w.heap.size) := fun e => by have := (HV.out.row e).2; omega
  have HX : Hid (Blk (w.alloc (.cells #[.int .i64 4, .int .i64 (r.S s).label, .int .i64 (r.S s).id, .slice (some ⟨g, 0, none⟩) (r.S s).Wn (r.S s).Wc, .int .i64 (r.S s).owns, .bool (r.S s).awake, .int .i64 (r.S s).A, .int .i64 (r.S s).B, .int .i64 (r.S s).G, .int .i64 (r.S s).H] 71)) w.heap.size #[.int .i64 4, .int .i64 (r.S s).label, .int .i64 (r.S s).id, .slice (some ⟨g, 0, none⟩) (r.S s).Wn (r.S s).Wc, .int .i64 (r.S s).owns, .bool (r.S s).awake, .int .i64 (r.S s).A, .int .i64 (r.S s).B, .int .i64 (r.S s).G, .int .i64 (r.S s).H]) := Blk.new w _ _
  clear h hv hsub hl
  go_enter Tryz.func65, Tryz.ntmps65
  go_wp2_with (first | (at_builtin; refine wpList_out_new _ (by rfl) _ _ (by rfl) B v xs (by rfl) (HV.out.alloc _) _ 2 [(s : Int), 4] (w.heap.size + 1) (by simp) (by rfl) (by rfl) (by rfl) (by omega) (by simp; omega) ?_; intro v1 w1 hv1 hb1 hk1; have X1 := hide (Blk.same HX.out (hk1 w.heap.size (by simp) hXr.out).1); have N1 := hide (hk1 w.heap.size (by simp) hXr.out).2; have hw1 : w.heap.size < w1.heap.size := X1.out.lt; have hB1 : B ≤ w1.heap.size := (by omega); have HV1 := hide hv1; have HB1 : Hid (Below B w w1) := ((Below.refl B w).alloc hB _).trans hb1; clear hv1 hb1 hk1; have p0 : w1.cell? ⟨w.heap.size, 0, none⟩ = some (.int .i64 4) := (by rw [Blk.cell X1.out]; rfl); have p1 : w1.cell? ⟨w.heap.size, 1, none⟩ = some (.int .i64 (r.S s).label) := (by rw [Blk.cell X1.out]; rfl)) | (at_builtin; refine wpList_out_new _ (by rfl) _ _ (by rfl) B v1 (xs ++ [(s : Int), 4]) (by rfl) HV1.out _ 1 [((r.S s).label : Int)] w1.heap.size rfl (by rfl) (by rfl) (by rfl) (by simp; omega) hB1 ?_; intro v2 w2 hv2 hb2 hk2; have X2 := hide (Blk.same X1.out (hk2 w.heap.size hw1 N1.out).1); have N2 := hide (hk2 w.heap.size hw1 N1.out).2; have hw2 : w.heap.size < w2.heap.size := X2.out.lt; have hB2 : B ≤ w2.heap.size := (by omega); have HV2 := hide hv2; have HB2 : Hid (Below B w w2) := HB1.out.trans hb2; clear hv2 hb2 hk2 p0 p1; have p0 : w2.cell? ⟨w.heap.size, 0, none⟩ = some (.int .i64 4) := (by rw [Blk.cell X2.out]; rfl); have p1 : w2.cell? ⟨w.heap.size, 1, none⟩ = some (.int .i64 (r.S s).label) := (by rw [Blk.cell X2.out]; rfl)))
  refine (in_any _ _ _ HLB.out HLL.out).mono ?_
  rintro e w3 ⟨rfl, hw3⟩
  rw [HSUB.out, hw3]
  clear hw3 w3
  have p3 : w2.cell? ⟨w.heap.size, 3, none⟩ = some (.slice (some ⟨g, 0, none⟩) (r.S s).Wn (r.S s).Wc) := by rw [Blk.cell X2.out]; rfl
  have hwn : (r.S s).Wn ≤ 4 := by have := HN4.out; have := Q3.out; omega
  go_wp2_with (first | (at_builtin; refine wpList_out_new _ (by rfl) _ _ (by rfl) B v2 (xs ++ [(s : Int), 4] ++ [((r.S s).label : Int)]) (by rfl) HV2.out _ 1 [((r.S s).Wn : Int)] w2.heap.size rfl (by rfl) (by rfl) (by rfl) (by simp; omega) hB2 ?_; intro v3 w3 hv3 hb3 hk3; have X3 := hide (Blk.same X2.out (hk3 w.heap.size hw2 N2.out).1); have hw3 : w.heap.size < w3.heap.size := X3.out.lt; have hB3 : B ≤ w3.heap.size := (by omega); have HV3 := hide hv3; have HB3 : Hid (Below B w w3) := HB2.out.trans hb3; clear hv3 hb3 hk3 p0 p1 p3; have p3 : w3.cell? ⟨w.heap.size, 3, none⟩ = some (.slice (some ⟨g, 0, none⟩) (r.S s).Wn (r.S s).Wc) := (by rw [Blk.cell X3.out]; rfl)) | (at_builtin; refine wpList_out _ (by rfl) _ _ (by rfl) B v3 (xs ++ [(s : Int), 4] ++ [((r.S s).label : Int)] ++ [((r.S s).Wn : Int)]) (by rfl) HV3.out ⟨g, 0, none⟩ (r.S s).Wn (r.S s).Wc (M.ws s) (by rfl) Q3.out (HC.out _ HB3.out) (by simp; omega) hB3 ?_; intro v4 w4 hv4 hb4 hk4))
  go_ret
  refine ⟨v4, rfl, ?_, HB3.out.trans hb4⟩
  rw [ET.out, Q3.out]
  rw [List.append_assoc, List.append_assoc, List.append_assoc] at hv4
  exact hv4

set_option maxHeartbeats 4000000 in
set_option maxRecDepth 100000 in
theorem thing_port0 {w : World} {b : Nat} {r : RSt} {M : MS} (h : RR w b r M) (hi : MInv M) (B : Nat) (hB : B ≤ w.heap.size) (v : Value) (xs : List Int) (hv : Outs w B v xs) (hlen : xs.length ≤ 900000) (s l : Nat) (hs : s < 32) (hl : l < 256) (hk : (r.S s).kind = 4) (hsub : sub (r.S s).label l = true) (hg : (r.S s).Wa = none) :
    Calls Tryz.prog 65 #[.pointer (some ⟨b, 0, none⟩), v, .int .i64 s, .int .i64 l] w fun e w' => ∃ v', e = .returned v' ∧ Outs w' B v' (xs ++ thingM M l s) ∧ Below B w w' := by
  obtain ⟨c0, c1, c2, c3, c4, c5, c6, c7, c8, c9⟩ := h.rk.things hs
  have hsi : (s : Int) < 32 := by omega
  have HLB := hide (wf_label (h.wf hi) hs)
  have HLL := hide hl
  have HSUB := hide hsub
  rw [hk] at c0
  have q3 : (M.ws s).length = (r.S s).Wn := (h.wsx.words s hs).n.symm
  have hW0 : (r.S s).Wn = 0 ∧ (r.S s).Wc = 0 := by
    rcases (h.wsx.words s hs).at' with ⟨_, h2⟩ | ⟨g', cs, h1, _⟩
    · have := (h.wsx.words s hs).cap; omega
    · rw [hg] at h1; cases h1
  have hws : M.ws s = [] := List.length_eq_zero_iff.1 (by omega)
  rw [hg, hW0.1, hW0.2] at c3
  have WS0 := hide hws
  have ET : Hid (thingM M l s = [(s : Int), 4, ((r.S s).label : Int)] ++ ((M.ws s).length : Int) :: M.ws s) := by
    unfold Hid thingM
    rw [h.kind, h.label]
    rw [if_neg (by omega), if_pos hsub]
    unfold bodyM
    rw [h.kind, if_neg (by omega), if_neg (by omega), if_neg (by omega), if_pos hk, hk]
    rfl
  have H := hide h
  have HV := hide hv
  have hXr : Hid (v.ownBlock ≠ some w.heap.size) := fun e => by have := (HV.out.row e).2; omega
  have HX : Hid (Blk (w.alloc (.cells #[.int .i64 4, .int .i64 (r.S s).label, .int .i64 (r.S s).id, .slice none 0 0, .int .i64 (r.S s).owns, .bool (r.S s).awake, .int .i64 (r.S s).A, .int .i64 (r.S s).B, .int .i64 (r.S s).G, .int .i64 (r.S s).H] 71)) w.heap.size #[.int .i64 4, .int .i64 (r.S s).label, .int .i64 (r.S s).id, .slice none 0 0, .int .i64 (r.S s).owns, .bool (r.S s).awake, .int .i64 (r.S s).A, .int .i64 (r.S s).B, .int .i64 (r.S s).G, .int .i64 (r.S s).H]) := Blk.new w _ _
  clear h hv hsub hl
  go_enter Tryz.func65, Tryz.ntmps65
  go_wp2_with (first | (at_builtin; refine wpList_out_new _ (by rfl) _ _ (by rfl) B v xs (by rfl) (HV.out.alloc _) _ 2 [(s : Int), 4] (w.heap.size + 1) (by simp) (by rfl) (by rfl) (by rfl) (by omega) (by simp; omega) ?_; intro v1 w1 hv1 hb1 hk1; have X1 := hide (Blk.same HX.out (hk1 w.heap.size (by simp) hXr.out).1); have N1 := hide (hk1 w.heap.size (by simp) hXr.out).2; have hw1 : w.heap.size < w1.heap.size := X1.out.lt; have hB1 : B ≤ w1.heap.size := (by omega); have HV1 := hide hv1; have HB1 : Hid (Below B w w1) := ((Below.refl B w).alloc hB _).trans hb1; clear hv1 hb1 hk1; have p0 : w1.cell? ⟨w.heap.size, 0, none⟩ = some (.int .i64 4) := (by rw [Blk.cell X1.out]; rfl); have p1 : w1.cell? ⟨w.heap.size, 1, none⟩ = some (.int .i64 (r.S s).label) := (by rw [Blk.cell X1.out]; rfl)) | (at_builtin; refine wpList_out_new _ (by rfl) _ _ (by rfl) B v1 (xs ++ [(s : Int), 4]) (by rfl) HV1.out _ 1 [((r.S s).label : Int)] w1.heap.size rfl (by rfl) (by rfl) (by rfl) (by simp; omega) hB1 ?_; intro v2 w2 hv2 hb2 hk2; have X2 := hide (Blk.same X1.out (hk2 w.heap.size hw1 N1.out).1); have N2 := hide (hk2 w.heap.size hw1 N1.out).2; have hw2 : w.heap.size < w2.heap.size := X2.out.lt; have hB2 : B ≤ w2.heap.size := (by omega); have HV2 := hide hv2; have HB2 : Hid (Below B w w2) := HB1.out.trans hb2; clear hv2 hb2 hk2 p0 p1; have p0 : w2.cell? ⟨w.heap.size, 0, none⟩ = some (.int .i64 4) := (by rw [Blk.cell X2.out]; rfl); have p1 : w2.cell? ⟨w.heap.size, 1, none⟩ = some (.int .i64 (r.S s).label) := (by rw [Blk.cell X2.out]; rfl)))
  refine (in_any _ _ _ HLB.out HLL.out).mono ?_
  rintro e w3 ⟨rfl, hw3⟩
  rw [HSUB.out, hw3]
  clear hw3 w3
  have p3 : w2.cell? ⟨w.heap.size, 3, none⟩ = some (.slice none 0 0) := by rw [Blk.cell X2.out]; rfl
  go_wp2_with (first | (at_builtin; refine wpList_out_new _ (by rfl) _ _ (by rfl) B v2 (xs ++ [(s : Int), 4] ++ [((r.S s).label : Int)]) (by rfl) HV2.out _ 1 [(0 : Int)] w2.heap.size rfl (by rfl) (by rfl) (by rfl) (by simp; omega) hB2 ?_; intro v3 w3 hv3 hb3 hk3; have X3 := hide (Blk.same X2.out (hk3 w.heap.size hw2 N2.out).1); have HV3 := hide hv3; have HB3 : Hid (Below B w w3) := HB2.out.trans hb3; clear hv3 hb3 hk3 p0 p1 p3; have p3 : w3.cell? ⟨w.heap.size, 3, none⟩ = some (.slice none 0 0) := (by rw [Blk.cell X3.out]; rfl)) | (at_builtin; refine wpList_out_nil _ (by rfl) _ _ (by rfl) B v3 (xs ++ [(s : Int), 4] ++ [((r.S s).label : Int)] ++ [(0 : Int)]) (by rfl) HV3.out (by rfl) ?_))
  go_ret
  refine ⟨v3, rfl, ?_, HB3.out⟩
  rw [ET.out, WS0.out]
  have hv4 := HV3.out
  rw [List.append_assoc, List.append_assoc] at hv4
  exact hv4

/-- What is told of a slot, whatever is in it. -/
theorem thing_any {w : World} {b : Nat} {r : RSt} {M : MS} (h : RR w b r M) (hi : MInv M) (B : Nat) (hB : B ≤ w.heap.size) (hF : ∀ k, RFt b r.S k → k < B) (v : Value) (xs : List Int) (hv : Outs w B v xs) (hlen : xs.length ≤ 900000) (s l : Nat) (hs : s < 32) (hl : l < 256) :
    Calls Tryz.prog 65 #[.pointer (some ⟨b, 0, none⟩), v, .int .i64 s, .int .i64 l] w fun e w' => ∃ v', e = .returned v' ∧ Outs w' B v' (xs ++ thingM M l s) ∧ Below B w w' := by
  by_cases hk0 : (r.S s).kind = 0
  · exact thing_free h B hB v xs hv hlen s l hs hk0
  · cases hsub : sub (r.S s).label l with
    | false => exact thing_hidden h hi B hB v xs hv hlen s l hs hl hk0 hsub
    | true =>
      have hk := hi.kinds s
      rw [h.kind] at hk
      rcases hk with hk | hk | hk | hk | hk
      · exact absurd hk hk0
      · exact thing_cont h hi B hB v xs hv hlen s l hs hl hk hsub
      · exact thing_thread h hi B hB v xs hv hlen s l hs hl hk hsub
      · exact thing_seg h hi B hB v xs hv hlen s l hs hl hk hsub hF
      · rcases (h.wsx.words s hs).at' with ⟨h1, _⟩ | ⟨g, cs, h1, _⟩
        · exact thing_port0 h hi B hB v xs hv hlen s l hs hl hk hsub h1
        · exact thing_port h hi B hB v xs hv hlen s l hs hl hk hsub hF g h1

end Go.Proofs.YtloppmepfkkblaaGreat
end

section
/- What the reference's 'tells' tells of a container, and View. -/
open Go Go.Proofs Go.RowKit
namespace Go.Proofs.YtloppmepfkkblaaGreat

theorem sumTo_mono (f : Nat → Nat) {k m : Nat} (h : k ≤ m) : sumTo f k ≤ sumTo f m := by
  induction m with
  | zero => have : k = 0 := by omega
            subst this; exact Nat.le_refl _
  | succ m ih =>
    by_cases e : k = m + 1
    · subst e; exact Nat.le_refl _
    · have := ih (by omega)
      show sumTo f k ≤ sumTo f m + f m
      omega

/-- How much a container's kids may tell. -/
def kidW (M : MS) (c i : Nat) : Nat := if kid M.S c i then 1 + (M.S i).len.toNat else 0

theorem kids_part {M : MS} (h : MInv M) (l n c : Nat) : ∀ k, k ≤ 32 → (kidsM M c (tellsM M l n) k).length ≤ 400 * sumTo (kidW M c) k
  | 0, _ => Nat.le_refl _
  | k + 1, hk => by
    have ih := kids_part h l n c k (by omega)
    unfold kidsM sumTo kidW
    rw [List.length_append]
    by_cases e : kid M.S c k
    · rw [if_pos (c := 1 ≤ k ∧ (M.S k).kind = 1 ∧ lies M.S k = some c) e, if_pos e]
      have := tells_len h l n k (by omega) e.2.1
      unfold kidW at ih
      omega
    · rw [if_neg (c := 1 ≤ k ∧ (M.S k).kind = 1 ∧ lies M.S k = some c) e, if_neg e]
      unfold kidW at ih
      simp
      omega

theorem RR.belowB {w w' : World} {b : Nat} {r : RSt} {M : MS} (h : RR w b r M) {B : Nat} (hF : ∀ k, RFt b r.S k → k < B) (hb : Below B w w') : RR w' b r M :=
  h.fr (P := fun k => B ≤ k) ⟨hb.os, hb.tape, hb.output, hb.size, fun k _ hn => hb.block k (by omega)⟩ (fun k hk e => by have := hF k hk; omega)

theorem slots_one (M : MS) (l c : Nat) : slotsM M l c 1 = [] := by
  unfold slotsM slotsM
  rw [if_neg (by omega)]
  rfl
theorem kids_one (M : MS) (c : Nat) (f : Nat → List Int) : kidsM M c f 1 = [] := by
  unfold kidsM kidsM
  rw [if_neg (by omega)]
  rfl

theorem tells_not {w : World} {b : Nat} {r : RSt} {M : MS} (h : RR w b r M) (hi : MInv M) (v : Value) (c l : Nat) (hc : c < 32) (hl : l < 256) (hsub : sub (r.S c).label l = false) :
    Calls Tryz.prog 37 #[.pointer (some ⟨b, 0, none⟩), v, .int .i64 c, .int .i64 l] w fun e w' => e = .returned v ∧ w' = w := by
  obtain ⟨c0, c1, -⟩ := h.rk.things hc
  have hci : (c : Int) < 32 := by omega
  have HLB := hide (wf_label (h.wf hi) hc)
  have HLL := hide hl
  have HSUB := hide hsub
  clear h hl hsub
  go_enter Tryz.func37, Tryz.ntmps37
  go_wp2_with fail
  refine (in_any _ _ _ HLB.out HLL.out).mono ?_
  rintro e w3 ⟨rfl, hw3⟩
  rw [HSUB.out, hw3]
  clear hw3 w3
  go_wp2_with fail
  go_ret
  exact ⟨rfl, rfl⟩

set_option maxHeartbeats 4000000 in
set_option maxRecDepth 100000 in
theorem tells_any (l : Nat) (hl : l < 256) {b : Nat} {r : RSt} {M : MS} (hi : MInv M) (B : Nat) (hF : ∀ k, RFt b r.S k → k < B) : ∀ (n : Nat) (w : World) (v : Value) (xs : List Int) (c : Nat), RR w b r M → B ≤ w.heap.size → Outs w B v xs → c < 32 → (M.S c).kind = 1 → (M.S c).len < n → xs.length + 400 * (1 + (M.S c).len.toNat) ≤ 900000 →
    Calls Tryz.prog 37 #[.pointer (some ⟨b, 0, none⟩), v, .int .i64 c, .int .i64 l] w fun e w' => ∃ v', e = .returned v' ∧ Outs w' B v' (xs ++ tellsM M l n c) ∧ Below B w w' := by
  intro n
  induction n with
  | zero =>
    intro w v xs c h hB hv hc hc1 hlen _
    have := hi.tree.len_pos hc hc1
    omega
  | succ n ih =>
    intro w v xs c h hB hv hc hc1 hlen hx
    cases hsub : sub (r.S c).label l with
    | false =>
      refine (tells_not h hi v c l hc hl hsub).mono ?_
      rintro e w' ⟨rfl, rfl⟩
      have e0 : tellsM M l (n + 1) c = [] := by
        unfold tellsM
        rw [h.label, if_neg (by rw [hsub]; decide)]
      exact ⟨v, rfl, by rw [e0, List.append_nil]; exact hv, Below.refl _ _⟩
    | true =>
      have ET : Hid (tellsM M l (n + 1) c = slotsM M l c 32 ++ quantaM M l c 8 ++ kidsM M c (tellsM M l n) 32) := by
        unfold Hid
        conv => lhs; unfold tellsM
        rw [h.label, if_pos hsub]
      have IH := hide ih
      have H := hide h
      have HV := hide hv
      have HI := hide hi
      have HF := hide hF
      have HLB := hide (wf_label (h.wf hi) hc)
      have HLL := hide hl
      have HSUB := hide hsub
      have HC1 := hide hc1
      have HLEN := hide hlen
      have HXL := hide hx
      have hci : (c : Int) < 32 := by omega
      obtain ⟨c0, c1, -⟩ := h.rk.things hc
      have hxs : xs.length ≤ 899600 := by omega
      clear h hv hl hsub ih hi hF hc1 hlen hx
      go_enter Tryz.func37, Tryz.ntmps37
      go_wp2_with fail
      refine (in_any _ _ _ HLB.out HLL.out).mono ?_
      rintro e w3 ⟨rfl, hw3⟩
      rw [HSUB.out, hw3]
      clear hw3 w3 c0 c1
      go_wp2_with fail
      go_loopw [1, 10] (fun ov sv w' => ∃ k : Nat, 1 ≤ k ∧ k ≤ 32 ∧ sv = .int .i64 k ∧ Outs w' B ov (xs ++ slotsM M l c k) ∧ Below B w w') (fun _ sv _ => 32 - (intOf sv).toNat)
      case atStart => exact ⟨1, by omega, by omega, rfl, by rw [slots_one, List.append_nil]; exact HV.out, Below.refl _ _⟩
      case round =>
        obtain ⟨k, hk1, hk2, rfl, hov, hb⟩ := hrel
        have hBr : B ≤ wr.heap.size := Nat.le_trans hB hb.size
        have HR := hide (H.out.belowB HF.out hb)
        have HO := hide hov
        have HBl := hide hb
        clear hov hb
        by_cases hk32 : k < 32
        · have hsl := slots_len HI.out l c k
          go_wp2_with fail
          refine (lies_any _ _ _ _ HR.out.rk (HR.out.wf HI.out)).mono ?_
          rintro e w4 ⟨rfl, hb4⟩
          have hbB : Below B wr w4 := hb4.mono hBr
          have HB4 := hide (HBl.out.trans hbB)
          have HR4 := hide (HR.out.belowB HF.out hbB)
          have HO4 := hide (HO.out.later hb4)
          have hB4 : B ≤ w4.heap.size := Nat.le_trans hBr hb4.size
          clear hb4 hbB
          by_cases hl1 : lies r.S k = some c
          · have hoi : (oi (lies r.S k) == (c : Int)) = true := by rw [beq_iff_eq]; exact oi_eq.2 hl1
            have HL1 : Hid (lies M.S k = some c) := by rw [HR.out.lies]; exact hl1
            clear hl1
            go_wp2_with fail
            refine (thing_any HR4.out HI.out B hB4 HF.out _ _ HO4.out (by rw [List.length_append]; omega) k l hk32 HLL.out).mono ?_
            rintro e w5 ⟨v5, rfl, hv5, hb5⟩
            go_wp2_with fail
            refine ⟨⟨k + 1, by omega, by omega, by go_num, ?_, HB4.out.trans hb5⟩, by simp [intOf]; omega⟩
            have e1 : slotsM M l c (k + 1) = slotsM M l c k ++ thingM M l k := by
              conv => lhs; unfold slotsM
              rw [if_pos ⟨hk1, HL1.out⟩]
            rw [e1, ← List.append_assoc]
            exact hv5
          · have hoi : (oi (lies r.S k) == (c : Int)) = false := by rw [beq_eq_false_iff_ne]; exact fun h => hl1 (oi_eq.1 h)
            have HL1 : Hid (¬ lies M.S k = some c) := by rw [HR.out.lies]; exact hl1
            clear hl1
            go_wp2_with fail
            refine ⟨⟨k + 1, by omega, by omega, by go_num, ?_, HB4.out⟩, by simp [intOf]; omega⟩
            have e1 : slotsM M l c (k + 1) = slotsM M l c k := by
              conv => lhs; unfold slotsM
              rw [if_neg (fun h => HL1.out h.2), List.append_nil]
            rw [e1]
            exact HO4.out
        · have ek : k = 32 := by omega
          subst ek
          clear hk1 hk2 hk32
          go_wp2_with fail
          have HSL := hide (slots_len HI.out l c 32)
          go_loopw [1, 11] (fun ov qv w' => ∃ k : Nat, k ≤ 8 ∧ qv = .int .i64 k ∧ Outs w' B ov (xs ++ slotsM M l c 32 ++ quantaM M l c k) ∧ Below B w w') (fun _ qv _ => 8 - (intOf qv).toNat)
          case atStart => exact ⟨0, by omega, rfl, by show Outs _ _ _ (_ ++ []); rw [List.append_nil]; exact HO.out, HBl.out⟩
          case round =>
            clear HR HO HBl hBr
            obtain ⟨k, hk2, rfl, hov, hb⟩ := hrel
            have hBr : B ≤ wr.heap.size := Nat.le_trans hB hb.size
            have HR := hide (H.out.belowB HF.out hb)
            have HO := hide hov
            have HBl := hide hb
            clear hov hb
            by_cases hk8 : k < 8
            · have HQL := hide (quanta_len M l c k)
              have hk8i : (k : Int) < 8 := by omega
              go_wp2_with fail
              refine (has_any _ _ _ _ HR.out.rk (HR.out.wf HI.out)).mono ?_
              rintro e w4 ⟨rfl, hb4⟩
              have hbB : Below B wr w4 := hb4.mono hBr
              have HB4 := hide (HBl.out.trans hbB)
              have HR4 := hide (HR.out.belowB HF.out hbB)
              have HO4 := hide (HO.out.later hb4)
              have hB4 : B ≤ w4.heap.size := Nat.le_trans hBr hb4.size
              clear hb4 hbB
              by_cases hl1 : has r.S k = some c
              · have hoi : (oi (has r.S k) == (c : Int)) = true := by rw [beq_iff_eq]; exact oi_eq.2 hl1
                have HH1 : Hid (has M.S k = some c) := by rw [HR.out.has]; exact hl1
                clear hl1
                obtain ⟨t0, t1⟩ := HR4.out.rk.turn hk8
                have hqs := HR4.out.ids.qs k
                have hqsi : ((r.qs k : Nat) : Int) < 32 := by omega
                have HLQ := hide (HR4.out.lq k)
                have HLBq := hide (wf_label (HR4.out.wf HI.out) hqs)
                have HEL : Hid ((M.S (r.qs k)).label = (r.S (r.qs k)).label) := HR4.out.label _
                have hbw4 := HR4.out.rk.lt
                have HLN : Hid ((xs ++ slotsM M l c 32 ++ quantaM M l c k).length + 2 ≤ 1000000) := by
                  unfold Hid
                  have := HSL.out
                  have := HQL.out
                  rw [List.length_append, List.length_append]
                  omega
                go_wp2_with fail
                generalize hw5 : World.alloc w4 _ = w5
                have HR5 : Hid (RR w5 b r M) := by rw [← hw5]; exact HR4.out.belowB HF.out ((Below.refl B w4).alloc hB4 _)
                have HO5 : Hid (Outs w5 B u1 (xs ++ slotsM M l c 32 ++ quantaM M l c k)) := by rw [← hw5]; exact HO4.out.alloc _
                have HB5 : Hid (Below B w w5) := by rw [← hw5]; exact HB4.out.alloc hB4 _
                have hB5 : B ≤ w5.heap.size := by rw [← hw5]; simp; omega
                have x0 : w5.cell? ⟨w4.heap.size, 0, none⟩ = some (.int .i64 (r.qs k)) := by rw [← hw5, Blk.cell (Blk.new w4 _ _)]; rfl
                have x1 : w5.cell? ⟨w4.heap.size, 1, none⟩ = some (.int .i64 (r.qi k)) := by rw [← hw5, Blk.cell (Blk.new w4 _ _)]; rfl
                clear hw5 t0 t1 hbw4 HR4 HO4 HB4 HO HBl HR hB4
                obtain ⟨-, k1, k2, -⟩ := HR5.out.rk.things hqs
                go_wp2_with fail
                go_still_tail 9, (by kernel_rfl)
                go_wp2_with fail
                refine (in_any _ _ _ HLBq.out HLL.out).mono ?_
                rintro e w6 ⟨rfl, hw6⟩
                have HO6 : Hid (Outs w6 B u1 (xs ++ slotsM M l c 32 ++ quantaM M l c k)) := by rw [hw6]; exact HO5.out.same (fun _ _ => rfl)
                have HB6 : Hid (Below B w w6) := by rw [hw6]; exact HB5.out.drew
                have hB6 : B ≤ w6.heap.size := by rw [hw6]; exact hB5
                have HR6 : Hid (RR w6 b r M) := by rw [hw6]; exact HR5.out.still (by (repeat (first | exact Fr.refl _ _ | refine Fr.drew ?_ | refine Fr.drewN ?_ _ | refine Fr.alloc ?_ _)))
                have z0 : w6.cell? ⟨w4.heap.size, 0, none⟩ = some (.int .i64 (r.qs k)) := by rw [hw6]; exact x0
                have z1 : w6.cell? ⟨w4.heap.size, 1, none⟩ = some (.int .i64 (r.qi k)) := by rw [hw6]; exact x1
                clear hw6 x0 x1 k1 k2 HO5 HB5 hB5 HR5
                have x0 := z0
                have x1 := z1
                clear z0 z1
                obtain ⟨-, k1, k2, -⟩ := HR6.out.rk.things hqs
                by_cases hq0 : r.qi k = 0
                · have EW : Hid (whoM M l k = -1) := by
                    unfold Hid whoM
                    rw [← HLQ.out, lqR_none (Or.inl hq0)]
                  rw [hq0] at x1
                  clear hq0
                  generalize sub (r.S (r.qs k)).label l = y
                  go_wp2_with fail
                  go_quiet (fail)
                  generalize hw7 : World.drewN w6 _ = w7
                  have HO7 : Hid (Outs w7 B u1 (xs ++ slotsM M l c 32 ++ quantaM M l c k)) := by rw [← hw7]; exact HO6.out.same (fun _ _ => rfl)
                  have HB7 : Hid (Below B w w7) := by rw [← hw7]; exact below_drewN HB6.out _
                  have hB7 : B ≤ w7.heap.size := by rw [← hw7]; exact hB6
                  have y0 : w7.cell? ⟨w4.heap.size, 0, none⟩ = some (.int .i64 (r.qs k)) := by rw [← hw7]; exact x0
                  clear hw7 x0 x1 k1 k2 HO6 HB6 hB6 HR6
                  go_wp2_with (at_builtin; refine wpList_out_new _ (by rfl) _ _ (by rfl) B u1 (xs ++ slotsM M l c 32 ++ quantaM M l c k) (by rfl) HO7.out _ 2 [(k : Int), -1] w7.heap.size rfl (by rfl) (by rfl) (by rfl) HLN.out hB7 ?_; intro v8 w8 hv8 hb8 hk8')
                  refine ⟨?_, by simp [intOf]; omega⟩
                  iterate 56 apply Exists.intro
                  refine ⟨?_, rfl⟩
                  refine ⟨k + 1, by omega, by go_num, ?_, HB7.out.trans hb8⟩
                  have e1 : quantaM M l c (k + 1) = quantaM M l c k ++ [(k : Int), -1] := by
                    conv => lhs; unfold quantaM
                    rw [if_pos HH1.out, EW.out]
                  rw [e1, ← List.append_assoc]
                  exact hv8
                · have hb1 : (r.qi k != 0) = true := by simpa using hq0
                  by_cases hid : (r.S (r.qs k)).id = r.qi k
                  · rw [hid] at k2
                    cases hy : sub (r.S (r.qs k)).label l with
                    | true =>
                      have EW : Hid (whoM M l k = ((r.qs k : Nat) : Int)) := by
                        unfold Hid whoM
                        rw [← HLQ.out, lqR_some (fun h => h.elim hq0 (fun h => h hid))]
                        dsimp only
                        rw [HEL.out, if_pos hy]
                      clear hq0 hid hy
                      go_wp2_with fail
                      go_quiet (fail)
                      generalize hw7 : World.drewN w6 _ = w7
                      have HO7 : Hid (Outs w7 B u1 (xs ++ slotsM M l c 32 ++ quantaM M l c k)) := by rw [← hw7]; exact HO6.out.same (fun _ _ => rfl)
                      have HB7 : Hid (Below B w w7) := by rw [← hw7]; exact below_drewN HB6.out _
                      have hB7 : B ≤ w7.heap.size := by rw [← hw7]; exact hB6
                      have y0 : w7.cell? ⟨w4.heap.size, 0, none⟩ = some (.int .i64 (r.qs k)) := by rw [← hw7]; exact x0
                      clear hw7 x0 x1 k1 k2 HO6 HB6 hB6 HR6
                      go_wp2_with (at_builtin; refine wpList_out_new _ (by rfl) _ _ (by rfl) B u1 (xs ++ slotsM M l c 32 ++ quantaM M l c k) (by rfl) HO7.out _ 2 [(k : Int), ((r.qs k : Nat) : Int)] w7.heap.size rfl (by rfl) (by rfl) (by rfl) HLN.out hB7 ?_; intro v8 w8 hv8 hb8 hk8')
                      refine ⟨?_, by simp [intOf]; omega⟩
                      iterate 56 apply Exists.intro
                      refine ⟨?_, rfl⟩
                      refine ⟨k + 1, by omega, by go_num, ?_, HB7.out.trans hb8⟩
                      have e1 : quantaM M l c (k + 1) = quantaM M l c k ++ [(k : Int), ((r.qs k : Nat) : Int)] := by
                        conv => lhs; unfold quantaM
                        rw [if_pos HH1.out, EW.out]
                      rw [e1, ← List.append_assoc]
                      exact hv8
                    | false =>
                      have EW : Hid (whoM M l k = -1) := by
                        unfold Hid whoM
                        rw [← HLQ.out, lqR_some (fun h => h.elim hq0 (fun h => h hid))]
                        dsimp only
                        rw [HEL.out, if_neg (by rw [hy]; decide)]
                      clear hq0 hid hy
                      go_wp2_with fail
                      go_quiet (fail)
                      generalize hw7 : World.drewN w6 _ = w7
                      have HO7 : Hid (Outs w7 B u1 (xs ++ slotsM M l c 32 ++ quantaM M l c k)) := by rw [← hw7]; exact HO6.out.same (fun _ _ => rfl)
                      have HB7 : Hid (Below B w w7) := by rw [← hw7]; exact below_drewN HB6.out _
                      have hB7 : B ≤ w7.heap.size := by rw [← hw7]; exact hB6
                      have y0 : w7.cell? ⟨w4.heap.size, 0, none⟩ = some (.int .i64 (r.qs k)) := by rw [← hw7]; exact x0
                      clear hw7 x0 x1 k1 k2 HO6 HB6 hB6 HR6
                      go_wp2_with (at_builtin; refine wpList_out_new _ (by rfl) _ _ (by rfl) B u1 (xs ++ slotsM M l c 32 ++ quantaM M l c k) (by rfl) HO7.out _ 2 [(k : Int), -1] w7.heap.size rfl (by rfl) (by rfl) (by rfl) HLN.out hB7 ?_; intro v8 w8 hv8 hb8 hk8')
                      refine ⟨?_, by simp [intOf]; omega⟩
                      iterate 56 apply Exists.intro
                      refine ⟨?_, rfl⟩
                      refine ⟨k + 1, by omega, by go_num, ?_, HB7.out.trans hb8⟩
                      have e1 : quantaM M l c (k + 1) = quantaM M l c k ++ [(k : Int), -1] := by
                        conv => lhs; unfold quantaM
                        rw [if_pos HH1.out, EW.out]
                      rw [e1, ← List.append_assoc]
                      exact hv8
                  · have hb2 : ((r.S (r.qs k)).id == r.qi k) = false := by simpa using hid
                    have EW : Hid (whoM M l k = -1) := by
                      unfold Hid whoM
                      rw [← HLQ.out, lqR_none (Or.inr hid)]
                    clear hq0 hid
                    generalize sub (r.S (r.qs k)).label l = y
                    go_wp2_with fail
                    go_quiet (fail)
                    generalize hw7 : World.drewN w6 _ = w7
                    have HO7 : Hid (Outs w7 B u1 (xs ++ slotsM M l c 32 ++ quantaM M l c k)) := by rw [← hw7]; exact HO6.out.same (fun _ _ => rfl)
                    have HB7 : Hid (Below B w w7) := by rw [← hw7]; exact below_drewN HB6.out _
                    have hB7 : B ≤ w7.heap.size := by rw [← hw7]; exact hB6
                    have y0 : w7.cell? ⟨w4.heap.size, 0, none⟩ = some (.int .i64 (r.qs k)) := by rw [← hw7]; exact x0
                    clear hw7 x0 x1 k1 k2 HO6 HB6 hB6 HR6
                    go_wp2_with (at_builtin; refine wpList_out_new _ (by rfl) _ _ (by rfl) B u1 (xs ++ slotsM M l c 32 ++ quantaM M l c k) (by rfl) HO7.out _ 2 [(k : Int), -1] w7.heap.size rfl (by rfl) (by rfl) (by rfl) HLN.out hB7 ?_; intro v8 w8 hv8 hb8 hk8')
                    refine ⟨?_, by simp [intOf]; omega⟩
                    iterate 56 apply Exists.intro
                    refine ⟨?_, rfl⟩
                    refine ⟨k + 1, by omega, by go_num, ?_, HB7.out.trans hb8⟩
                    have e1 : quantaM M l c (k + 1) = quantaM M l c k ++ [(k : Int), -1] := by
                      conv => lhs; unfold quantaM
                      rw [if_pos HH1.out, EW.out]
                    rw [e1, ← List.append_assoc]
                    exact hv8
              · have hoi : (oi (has r.S k) == (c : Int)) = false := by rw [beq_eq_false_iff_ne]; exact fun h => hl1 (oi_eq.1 h)
                have HH1 : Hid (¬ has M.S k = some c) := by rw [HR.out.has]; exact hl1
                clear hl1
                go_wp2_with fail
                refine ⟨?_, by simp [intOf]; omega⟩
                iterate 56 apply Exists.intro
                refine ⟨?_, rfl⟩
                refine ⟨k + 1, by omega, by go_num, ?_, HB4.out⟩
                have e1 : quantaM M l c (k + 1) = quantaM M l c k := by
                  conv => lhs; unfold quantaM
                  rw [if_neg HH1.out, List.append_nil]
                rw [e1]
                exact HO4.out
            · have ek : k = 8 := by omega
              subst ek
              clear hk2 hk8
              have HQL := hide (quanta_len M l c 8)
              go_wp2_with fail
              go_loopw [1, 15] (fun ov sv w' => ∃ k : Nat, 1 ≤ k ∧ k ≤ 32 ∧ sv = .int .i64 k ∧ Outs w' B ov (xs ++ slotsM M l c 32 ++ quantaM M l c 8 ++ kidsM M c (tellsM M l n) k) ∧ Below B w w') (fun _ sv _ => 32 - (intOf sv).toNat)
              case atStart => exact ⟨1, by omega, by omega, rfl, by rw [kids_one, List.append_nil]; exact HO.out, HBl.out⟩
              case round =>
                clear HR HO HBl hBr
                obtain ⟨k, hk1, hk2, rfl, hov, hb⟩ := hrel
                have hBr : B ≤ wr.heap.size := Nat.le_trans hB hb.size
                have HR := hide (H.out.belowB HF.out hb)
                have HO := hide hov
                have HBl := hide hb
                clear hov hb
                by_cases hk32 : k < 32
                · have hk32i : (k : Int) < 32 := by omega
                  obtain ⟨c0, -⟩ := HR.out.rk.things hk32
                  by_cases hkk : (r.S k).kind = 1
                  · rw [hkk] at c0
                    have HKK : Hid ((M.S k).kind = 1) := by rw [HR.out.kind]; exact hkk
                    clear hkk
                    go_wp2_with fail
                    refine (lies_any _ _ _ _ HR.out.rk (HR.out.wf HI.out)).mono ?_
                    rintro e w4 ⟨rfl, hb4⟩
                    have hbB : Below B wr w4 := hb4.mono hBr
                    have HB4 := hide (HBl.out.trans hbB)
                    have HR4 := hide (HR.out.belowB HF.out hbB)
                    have HO4 := hide (HO.out.later hb4)
                    have hB4 : B ≤ w4.heap.size := Nat.le_trans hBr hb4.size
                    clear hb4 hbB c0
                    by_cases hl1 : lies r.S k = some c
                    · have hoi : (oi (lies r.S k) == (c : Int)) = true := by rw [beq_iff_eq]; exact oi_eq.2 hl1
                      have HL1 : Hid (lies M.S k = some c) := by rw [HR.out.lies]; exact hl1
                      have HKid : Hid (kid M.S c k) := ⟨hk1, HKK.out, HL1.out⟩
                      clear hl1
                      have HD : Hid ((M.S k).len < n ∧ (xs ++ slotsM M l c 32 ++ quantaM M l c 8 ++ kidsM M c (tellsM M l n) k).length + 400 * (1 + (M.S k).len.toNat) ≤ 900000) := by
                        obtain ⟨d1, d2, d3⟩ := HI.out.tree.kid_in hk32 HKid.out
                        have d4 := HI.out.tree.len_lt hk32 HKK.out d1 d2 d3
                        have d5 := HLEN.out
                        have d6 := kids_part HI.out l n c k hk2
                        have d7 : sumTo (kidW M c) (k + 1) = sumTo (kidW M c) k + (1 + (M.S k).len.toNat) := by
                          show sumTo (kidW M c) k + kidW M c k = _
                          unfold kidW
                          rw [if_pos HKid.out]
                        have d8 := sumTo_mono (kidW M c) (show k + 1 ≤ 32 by omega)
                        have d9 : ((sumTo (kidW M c) 32 : Nat) : Int) ≤ (M.S c).len := HI.out.tree.kids_sum hc HC1.out
                        have d10 := HXL.out
                        have d11 := HSL.out
                        have d12 := HQL.out
                        have d13 := HI.out.tree.len_pos hc HC1.out
                        refine ⟨by omega, ?_⟩
                        rw [List.length_append, List.length_append, List.length_append]
                        omega
                      go_wp2_with fail
                      refine (IH.out w4 _ _ k HR4.out hB4 HO4.out hk32 HKK.out HD.out.1 HD.out.2).mono ?_
                      rintro e w5 ⟨v5, rfl, hv5, hb5⟩
                      go_wp2_with fail
                      refine ⟨?_, by simp [intOf]; omega⟩
                      iterate 26 apply Exists.intro
                      refine ⟨?_, rfl⟩
                      refine ⟨k + 1, by omega, by omega, by go_num, ?_, HB4.out.trans hb5⟩
                      have e1 : kidsM M c (tellsM M l n) (k + 1) = kidsM M c (tellsM M l n) k ++ tellsM M l n k := by
                        conv => lhs; unfold kidsM
                        rw [if_pos ⟨hk1, HKK.out, HL1.out⟩]
                      rw [e1, ← List.append_assoc]
                      exact hv5
                    · have hoi : (oi (lies r.S k) == (c : Int)) = false := by rw [beq_eq_false_iff_ne]; exact fun h => hl1 (oi_eq.1 h)
                      have HL1 : Hid (¬ lies M.S k = some c) := by rw [HR.out.lies]; exact hl1
                      clear hl1
                      go_wp2_with fail
                      refine ⟨?_, by simp [intOf]; omega⟩
                      iterate 26 apply Exists.intro
                      refine ⟨?_, rfl⟩
                      refine ⟨k + 1, by omega, by omega, by go_num, ?_, HB4.out⟩
                      have e1 : kidsM M c (tellsM M l n) (k + 1) = kidsM M c (tellsM M l n) k := by
                        conv => lhs; unfold kidsM
                        rw [if_neg (fun h => HL1.out h.2.2), List.append_nil]
                      rw [e1]
                      exact HO4.out
                  · have hkk' : ((r.S k).kind == 1) = false := by simpa using hkk
                    have HKK : Hid (¬ (M.S k).kind = 1) := by rw [HR.out.kind]; exact hkk
                    clear hkk
                    go_wp2_with fail
                    refine ⟨⟨k + 1, by omega, by omega, by go_num, ?_, HBl.out⟩, by simp [intOf]; omega⟩
                    have e1 : kidsM M c (tellsM M l n) (k + 1) = kidsM M c (tellsM M l n) k := by
                      conv => lhs; unfold kidsM
                      rw [if_neg (fun h => HKK.out h.2.1), List.append_nil]
                    rw [e1]
                    exact HO.out
                · have ek : k = 32 := by omega
                  subst ek
                  go_wp2_with fail
                  go_ret
                  refine ⟨_, rfl, ?_, HBl.out⟩
                  rw [ET.out]
                  have := HO.out
                  rw [List.append_assoc, List.append_assoc] at this
                  rw [List.append_assoc]
                  exact this

/-- What may be known under a label. -/
theorem r_view_no (w : World) (b : Nat) (l : Int) (hl : l < 0 ∨ 255 < l) :
    Calls Tryz.prog 22 #[.pointer (some ⟨b, 0, none⟩), .int .i64 l] w fun e w' => e = .returned (.slice none 0 0) ∧ w' = w := by
  rcases hl with hl | hl
  · have hd : decide (l < 0) = true := by simpa using hl
    go_enter Tryz.func22, Tryz.ntmps22
    go_wp2_with fail
    go_ret
    exact ⟨rfl, rfl⟩
  · have hd : decide (l < 0) = false := by simp; omega
    have hd2 : decide (255 < l) = true := by simpa using hl
    have hl2 : ¬ l < 0 := by omega
    go_enter Tryz.func22, Tryz.ntmps22
    go_wp2_with fail
    go_ret
    exact ⟨rfl, rfl⟩

set_option maxHeartbeats 1000000 in
theorem r_view {w : World} {b : Nat} {r : RSt} {M : MS} (h : RR w b r M) (hi : MInv M) (l : Int) :
    Calls Tryz.prog 22 #[.pointer (some ⟨b, 0, none⟩), .int .i64 l] w fun e w' => ∃ v, e = .returned v ∧ Outs w' w.heap.size v (viewM M l) ∧ Below w.heap.size w w' := by
  by_cases hl : l < 0 ∨ 255 < l
  · refine (r_view_no w b l hl).mono ?_
    rintro e w' ⟨rfl, rfl⟩
    refine ⟨_, rfl, ?_, Below.refl _ _⟩
    unfold viewM
    rw [if_pos hl]
    exact Outs.nil _ _
  · obtain ⟨ln, rfl⟩ := Int.eq_ofNat_of_zero_le (show 0 ≤ l by omega)
    have hln : ln < 256 := by omega
    have EV : Hid (viewM M (ln : Int) = (M.ph : Int) :: tellsM M ln DEEP 0) := by
      unfold Hid viewM
      rw [if_neg hl, Int.toNat_natCast]
    have p0 := h.rk.phase
    have HP := hide h.ph
    have hl1 : ¬ (ln : Int) < 0 := by omega
    have hl2 : ¬ 255 < (ln : Int) := by omega
    have H := hide h
    have HI := hide hi
    have hF : Hid (∀ k, RFt b r.S k → k < w.heap.size) := fun k hk => h.lt hk
    clear h hi hl
    go_enter Tryz.func22, Tryz.ntmps22
    go_wp2_with fail
    have hO : Outs (w.alloc (.cells #[.int .i64 r.phase] 3)) w.heap.size (.slice (some ⟨w.heap.size, 0, none⟩) 1 1) [(r.phase : Int)] :=
      ⟨rfl, Or.inr ⟨w.heap.size, 1, _, rfl, Nat.le_refl _, heap_alloc_new w _, Nat.le_refl _, by unfold maxLen; omega, rfl, rfl⟩⟩
    have hroot := HI.out.tree.root
    have hlen : (M.S 0).len = 31 := by unfold Th.len; rw [hroot.2.1, hroot.2.2.1]; rfl
    refine (tells_any ln hln HI.out w.heap.size hF.out DEEP _ _ [(r.phase : Int)] 0 (H.out.belowB hF.out ((Below.refl _ _).alloc (Nat.le_refl _) _)) (by simp) hO (by omega) hroot.1 (by rw [hlen]; decide) (by rw [hlen]; simp)).mono ?_
    rintro e w1 ⟨v1, rfl, hv1, hb1⟩
    go_wp2_with fail
    go_ret
    refine ⟨v1, rfl, ?_, ((Below.refl _ _).alloc (Nat.le_refl _) _).trans hb1⟩
    rw [EV.out, ← HP.out]
    exact hv1

end Go.Proofs.YtloppmepfkkblaaGreat
end
