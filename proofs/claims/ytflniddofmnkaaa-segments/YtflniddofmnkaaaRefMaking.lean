/- What the reference's 'making' does. -/
import Derived.Test.YtflniddofmnkaaaRefPath
open Go Go.Proofs Go.RowKit
namespace Go.Proofs.Ytflniddofmnkaaa

set_option maxHeartbeats 1000000 in
theorem making_any (w : World) (ab b T O : Nat) (p : Nat × Int) (r : RSt) (n c s l : Nat) (h : AK w ab b T O p r) (hc : c < 32) (hs : s < 32) (hl : l < 256) (hd : deep r.S n c) :
    Calls Try.prog 71 #[.pointer (some ⟨ab, 0, none⟩), .int .i64 c, .int .i64 s, .int .i64 l] w fun e' w' => e' = .returned (.tuple #[]) ∧ AK w' ab b T O (makingF r.S O T n c s l p) r ∧ Fr (fun k => k = ab) w w' := by
  obtain ⟨a0, a1, a2, a3, a4, f3, f4⟩ := h.ask.cells
  obtain ⟨c0, c1, c2, c3, c4, c5, c6, c7, c8, c9⟩ := h.rk.things hc
  have H : Hid (AK w ab b T O p r) := h
  have hci : (c : Int) < 32 := by omega
  have hsi : (s : Int) < 32 := by omega
  have habw : ab < w.heap.size := Blk.lt h.ask
  have hne : ¬ w.heap.size = ab := by omega
  have hlc := wf_label h.wf hc
  have HD := hide hd
  have HLC := hide hlc
  have HL := hide hl
  clear h hd hlc
  have E0 : makingF r.S O T n c s l p = makingF r.S O T n c s l p := rfl
  conv at E0 => rhs; unfold makingF
  dsimp only at E0
  by_cases hk : (r.S s).kind = 0
  · by_cases hli : lies r.S s = some c
    · rw [if_pos (c := (r.S s).kind = 0 ∧ lies r.S s = some c) ⟨hk, hli⟩] at E0
      have hoi : (oi (lies r.S s) == (c : Int)) = true := by rw [beq_iff_eq]; exact oi_eq.2 hli
      clear hli
      by_cases hs1 : sub (r.S c).label l = true
      · rw [if_pos hs1] at E0
        have HS := hide hs1
        clear hs1
        have EM := hide E0
        clear E0
        go_enter Try.func71, Try.ntmps71
        go_wp2_with fail
        have HB : Hid (Blk (w.alloc (.cells #[.int .i64 (r.S c).kind, .int .i64 (r.S c).label, .int .i64 (r.S c).id, .slice (r.S c).Wa (r.S c).Wn (r.S c).Wc, .int .i64 (r.S c).owns, .bool (r.S c).awake, .int .i64 (r.S c).A, .int .i64 (r.S c).B, .int .i64 (r.S c).G, .int .i64 (r.S c).H] 101)) w.heap.size _) := Blk.new w _ _
        have F0 := hide ((Fr.refl (fun k => k = ab) w).alloc (.cells #[.int .i64 (r.S c).kind, .int .i64 (r.S c).label, .int .i64 (r.S c).id, .slice (r.S c).Wa (r.S c).Wn (r.S c).Wc, .int .i64 (r.S c).owns, .bool (r.S c).awake, .int .i64 (r.S c).A, .int .i64 (r.S c).B, .int .i64 (r.S c).G, .int .i64 (r.S c).H] 101))
        refine (path_any n _ _ _ _ _ _ _ _ (H.out.fr ((Fr.refl _ _).alloc _)) hc HD.out).mono ?_
        rintro e w1 ⟨rfl, h1, g1⟩
        have B1 := hide (Blk.fr HB.out g1 hne)
        have G1 := hide (F0.out.trans g1)
        have H1 := hide h1
        clear h1 g1 F0 HB a0 a1 a2 a3 a4 f3 f4 c0 c1 c2 c3 c4 c5 c6 c7 c8 c9
        go_wp2_with fail
        refine (there_any _ _ _ _ _ _ _ _ H1.out hc).mono ?_
        rintro e w2 ⟨rfl, h2, g2⟩
        have B2 := hide (Blk.fr B1.out g2 hne)
        have G2 := hide (G1.out.trans g2)
        have H2 := hide h2
        have x1 : w2.cell? ⟨w.heap.size, 1, none⟩ = some (.int .i64 (r.S c).label) := by rw [Blk.cell B2.out]; rfl
        clear h2 g2 B1 G1 H1
        go_wp2_with fail
        refine (read_any _ _ _ _ _ _ _ _ H2.out HLC.out).mono ?_
        rintro e w3 ⟨rfl, h3, g3⟩
        have B3 := hide (Blk.fr B2.out g3 hne)
        have G3 := hide (G2.out.trans g3)
        have H3 := hide h3
        clear x1
        have x1 : w3.cell? ⟨w.heap.size, 1, none⟩ = some (.int .i64 (r.S c).label) := by rw [Blk.cell B3.out]; rfl
        clear h3 g3 B2 G2 H2
        go_wp2_with fail
        refine (write_any _ _ _ _ _ _ _ _ H3.out HLC.out).mono ?_
        rintro e w4 ⟨rfl, h4, g4⟩
        have B4 := hide (Blk.fr B3.out g4 hne)
        have G4 := hide (G3.out.trans g4)
        have H4 := hide h4
        clear h4 g4 B3 G3 H3 x1
        go_wp2_with fail
        refine (kind_any _ _ _ _ _ _ _ _ _ H4.out hc).mono ?_
        rintro e w5 ⟨rfl, h5, g5⟩
        have B5 := hide (Blk.fr B4.out g5 hne)
        have G5 := hide (G4.out.trans g5)
        obtain ⟨k0, -⟩ := h5.rk.things hs
        obtain ⟨d0, d1, -⟩ := h5.ask.cells
        have H5 := hide h5
        clear h5 g5 B4 G4 H4
        rw [hk] at k0
        go_wp2_with fail
        refine (lies_any _ _ _ _ H5.out.rk H5.out.wf).mono ?_
        rintro e w6 ⟨rfl, hb⟩
        have B6 := hide (Blk.below B5.out hb (Blk.lt B5.out))
        have G6 := hide (G5.out.trans (Fr.of_below hb))
        have H6 := hide (H5.out.fr (Fr.of_below hb))
        have x1 : w6.cell? ⟨w.heap.size, 1, none⟩ = some (.int .i64 (r.S c).label) := by rw [Blk.cell B6.out]; rfl
        clear hb B5 G5 H5 k0 d0 d1
        go_wp2_with fail
        have B7 := B6
        have G7 := G6
        have H7 := H6
        clear B6 G6 H6
        refine (in_any _ _ _ HLC.out HL.out).mono ?_
        rintro e w8 ⟨rfl, rfl⟩
        rw [HS.out]
        obtain ⟨z0, z1, -⟩ := H7.out.ask.cells
        clear x1
        go_wp2_with fail
        have G8 := G7
        have H8 := H7
        refine (check_any _ _ _ _ _ _ _ _ _ H8.out H8.out.hT HL.out).mono ?_
        rintro e wz ⟨rfl, hz, gz⟩
        go_wp2_with fail
        go_end0
        exact ⟨rfl, by rw [EM.out]; exact hz, G8.out.trans gz⟩
      · rw [if_neg hs1] at E0
        have hs2 : sub (r.S c).label l = false := by simpa using hs1
        have HS := hide hs2
        clear hs1 hs2
        have EM := hide E0
        clear E0
        go_enter Try.func71, Try.ntmps71
        go_wp2_with fail
        have HB : Hid (Blk (w.alloc (.cells #[.int .i64 (r.S c).kind, .int .i64 (r.S c).label, .int .i64 (r.S c).id, .slice (r.S c).Wa (r.S c).Wn (r.S c).Wc, .int .i64 (r.S c).owns, .bool (r.S c).awake, .int .i64 (r.S c).A, .int .i64 (r.S c).B, .int .i64 (r.S c).G, .int .i64 (r.S c).H] 101)) w.heap.size _) := Blk.new w _ _
        have F0 := hide ((Fr.refl (fun k => k = ab) w).alloc (.cells #[.int .i64 (r.S c).kind, .int .i64 (r.S c).label, .int .i64 (r.S c).id, .slice (r.S c).Wa (r.S c).Wn (r.S c).Wc, .int .i64 (r.S c).owns, .bool (r.S c).awake, .int .i64 (r.S c).A, .int .i64 (r.S c).B, .int .i64 (r.S c).G, .int .i64 (r.S c).H] 101))
        refine (path_any n _ _ _ _ _ _ _ _ (H.out.fr ((Fr.refl _ _).alloc _)) hc HD.out).mono ?_
        rintro e w1 ⟨rfl, h1, g1⟩
        have B1 := hide (Blk.fr HB.out g1 hne)
        have G1 := hide (F0.out.trans g1)
        have H1 := hide h1
        clear h1 g1 F0 HB a0 a1 a2 a3 a4 f3 f4 c0 c1 c2 c3 c4 c5 c6 c7 c8 c9
        go_wp2_with fail
        refine (there_any _ _ _ _ _ _ _ _ H1.out hc).mono ?_
        rintro e w2 ⟨rfl, h2, g2⟩
        have B2 := hide (Blk.fr B1.out g2 hne)
        have G2 := hide (G1.out.trans g2)
        have H2 := hide h2
        have x1 : w2.cell? ⟨w.heap.size, 1, none⟩ = some (.int .i64 (r.S c).label) := by rw [Blk.cell B2.out]; rfl
        clear h2 g2 B1 G1 H1
        go_wp2_with fail
        refine (read_any _ _ _ _ _ _ _ _ H2.out HLC.out).mono ?_
        rintro e w3 ⟨rfl, h3, g3⟩
        have B3 := hide (Blk.fr B2.out g3 hne)
        have G3 := hide (G2.out.trans g3)
        have H3 := hide h3
        clear x1
        have x1 : w3.cell? ⟨w.heap.size, 1, none⟩ = some (.int .i64 (r.S c).label) := by rw [Blk.cell B3.out]; rfl
        clear h3 g3 B2 G2 H2
        go_wp2_with fail
        refine (write_any _ _ _ _ _ _ _ _ H3.out HLC.out).mono ?_
        rintro e w4 ⟨rfl, h4, g4⟩
        have B4 := hide (Blk.fr B3.out g4 hne)
        have G4 := hide (G3.out.trans g4)
        have H4 := hide h4
        clear h4 g4 B3 G3 H3 x1
        go_wp2_with fail
        refine (kind_any _ _ _ _ _ _ _ _ _ H4.out hc).mono ?_
        rintro e w5 ⟨rfl, h5, g5⟩
        have B5 := hide (Blk.fr B4.out g5 hne)
        have G5 := hide (G4.out.trans g5)
        obtain ⟨k0, -⟩ := h5.rk.things hs
        obtain ⟨d0, d1, -⟩ := h5.ask.cells
        have H5 := hide h5
        clear h5 g5 B4 G4 H4
        rw [hk] at k0
        go_wp2_with fail
        refine (lies_any _ _ _ _ H5.out.rk H5.out.wf).mono ?_
        rintro e w6 ⟨rfl, hb⟩
        have B6 := hide (Blk.below B5.out hb (Blk.lt B5.out))
        have G6 := hide (G5.out.trans (Fr.of_below hb))
        have H6 := hide (H5.out.fr (Fr.of_below hb))
        have x1 : w6.cell? ⟨w.heap.size, 1, none⟩ = some (.int .i64 (r.S c).label) := by rw [Blk.cell B6.out]; rfl
        clear hb B5 G5 H5 k0 d0 d1
        go_wp2_with fail
        have B7 := B6
        have G7 := G6
        have H7 := H6
        clear B6 G6 H6
        refine (in_any _ _ _ HLC.out HL.out).mono ?_
        rintro e w8 ⟨rfl, rfl⟩
        rw [HS.out]
        clear x1
        go_wp2_with fail
        refine (fail_any _ _ _ _ _ _ _ 4 H7.out (by omega)).mono ?_
        rintro e w9 ⟨rfl, h9, g9⟩
        have G8 := hide (G7.out.trans g9)
        have H8 := hide h9
        obtain ⟨z0, z1, -⟩ := h9.ask.cells
        clear h9 g9
        go_wp2_with fail
        refine (check_any _ _ _ _ _ _ _ _ _ H8.out H8.out.hT HL.out).mono ?_
        rintro e wz ⟨rfl, hz, gz⟩
        go_wp2_with fail
        go_end0
        exact ⟨rfl, by rw [EM.out]; exact hz, G8.out.trans gz⟩
    · rw [if_neg (c := (r.S s).kind = 0 ∧ lies r.S s = some c) (fun h => hli h.2)] at E0
      have hoi : (oi (lies r.S s) == (c : Int)) = false := by rw [beq_eq_false_iff_ne]; exact fun h => hli (oi_eq.1 h)
      clear hli
      by_cases hs1 : sub (r.S c).label l = true
      · rw [if_pos hs1] at E0
        have HS := hide hs1
        clear hs1
        have EM := hide E0
        clear E0
        go_enter Try.func71, Try.ntmps71
        go_wp2_with fail
        have HB : Hid (Blk (w.alloc (.cells #[.int .i64 (r.S c).kind, .int .i64 (r.S c).label, .int .i64 (r.S c).id, .slice (r.S c).Wa (r.S c).Wn (r.S c).Wc, .int .i64 (r.S c).owns, .bool (r.S c).awake, .int .i64 (r.S c).A, .int .i64 (r.S c).B, .int .i64 (r.S c).G, .int .i64 (r.S c).H] 101)) w.heap.size _) := Blk.new w _ _
        have F0 := hide ((Fr.refl (fun k => k = ab) w).alloc (.cells #[.int .i64 (r.S c).kind, .int .i64 (r.S c).label, .int .i64 (r.S c).id, .slice (r.S c).Wa (r.S c).Wn (r.S c).Wc, .int .i64 (r.S c).owns, .bool (r.S c).awake, .int .i64 (r.S c).A, .int .i64 (r.S c).B, .int .i64 (r.S c).G, .int .i64 (r.S c).H] 101))
        refine (path_any n _ _ _ _ _ _ _ _ (H.out.fr ((Fr.refl _ _).alloc _)) hc HD.out).mono ?_
        rintro e w1 ⟨rfl, h1, g1⟩
        have B1 := hide (Blk.fr HB.out g1 hne)
        have G1 := hide (F0.out.trans g1)
        have H1 := hide h1
        clear h1 g1 F0 HB a0 a1 a2 a3 a4 f3 f4 c0 c1 c2 c3 c4 c5 c6 c7 c8 c9
        go_wp2_with fail
        refine (there_any _ _ _ _ _ _ _ _ H1.out hc).mono ?_
        rintro e w2 ⟨rfl, h2, g2⟩
        have B2 := hide (Blk.fr B1.out g2 hne)
        have G2 := hide (G1.out.trans g2)
        have H2 := hide h2
        have x1 : w2.cell? ⟨w.heap.size, 1, none⟩ = some (.int .i64 (r.S c).label) := by rw [Blk.cell B2.out]; rfl
        clear h2 g2 B1 G1 H1
        go_wp2_with fail
        refine (read_any _ _ _ _ _ _ _ _ H2.out HLC.out).mono ?_
        rintro e w3 ⟨rfl, h3, g3⟩
        have B3 := hide (Blk.fr B2.out g3 hne)
        have G3 := hide (G2.out.trans g3)
        have H3 := hide h3
        clear x1
        have x1 : w3.cell? ⟨w.heap.size, 1, none⟩ = some (.int .i64 (r.S c).label) := by rw [Blk.cell B3.out]; rfl
        clear h3 g3 B2 G2 H2
        go_wp2_with fail
        refine (write_any _ _ _ _ _ _ _ _ H3.out HLC.out).mono ?_
        rintro e w4 ⟨rfl, h4, g4⟩
        have B4 := hide (Blk.fr B3.out g4 hne)
        have G4 := hide (G3.out.trans g4)
        have H4 := hide h4
        clear h4 g4 B3 G3 H3 x1
        go_wp2_with fail
        refine (kind_any _ _ _ _ _ _ _ _ _ H4.out hc).mono ?_
        rintro e w5 ⟨rfl, h5, g5⟩
        have B5 := hide (Blk.fr B4.out g5 hne)
        have G5 := hide (G4.out.trans g5)
        obtain ⟨k0, -⟩ := h5.rk.things hs
        obtain ⟨d0, d1, -⟩ := h5.ask.cells
        have H5 := hide h5
        clear h5 g5 B4 G4 H4
        rw [hk] at k0
        go_wp2_with fail
        refine (lies_any _ _ _ _ H5.out.rk H5.out.wf).mono ?_
        rintro e w6 ⟨rfl, hb⟩
        have B6 := hide (Blk.below B5.out hb (Blk.lt B5.out))
        have G6 := hide (G5.out.trans (Fr.of_below hb))
        have H6 := hide (H5.out.fr (Fr.of_below hb))
        clear hb B5 G5 H5 k0 d0 d1
        go_wp2_with fail
        refine (fail_any _ _ _ _ _ _ _ 7 H6.out (by omega)).mono ?_
        rintro e w7 ⟨rfl, h7, g7⟩
        have B7 := hide (Blk.fr B6.out g7 hne)
        have G7 := hide (G6.out.trans g7)
        have H7 := hide h7
        have x1 : w7.cell? ⟨w.heap.size, 1, none⟩ = some (.int .i64 (r.S c).label) := by rw [Blk.cell B7.out]; rfl
        clear h7 g7 B6 G6 H6
        go_wp2_with fail
        refine (in_any _ _ _ HLC.out HL.out).mono ?_
        rintro e w8 ⟨rfl, rfl⟩
        rw [HS.out]
        obtain ⟨z0, z1, -⟩ := H7.out.ask.cells
        clear x1
        go_wp2_with fail
        have G8 := G7
        have H8 := H7
        refine (check_any _ _ _ _ _ _ _ _ _ H8.out H8.out.hT HL.out).mono ?_
        rintro e wz ⟨rfl, hz, gz⟩
        go_wp2_with fail
        go_end0
        exact ⟨rfl, by rw [EM.out]; exact hz, G8.out.trans gz⟩
      · rw [if_neg hs1] at E0
        have hs2 : sub (r.S c).label l = false := by simpa using hs1
        have HS := hide hs2
        clear hs1 hs2
        have EM := hide E0
        clear E0
        go_enter Try.func71, Try.ntmps71
        go_wp2_with fail
        have HB : Hid (Blk (w.alloc (.cells #[.int .i64 (r.S c).kind, .int .i64 (r.S c).label, .int .i64 (r.S c).id, .slice (r.S c).Wa (r.S c).Wn (r.S c).Wc, .int .i64 (r.S c).owns, .bool (r.S c).awake, .int .i64 (r.S c).A, .int .i64 (r.S c).B, .int .i64 (r.S c).G, .int .i64 (r.S c).H] 101)) w.heap.size _) := Blk.new w _ _
        have F0 := hide ((Fr.refl (fun k => k = ab) w).alloc (.cells #[.int .i64 (r.S c).kind, .int .i64 (r.S c).label, .int .i64 (r.S c).id, .slice (r.S c).Wa (r.S c).Wn (r.S c).Wc, .int .i64 (r.S c).owns, .bool (r.S c).awake, .int .i64 (r.S c).A, .int .i64 (r.S c).B, .int .i64 (r.S c).G, .int .i64 (r.S c).H] 101))
        refine (path_any n _ _ _ _ _ _ _ _ (H.out.fr ((Fr.refl _ _).alloc _)) hc HD.out).mono ?_
        rintro e w1 ⟨rfl, h1, g1⟩
        have B1 := hide (Blk.fr HB.out g1 hne)
        have G1 := hide (F0.out.trans g1)
        have H1 := hide h1
        clear h1 g1 F0 HB a0 a1 a2 a3 a4 f3 f4 c0 c1 c2 c3 c4 c5 c6 c7 c8 c9
        go_wp2_with fail
        refine (there_any _ _ _ _ _ _ _ _ H1.out hc).mono ?_
        rintro e w2 ⟨rfl, h2, g2⟩
        have B2 := hide (Blk.fr B1.out g2 hne)
        have G2 := hide (G1.out.trans g2)
        have H2 := hide h2
        have x1 : w2.cell? ⟨w.heap.size, 1, none⟩ = some (.int .i64 (r.S c).label) := by rw [Blk.cell B2.out]; rfl
        clear h2 g2 B1 G1 H1
        go_wp2_with fail
        refine (read_any _ _ _ _ _ _ _ _ H2.out HLC.out).mono ?_
        rintro e w3 ⟨rfl, h3, g3⟩
        have B3 := hide (Blk.fr B2.out g3 hne)
        have G3 := hide (G2.out.trans g3)
        have H3 := hide h3
        clear x1
        have x1 : w3.cell? ⟨w.heap.size, 1, none⟩ = some (.int .i64 (r.S c).label) := by rw [Blk.cell B3.out]; rfl
        clear h3 g3 B2 G2 H2
        go_wp2_with fail
        refine (write_any _ _ _ _ _ _ _ _ H3.out HLC.out).mono ?_
        rintro e w4 ⟨rfl, h4, g4⟩
        have B4 := hide (Blk.fr B3.out g4 hne)
        have G4 := hide (G3.out.trans g4)
        have H4 := hide h4
        clear h4 g4 B3 G3 H3 x1
        go_wp2_with fail
        refine (kind_any _ _ _ _ _ _ _ _ _ H4.out hc).mono ?_
        rintro e w5 ⟨rfl, h5, g5⟩
        have B5 := hide (Blk.fr B4.out g5 hne)
        have G5 := hide (G4.out.trans g5)
        obtain ⟨k0, -⟩ := h5.rk.things hs
        obtain ⟨d0, d1, -⟩ := h5.ask.cells
        have H5 := hide h5
        clear h5 g5 B4 G4 H4
        rw [hk] at k0
        go_wp2_with fail
        refine (lies_any _ _ _ _ H5.out.rk H5.out.wf).mono ?_
        rintro e w6 ⟨rfl, hb⟩
        have B6 := hide (Blk.below B5.out hb (Blk.lt B5.out))
        have G6 := hide (G5.out.trans (Fr.of_below hb))
        have H6 := hide (H5.out.fr (Fr.of_below hb))
        clear hb B5 G5 H5 k0 d0 d1
        go_wp2_with fail
        refine (fail_any _ _ _ _ _ _ _ 7 H6.out (by omega)).mono ?_
        rintro e w7 ⟨rfl, h7, g7⟩
        have B7 := hide (Blk.fr B6.out g7 hne)
        have G7 := hide (G6.out.trans g7)
        have H7 := hide h7
        have x1 : w7.cell? ⟨w.heap.size, 1, none⟩ = some (.int .i64 (r.S c).label) := by rw [Blk.cell B7.out]; rfl
        clear h7 g7 B6 G6 H6
        go_wp2_with fail
        refine (in_any _ _ _ HLC.out HL.out).mono ?_
        rintro e w8 ⟨rfl, rfl⟩
        rw [HS.out]
        clear x1
        go_wp2_with fail
        refine (fail_any _ _ _ _ _ _ _ 4 H7.out (by omega)).mono ?_
        rintro e w9 ⟨rfl, h9, g9⟩
        have G8 := hide (G7.out.trans g9)
        have H8 := hide h9
        obtain ⟨z0, z1, -⟩ := h9.ask.cells
        clear h9 g9
        go_wp2_with fail
        refine (check_any _ _ _ _ _ _ _ _ _ H8.out H8.out.hT HL.out).mono ?_
        rintro e wz ⟨rfl, hz, gz⟩
        go_wp2_with fail
        go_end0
        exact ⟨rfl, by rw [EM.out]; exact hz, G8.out.trans gz⟩
  · rw [if_neg (c := (r.S s).kind = 0 ∧ lies r.S s = some c) (fun h => hk h.1)] at E0
    have hkb : ((r.S s).kind == 0) = false := by simpa using hk
    by_cases hs1 : sub (r.S c).label l = true
    · rw [if_pos hs1] at E0
      have HS := hide hs1
      clear hs1
      have EM := hide E0
      clear E0
      go_enter Try.func71, Try.ntmps71
      go_wp2_with fail
      have HB : Hid (Blk (w.alloc (.cells #[.int .i64 (r.S c).kind, .int .i64 (r.S c).label, .int .i64 (r.S c).id, .slice (r.S c).Wa (r.S c).Wn (r.S c).Wc, .int .i64 (r.S c).owns, .bool (r.S c).awake, .int .i64 (r.S c).A, .int .i64 (r.S c).B, .int .i64 (r.S c).G, .int .i64 (r.S c).H] 101)) w.heap.size _) := Blk.new w _ _
      have F0 := hide ((Fr.refl (fun k => k = ab) w).alloc (.cells #[.int .i64 (r.S c).kind, .int .i64 (r.S c).label, .int .i64 (r.S c).id, .slice (r.S c).Wa (r.S c).Wn (r.S c).Wc, .int .i64 (r.S c).owns, .bool (r.S c).awake, .int .i64 (r.S c).A, .int .i64 (r.S c).B, .int .i64 (r.S c).G, .int .i64 (r.S c).H] 101))
      refine (path_any n _ _ _ _ _ _ _ _ (H.out.fr ((Fr.refl _ _).alloc _)) hc HD.out).mono ?_
      rintro e w1 ⟨rfl, h1, g1⟩
      have B1 := hide (Blk.fr HB.out g1 hne)
      have G1 := hide (F0.out.trans g1)
      have H1 := hide h1
      clear h1 g1 F0 HB a0 a1 a2 a3 a4 f3 f4 c0 c1 c2 c3 c4 c5 c6 c7 c8 c9
      go_wp2_with fail
      refine (there_any _ _ _ _ _ _ _ _ H1.out hc).mono ?_
      rintro e w2 ⟨rfl, h2, g2⟩
      have B2 := hide (Blk.fr B1.out g2 hne)
      have G2 := hide (G1.out.trans g2)
      have H2 := hide h2
      have x1 : w2.cell? ⟨w.heap.size, 1, none⟩ = some (.int .i64 (r.S c).label) := by rw [Blk.cell B2.out]; rfl
      clear h2 g2 B1 G1 H1
      go_wp2_with fail
      refine (read_any _ _ _ _ _ _ _ _ H2.out HLC.out).mono ?_
      rintro e w3 ⟨rfl, h3, g3⟩
      have B3 := hide (Blk.fr B2.out g3 hne)
      have G3 := hide (G2.out.trans g3)
      have H3 := hide h3
      clear x1
      have x1 : w3.cell? ⟨w.heap.size, 1, none⟩ = some (.int .i64 (r.S c).label) := by rw [Blk.cell B3.out]; rfl
      clear h3 g3 B2 G2 H2
      go_wp2_with fail
      refine (write_any _ _ _ _ _ _ _ _ H3.out HLC.out).mono ?_
      rintro e w4 ⟨rfl, h4, g4⟩
      have B4 := hide (Blk.fr B3.out g4 hne)
      have G4 := hide (G3.out.trans g4)
      have H4 := hide h4
      clear h4 g4 B3 G3 H3 x1
      go_wp2_with fail
      refine (kind_any _ _ _ _ _ _ _ _ _ H4.out hc).mono ?_
      rintro e w5 ⟨rfl, h5, g5⟩
      have B5 := hide (Blk.fr B4.out g5 hne)
      have G5 := hide (G4.out.trans g5)
      obtain ⟨k0, -⟩ := h5.rk.things hs
      obtain ⟨d0, d1, -⟩ := h5.ask.cells
      have H5 := hide h5
      clear h5 g5 B4 G4 H4
      go_wp2_with fail
      have B6 := B5
      have G6 := G5
      have H6 := H5
      clear B5 G5 H5 k0 d0 d1
      refine (fail_any _ _ _ _ _ _ _ 7 H6.out (by omega)).mono ?_
      rintro e w7 ⟨rfl, h7, g7⟩
      have B7 := hide (Blk.fr B6.out g7 hne)
      have G7 := hide (G6.out.trans g7)
      have H7 := hide h7
      have x1 : w7.cell? ⟨w.heap.size, 1, none⟩ = some (.int .i64 (r.S c).label) := by rw [Blk.cell B7.out]; rfl
      clear h7 g7 B6 G6 H6
      go_wp2_with fail
      refine (in_any _ _ _ HLC.out HL.out).mono ?_
      rintro e w8 ⟨rfl, rfl⟩
      rw [HS.out]
      obtain ⟨z0, z1, -⟩ := H7.out.ask.cells
      clear x1
      go_wp2_with fail
      have G8 := G7
      have H8 := H7
      refine (check_any _ _ _ _ _ _ _ _ _ H8.out H8.out.hT HL.out).mono ?_
      rintro e wz ⟨rfl, hz, gz⟩
      go_wp2_with fail
      go_end0
      exact ⟨rfl, by rw [EM.out]; exact hz, G8.out.trans gz⟩
    · rw [if_neg hs1] at E0
      have hs2 : sub (r.S c).label l = false := by simpa using hs1
      have HS := hide hs2
      clear hs1 hs2
      have EM := hide E0
      clear E0
      go_enter Try.func71, Try.ntmps71
      go_wp2_with fail
      have HB : Hid (Blk (w.alloc (.cells #[.int .i64 (r.S c).kind, .int .i64 (r.S c).label, .int .i64 (r.S c).id, .slice (r.S c).Wa (r.S c).Wn (r.S c).Wc, .int .i64 (r.S c).owns, .bool (r.S c).awake, .int .i64 (r.S c).A, .int .i64 (r.S c).B, .int .i64 (r.S c).G, .int .i64 (r.S c).H] 101)) w.heap.size _) := Blk.new w _ _
      have F0 := hide ((Fr.refl (fun k => k = ab) w).alloc (.cells #[.int .i64 (r.S c).kind, .int .i64 (r.S c).label, .int .i64 (r.S c).id, .slice (r.S c).Wa (r.S c).Wn (r.S c).Wc, .int .i64 (r.S c).owns, .bool (r.S c).awake, .int .i64 (r.S c).A, .int .i64 (r.S c).B, .int .i64 (r.S c).G, .int .i64 (r.S c).H] 101))
      refine (path_any n _ _ _ _ _ _ _ _ (H.out.fr ((Fr.refl _ _).alloc _)) hc HD.out).mono ?_
      rintro e w1 ⟨rfl, h1, g1⟩
      have B1 := hide (Blk.fr HB.out g1 hne)
      have G1 := hide (F0.out.trans g1)
      have H1 := hide h1
      clear h1 g1 F0 HB a0 a1 a2 a3 a4 f3 f4 c0 c1 c2 c3 c4 c5 c6 c7 c8 c9
      go_wp2_with fail
      refine (there_any _ _ _ _ _ _ _ _ H1.out hc).mono ?_
      rintro e w2 ⟨rfl, h2, g2⟩
      have B2 := hide (Blk.fr B1.out g2 hne)
      have G2 := hide (G1.out.trans g2)
      have H2 := hide h2
      have x1 : w2.cell? ⟨w.heap.size, 1, none⟩ = some (.int .i64 (r.S c).label) := by rw [Blk.cell B2.out]; rfl
      clear h2 g2 B1 G1 H1
      go_wp2_with fail
      refine (read_any _ _ _ _ _ _ _ _ H2.out HLC.out).mono ?_
      rintro e w3 ⟨rfl, h3, g3⟩
      have B3 := hide (Blk.fr B2.out g3 hne)
      have G3 := hide (G2.out.trans g3)
      have H3 := hide h3
      clear x1
      have x1 : w3.cell? ⟨w.heap.size, 1, none⟩ = some (.int .i64 (r.S c).label) := by rw [Blk.cell B3.out]; rfl
      clear h3 g3 B2 G2 H2
      go_wp2_with fail
      refine (write_any _ _ _ _ _ _ _ _ H3.out HLC.out).mono ?_
      rintro e w4 ⟨rfl, h4, g4⟩
      have B4 := hide (Blk.fr B3.out g4 hne)
      have G4 := hide (G3.out.trans g4)
      have H4 := hide h4
      clear h4 g4 B3 G3 H3 x1
      go_wp2_with fail
      refine (kind_any _ _ _ _ _ _ _ _ _ H4.out hc).mono ?_
      rintro e w5 ⟨rfl, h5, g5⟩
      have B5 := hide (Blk.fr B4.out g5 hne)
      have G5 := hide (G4.out.trans g5)
      obtain ⟨k0, -⟩ := h5.rk.things hs
      obtain ⟨d0, d1, -⟩ := h5.ask.cells
      have H5 := hide h5
      clear h5 g5 B4 G4 H4
      go_wp2_with fail
      have B6 := B5
      have G6 := G5
      have H6 := H5
      clear B5 G5 H5 k0 d0 d1
      refine (fail_any _ _ _ _ _ _ _ 7 H6.out (by omega)).mono ?_
      rintro e w7 ⟨rfl, h7, g7⟩
      have B7 := hide (Blk.fr B6.out g7 hne)
      have G7 := hide (G6.out.trans g7)
      have H7 := hide h7
      have x1 : w7.cell? ⟨w.heap.size, 1, none⟩ = some (.int .i64 (r.S c).label) := by rw [Blk.cell B7.out]; rfl
      clear h7 g7 B6 G6 H6
      go_wp2_with fail
      refine (in_any _ _ _ HLC.out HL.out).mono ?_
      rintro e w8 ⟨rfl, rfl⟩
      rw [HS.out]
      clear x1
      go_wp2_with fail
      refine (fail_any _ _ _ _ _ _ _ 4 H7.out (by omega)).mono ?_
      rintro e w9 ⟨rfl, h9, g9⟩
      have G8 := hide (G7.out.trans g9)
      have H8 := hide h9
      obtain ⟨z0, z1, -⟩ := h9.ask.cells
      clear h9 g9
      go_wp2_with fail
      refine (check_any _ _ _ _ _ _ _ _ _ H8.out H8.out.hT HL.out).mono ?_
      rintro e wz ⟨rfl, hz, gz⟩
      go_wp2_with fail
      go_end0
      exact ⟨rfl, by rw [EM.out]; exact hz, G8.out.trans gz⟩

end Go.Proofs.Ytflniddofmnkaaa
