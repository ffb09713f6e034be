/- What the reference's 'first' does where nothing is wrong: Read, Write. -/
import Derived.Test.YtflniddofmnkaaaRefFirst
open Go Go.Proofs Go.RowKit
namespace Go.Proofs.Ytflniddofmnkaaa

theorem frozen_same {w w' : World} {b : Nat} (e : w'.heap[b]? = w.heap[b]?) (n : Nat) : w'.frozen? ⟨b, n, none⟩ = w.frozen? ⟨b, n, none⟩ := by
  simp only [World.frozen?, e]

set_option maxHeartbeats 2000000 in
theorem first_read_yes (n : Nat) (w : World) (ab b T O me lb lo cap : Nat) (p : Nat × Int) (r : RSt) (s : Nat) (i : Nat) (h : AK w ab b T O p r) (hs : s < 32) (hd : deep r.S n s) (ha : Arg w lb lo [(s : Int), (i : Int)]) (hab : lb ≠ ab) (g : Nat) (x : Int) (hg : (r.S s).Wa = some ⟨g, 0, none⟩) (hn : (r.S s).Wn = 8) (hgab : g ≠ ab) (hgl : g < w.heap.size) (hx : w.cell? ⟨g, i, none⟩ = some (.int .i64 x)) (hi : i < 8) (hp : (readF r.S O T n s p).2 = 0) :
    Calls Try.prog 55 #[.pointer (some ⟨ab, 0, none⟩), .int .i64 5, .int .i64 me, .slice (some ⟨lb, lo, none⟩) 2 cap] w fun e' w' => e' = .returned (.int .i64 x) ∧
      AK w' ab b T O (readF r.S O T n s p) r ∧ Fr (fun k => k = ab) w w' := by
  have l0 := ha.c0
  have hsi : (s : Int) < 32 := by omega
  have H := hide h
  have HA := hide ha
  have HD := hide hd
  have HLS := hide (wf_label h.wf hs)
  clear h ha hd
  have hii : (i : Int) < 8 := by omega
  have HG := hide hg
  have HN := hide hn
  have HX := hide hx
  clear hg hn hx
  have HP := hide hp
  clear hp
  go_enter Try.func55, Try.ntmps55
  go_wp2_with fail
  refine (path_any n _ _ _ _ _ _ _ _ H.out hs HD.out).mono ?_
  rintro e w1 ⟨rfl, h1, g1⟩
  have H1 := hide h1
  have G1 := hide g1
  clear h1 g1 l0
  go_wp2_with fail
  refine (there_F _ _ _ _ _ _ _ _ H1.out hs).mono ?_
  rintro e w2 ⟨rfl, h2, g2⟩
  obtain ⟨a0, -⟩ := h2.ask.cells
  obtain ⟨-, k1, -⟩ := h2.rk.things hs
  have H2 := hide h2
  have G2 := hide (G1.out.trans g2)
  clear h2 g2
  go_wp2_with fail
  refine (read_any _ _ _ _ _ _ _ _ H2.out HLS.out).mono ?_
  rintro e w3 ⟨rfl, h3, g3⟩
  have H3 := hide h3
  have G3 := hide (G2.out.trans g3)
  clear h3 g3 a0 k1
  go_wp2_with fail
  refine (kind_F _ _ _ _ _ _ _ _ 3 H3.out hs).mono ?_
  rintro e w4 ⟨rfl, h4, g4⟩
  have H4 : Hid (AK w4 ab b T O (readF r.S O T n s p) r) := h4
  have G4 := hide (G3.out.trans g4)
  clear h4 g4
  obtain ⟨b0, b1, b2, b3, b4, -⟩ := H4.out.ask.cells
  rw [HP.out] at b4
  obtain ⟨-, -, -, q3, -⟩ := H4.out.rk.things hs
  rw [HG.out, HN.out] at q3
  have y0 := HX.out
  rw [← cell_same (G4.out.block g hgl hgab)] at y0
  have l1 := (HA.out.fr G4.out hab).c1
  have l0 := (HA.out.fr G4.out hab).c0
  go_wp2_with fail
  go_quiet (fail)
  go_wp2_with fail
  go_ret
  exact ⟨rfl, H4.out.fr ((Fr.refl _ _).drewN _), G4.out.drewN _⟩

set_option maxHeartbeats 2000000 in
theorem first_write_yes (n : Nat) (w : World) (ab b T O me lb lo cap : Nat) (p : Nat × Int) (r : RSt) (s : Nat) (i : Nat) (v : Int) (h : AK w ab b T O p r) (hs : s < 32) (hd : deep r.S n s) (ha : Arg w lb lo [(s : Int), (i : Int), v]) (hab : lb ≠ ab) (g : Nat) (x : Int) (hg : (r.S s).Wa = some ⟨g, 0, none⟩) (hn : (r.S s).Wn = 8) (hgab : g ≠ ab) (_hgb : g ≠ b) (hgl : g < w.heap.size) (hx : w.cell? ⟨g, i, none⟩ = some (.int .i64 x)) (hfz : w.frozen? ⟨g, i, none⟩ = false) (hi : i < 8) (hp : (writeF r.S O T n s p).2 = 0) :
    Calls Try.prog 55 #[.pointer (some ⟨ab, 0, none⟩), .int .i64 6, .int .i64 me, .slice (some ⟨lb, lo, none⟩) 3 cap] w fun e' w' => e' = .returned (.int .i64 0) ∧
      ∃ w4, AK w4 ab b T O (writeF r.S O T n s p) r ∧ Fr (fun k => k = ab) w w4 ∧ w' = (w4.setCell ⟨g, i, none⟩ (.int .i64 v)).drew := by
  have l0 := ha.c0
  have hsi : (s : Int) < 32 := by omega
  have H := hide h
  have HA := hide ha
  have HD := hide hd
  have HLS := hide (wf_label h.wf hs)
  clear h ha hd
  have hii : (i : Int) < 8 := by omega
  have HG := hide hg
  have HN := hide hn
  have HX := hide hx
  have HZ := hide hfz
  clear hg hn hx hfz
  have HP := hide hp
  clear hp
  go_enter Try.func55, Try.ntmps55
  go_wp2_with fail
  refine (path_any n _ _ _ _ _ _ _ _ H.out hs HD.out).mono ?_
  rintro e w1 ⟨rfl, h1, g1⟩
  have H1 := hide h1
  have G1 := hide g1
  clear h1 g1 l0
  go_wp2_with fail
  refine (there_F _ _ _ _ _ _ _ _ H1.out hs).mono ?_
  rintro e w2 ⟨rfl, h2, g2⟩
  obtain ⟨a0, -⟩ := h2.ask.cells
  obtain ⟨-, k1, -⟩ := h2.rk.things hs
  have H2 := hide h2
  have G2 := hide (G1.out.trans g2)
  clear h2 g2
  go_wp2_with fail
  refine (write_any _ _ _ _ _ _ _ _ H2.out HLS.out).mono ?_
  rintro e w3 ⟨rfl, h3, g3⟩
  have H3 := hide h3
  have G3 := hide (G2.out.trans g3)
  clear h3 g3 a0 k1
  go_wp2_with fail
  refine (kind_F _ _ _ _ _ _ _ _ 3 H3.out hs).mono ?_
  rintro e w4 ⟨rfl, h4, g4⟩
  have H4 : Hid (AK w4 ab b T O (writeF r.S O T n s p) r) := h4
  have G4 := hide (G3.out.trans g4)
  clear h4 g4
  obtain ⟨b0, b1, b2, b3, b4, -⟩ := H4.out.ask.cells
  rw [HP.out] at b4
  obtain ⟨-, -, -, q3, -⟩ := H4.out.rk.things hs
  rw [HG.out, HN.out] at q3
  have y0 := HX.out
  rw [← cell_same (G4.out.block g hgl hgab)] at y0
  have y1 := HZ.out
  rw [← frozen_same (G4.out.block g hgl hgab)] at y1
  have l1 := (HA.out.fr G4.out hab).c1
  have l0 := (HA.out.fr G4.out hab).c0
  have l2 := (HA.out.fr G4.out hab).c2
  go_wp2_with fail
  go_region
  go_wp2_with fail
  go_ret
  exact ⟨rfl, w4, H4.out, G4.out, rfl⟩

end Go.Proofs.Ytflniddofmnkaaa
