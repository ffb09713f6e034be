/- What the reference's 'path' and 'making' do. -/
import Derived.Test.YtflniddofmnkaaaRefAsk
import Derived.Test.YtflniddofmnkaaaRefLies
open Go Go.Proofs Go.RowKit
namespace Go.Proofs.Ytflniddofmnkaaa

theorem wf_label {r : RSt} (h : r.wf) {i : Nat} (hi : i < 32) : (r.S i).label < 256 := (h i hi).2.2.2.2.1

set_option maxHeartbeats 400000 in
theorem path_any (n : Nat) : ∀ (w : World) (ab b T O : Nat) (p : Nat × Int) (r : RSt) (s : Nat), AK w ab b T O p r → s < 32 → deep r.S n s →
    Calls Try.prog 69 #[.pointer (some ⟨ab, 0, none⟩), .int .i64 s] w fun e' w' => e' = .returned (.tuple #[]) ∧ AK w' ab b T O (pathF r.S O T n s p) r ∧ Fr (fun k => k = ab) w w' := by
  induction n with
  | zero => intro w ab b T O p r s _ _ hd; exact hd.elim
  | succ n ih =>
    intro w ab b T O p r s h hs hd
    have IH := hide ih
    clear ih
    obtain ⟨c0, c1, c2, c3, c4, f3, f4⟩ := h.ask.cells
    have H : Hid (AK w ab b T O p r) := h
    have HD := hide hd
    clear h hd
    unfold pathF
    rcases hl : lies r.S s with _ | c
    · have HL := hide hl
      clear hl
      go_enter Try.func69, Try.ntmps69
      go_wp2_with fail
      refine (lies_any _ _ _ _ H.out.rk H.out.wf).mono ?_
      rintro e w1 ⟨rfl, hb⟩
      rw [HL.out, oi]
      go_wp2_with fail
      ((try simp only [Exit.inBlock, Exit.then]); refine bodyPost_ret (results_none rfl _ _ _) rfl ?_)
      exact ⟨rfl, H.out.fr (Fr.of_below hb), Fr.of_below hb⟩
    · have hc := lies_lt hl
      have hci : (c : Int) < 32 := by omega
      have hc0 : ¬ (c : Int) < 0 := by omega
      have HDc : Hid (deep r.S n c) := by have := HD.out; unfold deep at this; rw [hl] at this; exact this
      have HL := hide hl
      clear hl
      go_enter Try.func69, Try.ntmps69
      go_wp2_with fail
      refine (lies_any _ _ _ _ H.out.rk H.out.wf).mono ?_
      rintro e w1 ⟨rfl, hb⟩
      rw [HL.out, oi]
      have H1 := hide (H.out.fr (Fr.of_below hb))
      go_wp2_with fail
      refine (IH.out _ _ _ _ _ _ _ _ H1.out hc HDc.out).mono ?_
      rintro e w2 ⟨rfl, h2, g2⟩
      obtain ⟨d0, d1, d2, d3, d4, e3, e4⟩ := h2.ask.cells
      obtain ⟨-, k1, -⟩ := h2.rk.things hc
      have H2 := hide h2
      have G2 := hide g2
      have HB := hide hb
      clear h2 g2 hb c0 c1 c2 c3 c4 f3 f4
      go_wp2_with fail
      refine (read_any _ _ _ _ _ _ _ _ H2.out (wf_label H2.out.wf hc)).mono ?_
      rintro e w3 ⟨rfl, h3, g3⟩
      go_wp2_with fail
      go_end0
      exact ⟨rfl, h3, ((Fr.of_below HB.out).trans G2.out).trans g3⟩

end Go.Proofs.Ytflniddofmnkaaa
