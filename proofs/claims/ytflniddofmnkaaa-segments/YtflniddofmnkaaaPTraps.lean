/- What the program's traps 1 to 6 do. -/
import Derived.Test.YtflniddofmnkaaaPMake
import Derived.Test.YtflniddofmnkaaaPStep
import Derived.Test.YtflniddofmnkaaaRefArgs
open Go Go.Proofs Go.RowKit
namespace Go.Proofs.Ytflniddofmnkaaa

theorem t_self {w : World} {rb kb : Nat} {S : Nat → Th} {ws : Nat → List Int} {lq : Nat → Option Nat} {ph : Nat} {ob : Nat → Nat} {qp : Nat → Option Nat} {me u : Nat} (h : QK w rb kb S ws lq ph ob qp me u) (v : Value) :
    Calls Try.prog 45 #[.pointer (some ⟨rb, 0, none⟩), v] w fun e w' => e = .returned (.tuple #[.int .i64 me, .int .i64 0]) ∧ QK w' rb kb S ws lq ph ob qp me u ∧ Fr (fun k => k = rb) w w' := by
  obtain ⟨c0, c1, -⟩ := h.cells
  obtain ⟨d0, d1, d2⟩ := h.pk.base h.me32 (by have := h.mek; omega)
  have H := hide h
  clear h
  go_enter Try.func45, Try.ntmps45
  go_wp2_with fail
  refine (place_any _ _ _ _).mono ?_
  rintro e w1 ⟨rfl, hb⟩
  go_wp2_with fail
  go_ret2
  exact ⟨rfl, H.out.below hb, Fr.of_below hb⟩

set_option maxHeartbeats 1000000 in
theorem t_kind {w : World} {rb kb : Nat} {S : Nat → Th} {ws : Nat → List Int} {lq : Nat → Option Nat} {ph : Nat} {ob : Nat → Nat} {qp : Nat → Option Nat} {me u : Nat} (h : QK w rb kb S ws lq ph ob qp me u) (n s lb lo cap : Nat) (hs : s < 32) (hd : deep S n s) (ha : Arg w lb lo [(s : Int)]) (hab : lb ≠ rb) :
    Calls Try.prog 46 #[.pointer (some ⟨rb, 0, none⟩), .slice (some ⟨lb, lo, none⟩) 1 cap] w fun e w' => e = .returned (.tuple #[.int .i64 (if (pathF S (S me).owns (S me).label n s (u, 0)).2 = 0 then (S s).kind else 0), .int .i64 (pathF S (S me).owns (S me).label n s (u, 0)).2]) ∧ QK w' rb kb S ws lq ph ob qp me (pathF S (S me).owns (S me).label n s (u, 0)).1 ∧ Fr (fun k => k = rb) w w' := by
  have hsi : (s : Int) < 32 := by omega
  have l0 := ha.c0
  have H := hide h
  have HA := hide ha
  have HD := hide hd
  clear h ha hd
  have RA := hide (reach_any H.out n s HD.out)
  generalize pathF S (S me).owns (S me).label n s (u, 0) = pp at *
  by_cases he : pp.2 = 0
  rotate_left
  · rw [if_neg he]
    go_enter Try.func46, Try.ntmps46
    go_wp2_with fail
    refine RA.out.mono ?_
    rintro e w1 ⟨rfl, h1, g1⟩
    go_wp2_with fail
    go_ret2
    exact ⟨rfl, h1, g1⟩
  rw [if_pos he]
  have HE := hide he
  clear he
  rcases H.out.pk.kinds s hs with e | e | e | e
  · have ev : obV (S s) (ob s) = .nilIface := by simp [obV, e]
    rw [e]
    clear e
    go_enter Try.func46, Try.ntmps46
    go_wp2_with fail
    refine RA.out.mono ?_
    rintro e w1 ⟨rfl, h1, g1⟩
    rw [HE.out]
    obtain ⟨c0, -⟩ := h1.cells
    have s0 := h1.pk.slot hs
    rw [ev] at s0
    have m0 := (HA.out.fr g1 hab).c0
    have H1 := hide h1
    have G1 := hide g1
    clear h1 g1 ev l0
    go_wp2_with fail
    go_quiet (fail)
    go_wp2_with fail
    go_ret2
    exact ⟨by rw [HE.out]; rfl, H1.out.fr ((Fr.refl _ _).drewN _), G1.out.drewN _⟩
  · have ev : obV (S s) (ob s) = .iface 116 (.pointer (some ⟨ob s, 0, none⟩)) := by simp [obV, e]
    have hnil := fun w => eql_nil_container w (ob s)
    have hne : (S s).kind ≠ 0 := by omega
    have HNE := hide hne
    clear e hne
    go_enter Try.func46, Try.ntmps46
    go_wp2_with fail
    refine RA.out.mono ?_
    rintro e w1 ⟨rfl, h1, g1⟩
    rw [HE.out]
    obtain ⟨c0, -⟩ := h1.cells
    have s0 := h1.pk.slot hs
    rw [ev] at s0
    have m0 := (HA.out.fr g1 hab).c0
    obtain ⟨b0, b1, b2⟩ := h1.pk.base hs HNE.out
    have H1 := hide h1
    have G1 := hide g1
    clear h1 g1 ev l0
    go_wp2_with fail
    go_quiet (fail)
    have hmm := method_kindOf_container (w1.drewN nq) (ob s) _ _ _ b0 b1 b2
    go_wp2_with fail
    refine (kindOf_any _ _ _ _).mono ?_
    rintro e w2 ⟨rfl, hb2⟩
    go_wp2_with fail
    go_ret2
    exact ⟨by rw [HE.out]; rfl, (H1.out.fr ((Fr.refl _ _).drewN nq)).below hb2, (G1.out.drewN nq).trans (Fr.of_below hb2)⟩
  · have ev : obV (S s) (ob s) = .iface 75 (.pointer (some ⟨ob s, 0, none⟩)) := by simp [obV, e]
    have hnil := fun w => eql_nil_thread w (ob s)
    have hne : (S s).kind ≠ 0 := by omega
    have HNE := hide hne
    clear e hne
    go_enter Try.func46, Try.ntmps46
    go_wp2_with fail
    refine RA.out.mono ?_
    rintro e w1 ⟨rfl, h1, g1⟩
    rw [HE.out]
    obtain ⟨c0, -⟩ := h1.cells
    have s0 := h1.pk.slot hs
    rw [ev] at s0
    have m0 := (HA.out.fr g1 hab).c0
    obtain ⟨b0, b1, b2⟩ := h1.pk.base hs HNE.out
    have H1 := hide h1
    have G1 := hide g1
    clear h1 g1 ev l0
    go_wp2_with fail
    go_quiet (fail)
    have hmm := method_kindOf_thread (w1.drewN nq) (ob s) _ _ _ b0 b1 b2
    go_wp2_with fail
    refine (kindOf_any _ _ _ _).mono ?_
    rintro e w2 ⟨rfl, hb2⟩
    go_wp2_with fail
    go_ret2
    exact ⟨by rw [HE.out]; rfl, (H1.out.fr ((Fr.refl _ _).drewN nq)).below hb2, (G1.out.drewN nq).trans (Fr.of_below hb2)⟩
  · have ev : obV (S s) (ob s) = .iface 136 (.pointer (some ⟨ob s, 0, none⟩)) := by simp [obV, e]
    have hnil := fun w => eql_nil_segment w (ob s)
    have hne : (S s).kind ≠ 0 := by omega
    have HNE := hide hne
    clear e hne
    go_enter Try.func46, Try.ntmps46
    go_wp2_with fail
    refine RA.out.mono ?_
    rintro e w1 ⟨rfl, h1, g1⟩
    rw [HE.out]
    obtain ⟨c0, -⟩ := h1.cells
    have s0 := h1.pk.slot hs
    rw [ev] at s0
    have m0 := (HA.out.fr g1 hab).c0
    obtain ⟨b0, b1, b2⟩ := h1.pk.base hs HNE.out
    have H1 := hide h1
    have G1 := hide g1
    clear h1 g1 ev l0
    go_wp2_with fail
    go_quiet (fail)
    have hmm := method_kindOf_segment (w1.drewN nq) (ob s) _ _ _ b0 b1 b2
    go_wp2_with fail
    refine (kindOf_any _ _ _ _).mono ?_
    rintro e w2 ⟨rfl, hb2⟩
    go_wp2_with fail
    go_ret2
    exact ⟨by rw [HE.out]; rfl, (H1.out.fr ((Fr.refl _ _).drewN nq)).below hb2, (G1.out.drewN nq).trans (Fr.of_below hb2)⟩

set_option maxHeartbeats 1000000 in
theorem t_label {w : World} {rb kb : Nat} {S : Nat → Th} {ws : Nat → List Int} {lq : Nat → Option Nat} {ph : Nat} {ob : Nat → Nat} {qp : Nat → Option Nat} {me u : Nat} (h : QK w rb kb S ws lq ph ob qp me u) (n s lb lo cap : Nat) (hs : s < 32) (hd : deep S n s) (ha : Arg w lb lo [(s : Int)]) :
    Calls Try.prog 47 #[.pointer (some ⟨rb, 0, none⟩), .slice (some ⟨lb, lo, none⟩) 1 cap] w fun e w' => e = .returned (.tuple #[.int .i64 (if (findF S (S me).owns (S me).label n s (u, 0)).2 = 0 then (S s).label else 0), .int .i64 (findF S (S me).owns (S me).label n s (u, 0)).2]) ∧ QK w' rb kb S ws lq ph ob qp me (findF S (S me).owns (S me).label n s (u, 0)).1 ∧ Fr (fun k => k = rb) w w' := by
  have hsi : (s : Int) < 32 := by omega
  have l0 := ha.c0
  have H := hide h
  have HA := hide ha
  have HD := hide hd
  clear h ha hd
  have RA := hide (find_any H.out n s hs HD.out)
  generalize findF S (S me).owns (S me).label n s (u, 0) = pp at *
  by_cases he : pp.2 = 0
  rotate_left
  · rw [if_neg he]
    go_enter Try.func47, Try.ntmps47
    go_wp2_with fail
    refine RA.out.mono ?_
    rintro e w1 ⟨v, rfl, -, h1, g1⟩
    go_wp2_with fail
    go_ret2
    exact ⟨rfl, h1, g1⟩
  rw [if_pos he]
  have HE := hide he
  clear he
  rcases H.out.pk.kinds s hs with e | e | e | e
  · go_enter Try.func47, Try.ntmps47
    go_wp2_with fail
    refine RA.out.mono ?_
    rintro e w1 ⟨v, rfl, hv, h1, g1⟩
    exact absurd ‹(S s).kind = 0› (hv HE.out).2
  · have ev : obV (S s) (ob s) = .iface 116 (.pointer (some ⟨ob s, 0, none⟩)) := by simp [obV, e]
    have EV := hide ev
    have hne : (S s).kind ≠ 0 := by omega
    have HNE := hide hne
    clear e hne ev
    go_enter Try.func47, Try.ntmps47
    go_wp2_with fail
    refine RA.out.mono ?_
    rintro e w1 ⟨v, rfl, hv, h1, g1⟩
    rw [HE.out, (hv HE.out).1, EV.out]
    obtain ⟨b0, b1, b2⟩ := h1.pk.base hs HNE.out
    have H1 := hide h1
    have G1 := hide g1
    have hmm := method_labelOf_container w1 (ob s) _ _ _ b0 b1 b2
    clear h1 g1 hv
    go_wp2_with fail
    refine (labelOf_any _ _ _ _).mono ?_
    rintro e w2 ⟨rfl, hb2⟩
    go_wp2_with fail
    go_ret2
    exact ⟨by rw [HE.out]; rfl, H1.out.below hb2, G1.out.trans (Fr.of_below hb2)⟩
  · have ev : obV (S s) (ob s) = .iface 75 (.pointer (some ⟨ob s, 0, none⟩)) := by simp [obV, e]
    have EV := hide ev
    have hne : (S s).kind ≠ 0 := by omega
    have HNE := hide hne
    clear e hne ev
    go_enter Try.func47, Try.ntmps47
    go_wp2_with fail
    refine RA.out.mono ?_
    rintro e w1 ⟨v, rfl, hv, h1, g1⟩
    rw [HE.out, (hv HE.out).1, EV.out]
    obtain ⟨b0, b1, b2⟩ := h1.pk.base hs HNE.out
    have H1 := hide h1
    have G1 := hide g1
    have hmm := method_labelOf_thread w1 (ob s) _ _ _ b0 b1 b2
    clear h1 g1 hv
    go_wp2_with fail
    refine (labelOf_any _ _ _ _).mono ?_
    rintro e w2 ⟨rfl, hb2⟩
    go_wp2_with fail
    go_ret2
    exact ⟨by rw [HE.out]; rfl, H1.out.below hb2, G1.out.trans (Fr.of_below hb2)⟩
  · have ev : obV (S s) (ob s) = .iface 136 (.pointer (some ⟨ob s, 0, none⟩)) := by simp [obV, e]
    have EV := hide ev
    have hne : (S s).kind ≠ 0 := by omega
    have HNE := hide hne
    clear e hne ev
    go_enter Try.func47, Try.ntmps47
    go_wp2_with fail
    refine RA.out.mono ?_
    rintro e w1 ⟨v, rfl, hv, h1, g1⟩
    rw [HE.out, (hv HE.out).1, EV.out]
    obtain ⟨b0, b1, b2⟩ := h1.pk.base hs HNE.out
    have H1 := hide h1
    have G1 := hide g1
    have hmm := method_labelOf_segment w1 (ob s) _ _ _ b0 b1 b2
    clear h1 g1 hv
    go_wp2_with fail
    refine (labelOf_any _ _ _ _).mono ?_
    rintro e w2 ⟨rfl, hb2⟩
    go_wp2_with fail
    go_ret2
    exact ⟨by rw [HE.out]; rfl, H1.out.below hb2, G1.out.trans (Fr.of_below hb2)⟩

end Go.Proofs.Ytflniddofmnkaaa
