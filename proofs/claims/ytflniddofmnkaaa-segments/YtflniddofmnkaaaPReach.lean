/- What the program's 'reach', 'enter' and 'find' do. -/
import Derived.Test.YtflniddofmnkaaaPMay
open Go Go.Proofs Go.RowKit
namespace Go.Proofs.Ytflniddofmnkaaa

theorem lies_kind {S : Nat → Th} {s : Int} {c : Nat} (h : lies S s = some c) : c < 32 ∧ (S c).kind = 1 := sk_at (k := 32) h (Nat.le_refl _)

theorem chk_err {O x y : Nat} {p : Nat × Int} (h : p.2 ≠ 0) : chk O x y p = p := by unfold chk; rw [if_pos h]

set_option maxHeartbeats 2000000 in
theorem reach_all (n : Nat) : ∀ (w : World) (rb kb : Nat) (S : Nat → Th) (ws : Nat → List Int) (lq : Nat → Option Nat) (ph : Nat) (ob : Nat → Nat) (qp : Nat → Option Nat) (me u : Nat) (_ : QK w rb kb S ws lq ph ob qp me u) (s : Nat) (_ : deep S n s),
    Calls Try.prog 59 #[.pointer (some ⟨rb, 0, none⟩), .int .i64 s] w fun e w' => e = .returned (.int .i64 (pathF S (S me).owns (S me).label n s (u, 0)).2) ∧ QK w' rb kb S ws lq ph ob qp me (pathF S (S me).owns (S me).label n s (u, 0)).1 ∧ Fr (fun k => k = rb) w w' := by
  induction n with
  | zero => intro w rb kb S ws lq ph ob qp me u _ s hd; exact hd.elim
  | succ n ih =>
    intro w rb kb S ws lq ph ob qp me u h s hd
    have IH := hide ih
    obtain ⟨c0, -⟩ := h.cells
    have H := hide h
    clear ih h
    rcases hl : lies S s with _ | c
    · have E1 : Hid (pathF S (S me).owns (S me).label (n + 1) s (u, 0) = (u, 0)) := by unfold Hid pathF; rw [hl]
      have HL := hide hl
      clear hl hd
      rw [E1.out]
      go_enter Try.func59, Try.ntmps59
      go_wp2_with fail
      refine (home_any H.out.pk s).mono ?_
      rintro e w1 ⟨rfl, hb⟩
      rw [HL.out]
      simp only [Option.map, ptrV]
      have HB := hide hb
      clear hb
      go_wp2_with fail
      refine Calls.mono (R := fun e w' => e = .returned (.int .i64 0) ∧ w' = w1) ?_ ?_
      · go_enter Try.func79, Try.ntmps79
        go_wp2_with fail
        go_ret
        exact ⟨rfl, rfl⟩
      · rintro e w2 ⟨rfl, rfl⟩
        go_wp2_with fail
        go_ret
        exact ⟨rfl, H.out.below HB.out, Fr.of_below HB.out⟩
    · obtain ⟨hc32, hck⟩ := lies_kind hl
      have HDc : Hid (deep S n c) := by unfold deep at hd; rw [hl] at hd; exact hd
      have E1 : Hid (pathF S (S me).owns (S me).label (n + 1) s (u, 0) = chk (S me).owns (S c).label (S me).label (pathF S (S me).owns (S me).label n c (u, 0))) := by unfold Hid; conv => lhs; unfold pathF; rw [hl]
      generalize hpp : pathF S (S me).owns (S me).label n c (u, 0) = pp at *
      have HPP := hide hpp
      clear hpp
      have HL := hide hl
      have HCK := hide hck
      clear hl hd hck
      rw [E1.out]
      go_enter Try.func59, Try.ntmps59
      go_wp2_with fail
      refine (home_any H.out.pk s).mono ?_
      rintro e w1 ⟨rfl, hb⟩
      rw [HL.out]
      simp only [Option.map, ptrV]
      have HB := hide hb
      have H1 := hide (H.out.below hb)
      clear hb c0
      go_wp2_with fail
      refine Calls.mono (R := fun e w' => e = .returned (.int .i64 (chk (S me).owns (S c).label (S me).label pp).2) ∧ QK w' rb kb S ws lq ph ob qp me (chk (S me).owns (S c).label (S me).label pp).1 ∧ Fr (fun k => k = rb) w1 w') ?_ ?_
      · obtain ⟨b0, b1, b2⟩ := H1.out.pk.base hc32 (by have := HCK.out; omega)
        go_enter Try.func79, Try.ntmps79
        go_wp2_with fail
        refine (place_any _ _ _ _).mono ?_
        rintro e w2 ⟨rfl, hb2⟩
        have H2 := hide (H1.out.below hb2)
        have HB2 := hide hb2
        clear hb2 b0 b1 b2
        go_wp2_with fail
        refine (IH.out _ _ _ _ _ _ _ _ _ _ _ H2.out c HDc.out).mono ?_
        rintro e w3 ⟨rfl, h3, g3⟩
        rw [HPP.out] at h3 ⊢
        have H3 := hide h3
        have G3 := hide ((Fr.of_below HB2.out).trans g3)
        clear h3 g3
        by_cases he : pp.2 = 0
        · have HE := hide he
          rw [he]
          clear he
          go_wp2_with fail
          have hm := mayRead_container H3.out c hc32 HCK.out
          have hp2 : (pp.1, (0 : Int)) = pp := by rw [← HE.out]
          rw [hp2] at hm
          refine hm.mono ?_
          rintro e w4 ⟨rfl, h4, g4⟩
          go_wp2_with fail
          go_ret
          exact ⟨rfl, h4, G3.out.trans g4⟩
        · have E2 := hide (chk_err (O := (S me).owns) (x := (S c).label) (y := (S me).label) he)
          go_wp2_with fail
          go_ret
          rw [E2.out]
          exact ⟨rfl, H3.out, G3.out⟩
      · rintro e w2 ⟨rfl, h2, g2⟩
        go_wp2_with fail
        go_ret
        exact ⟨rfl, h2, (Fr.of_below HB.out).trans g2⟩

theorem reach_any {w : World} {rb kb : Nat} {S : Nat → Th} {ws : Nat → List Int} {lq : Nat → Option Nat} {ph : Nat} {ob : Nat → Nat} {qp : Nat → Option Nat} {me u : Nat} (h : QK w rb kb S ws lq ph ob qp me u) (n s : Nat) (hd : deep S n s) :
    Calls Try.prog 59 #[.pointer (some ⟨rb, 0, none⟩), .int .i64 s] w fun e w' => e = .returned (.int .i64 (pathF S (S me).owns (S me).label n s (u, 0)).2) ∧ QK w' rb kb S ws lq ph ob qp me (pathF S (S me).owns (S me).label n s (u, 0)).1 ∧ Fr (fun k => k = rb) w w' :=
  reach_all n _ _ _ _ _ _ _ _ _ _ _ h s hd

theorem eql_nil_any {w : World} {kb : Nat} {S : Nat → Th} {ws : Nat → List Int} {lq : Nat → Option Nat} {ph : Nat} {ob : Nat → Nat} {qp : Nat → Option Nat} (h : PK w kb S ws lq ph ob qp) {s : Nat} (hs : s < 32) (hk : (S s).kind ≠ 0) (w : World) :
    (binOp .eql 73 (obV (S s) (ob s)) .nilIface).run Try.prog w = .ok (.bool false) w := by
  rcases h.kinds s hs with e | e | e | e
  · exact absurd e hk
  · have ev : obV (S s) (ob s) = .iface 116 (.pointer (some ⟨ob s, 0, none⟩)) := by simp [obV, e]
    rw [ev]; exact eql_nil_container w _
  · have ev : obV (S s) (ob s) = .iface 75 (.pointer (some ⟨ob s, 0, none⟩)) := by simp [obV, e]
    rw [ev]; exact eql_nil_thread w _
  · have ev : obV (S s) (ob s) = .iface 136 (.pointer (some ⟨ob s, 0, none⟩)) := by simp [obV, e]
    rw [ev]; exact eql_nil_segment w _

theorem neq_nil_any {w : World} {kb : Nat} {S : Nat → Th} {ws : Nat → List Int} {lq : Nat → Option Nat} {ph : Nat} {ob : Nat → Nat} {qp : Nat → Option Nat} (h : PK w kb S ws lq ph ob qp) {s : Nat} (hs : s < 32) (hk : (S s).kind ≠ 0) (w : World) :
    (binOp .neq 73 (obV (S s) (ob s)) .nilIface).run Try.prog w = .ok (.bool true) w := by
  rcases h.kinds s hs with e | e | e | e
  · exact absurd e hk
  · have ev : obV (S s) (ob s) = .iface 116 (.pointer (some ⟨ob s, 0, none⟩)) := by simp [obV, e]
    rw [ev]; exact neq_nil_container w _
  · have ev : obV (S s) (ob s) = .iface 75 (.pointer (some ⟨ob s, 0, none⟩)) := by simp [obV, e]
    rw [ev]; exact neq_nil_thread w _
  · have ev : obV (S s) (ob s) = .iface 136 (.pointer (some ⟨ob s, 0, none⟩)) := by simp [obV, e]
    rw [ev]; exact neq_nil_segment w _

/-- What 'find' comes to: path, then there. -/
def findF (S : Nat → Th) (O T n s : Nat) (p : Nat × Int) : Nat × Int := thereF S s (pathF S O T n s p)

set_option maxHeartbeats 1000000 in
theorem find_any {w : World} {rb kb : Nat} {S : Nat → Th} {ws : Nat → List Int} {lq : Nat → Option Nat} {ph : Nat} {ob : Nat → Nat} {qp : Nat → Option Nat} {me u : Nat} (h : QK w rb kb S ws lq ph ob qp me u) (n s : Nat) (hs : s < 32) (hd : deep S n s) :
    Calls Try.prog 60 #[.pointer (some ⟨rb, 0, none⟩), .int .i64 s] w fun e w' => ∃ v, e = .returned (.tuple #[v, .int .i64 (findF S (S me).owns (S me).label n s (u, 0)).2]) ∧ ((findF S (S me).owns (S me).label n s (u, 0)).2 = 0 → v = obV (S s) (ob s) ∧ (S s).kind ≠ 0) ∧
      QK w' rb kb S ws lq ph ob qp me (findF S (S me).owns (S me).label n s (u, 0)).1 ∧ Fr (fun k => k = rb) w w' := by
  have hsi : (s : Int) < 32 := by omega
  have H := hide h
  have HD := hide hd
  clear h hd
  unfold findF
  generalize hpp : pathF S (S me).owns (S me).label n s (u, 0) = pp at *
  have HPP := hide hpp
  clear hpp
  by_cases he : pp.2 = 0
  · by_cases hk : (S s).kind = 0
    · have E1 : Hid (thereF S s pp = (pp.1, 5)) := by unfold Hid thereF failed; rw [if_pos hk, if_pos he]
      have ev : obV (S s) (ob s) = .nilIface := by simp [obV, hk]
      rw [E1.out]
      have HE := hide he
      clear he hk
      go_enter Try.func60, Try.ntmps60
      go_wp2_with fail
      refine (reach_any H.out n s HD.out).mono ?_
      rintro e w1 ⟨rfl, h1, g1⟩
      rw [HPP.out] at h1 ⊢
      rw [HE.out]
      obtain ⟨c0, -⟩ := h1.cells
      have s0 := h1.pk.slot hs
      rw [ev] at s0
      have H1 := hide h1
      have G1 := hide g1
      clear h1 g1 ev
      go_wp2_with fail
      go_ret2
      exact ⟨_, rfl, by simp, H1.out, G1.out⟩
    · have E1 : Hid (thereF S s pp = pp) := by unfold Hid thereF; rw [if_neg hk]
      rw [E1.out]
      have HE := hide he
      have HKK := hide hk
      rcases H.out.pk.kinds s hs with e | e | e | e
      · exact absurd e hk
      · have ev : obV (S s) (ob s) = .iface 116 (.pointer (some ⟨ob s, 0, none⟩)) := by simp [obV, e]
        have hnil := fun w => eql_nil_container w (ob s)
        have HE2 := hide e
        clear he hk e
        go_enter Try.func60, Try.ntmps60
        go_wp2_with fail
        refine (reach_any H.out n s HD.out).mono ?_
        rintro e w1 ⟨rfl, h1, g1⟩
        rw [HPP.out] at h1 ⊢
        rw [HE.out]
        obtain ⟨c0, -⟩ := h1.cells
        have s0 := h1.pk.slot hs
        rw [ev] at s0
        have EV := hide ev
        have H1 := hide h1
        have G1 := hide g1
        clear h1 g1 ev
        go_wp2_with fail
        go_ret2
        exact ⟨.iface 116 (.pointer (some ⟨ob s, 0, none⟩)), by rw [HE.out]; rfl, fun _ => ⟨EV.out.symm, HKK.out⟩, H1.out, G1.out⟩
      · have ev : obV (S s) (ob s) = .iface 75 (.pointer (some ⟨ob s, 0, none⟩)) := by simp [obV, e]
        have hnil := fun w => eql_nil_thread w (ob s)
        have HE2 := hide e
        clear he hk e
        go_enter Try.func60, Try.ntmps60
        go_wp2_with fail
        refine (reach_any H.out n s HD.out).mono ?_
        rintro e w1 ⟨rfl, h1, g1⟩
        rw [HPP.out] at h1 ⊢
        rw [HE.out]
        obtain ⟨c0, -⟩ := h1.cells
        have s0 := h1.pk.slot hs
        rw [ev] at s0
        have EV := hide ev
        have H1 := hide h1
        have G1 := hide g1
        clear h1 g1 ev
        go_wp2_with fail
        go_ret2
        exact ⟨.iface 75 (.pointer (some ⟨ob s, 0, none⟩)), by rw [HE.out]; rfl, fun _ => ⟨EV.out.symm, HKK.out⟩, H1.out, G1.out⟩
      · have ev : obV (S s) (ob s) = .iface 136 (.pointer (some ⟨ob s, 0, none⟩)) := by simp [obV, e]
        have hnil := fun w => eql_nil_segment w (ob s)
        have HE2 := hide e
        clear he hk e
        go_enter Try.func60, Try.ntmps60
        go_wp2_with fail
        refine (reach_any H.out n s HD.out).mono ?_
        rintro e w1 ⟨rfl, h1, g1⟩
        rw [HPP.out] at h1 ⊢
        rw [HE.out]
        obtain ⟨c0, -⟩ := h1.cells
        have s0 := h1.pk.slot hs
        rw [ev] at s0
        have EV := hide ev
        have H1 := hide h1
        have G1 := hide g1
        clear h1 g1 ev
        go_wp2_with fail
        go_ret2
        exact ⟨.iface 136 (.pointer (some ⟨ob s, 0, none⟩)), by rw [HE.out]; rfl, fun _ => ⟨EV.out.symm, HKK.out⟩, H1.out, G1.out⟩
  · have E1 : Hid (thereF S s pp = pp) := by
      unfold Hid thereF failed
      by_cases hk : (S s).kind = 0
      · rw [if_pos hk, if_neg he]
      · rw [if_neg hk]
    rw [E1.out]
    go_enter Try.func60, Try.ntmps60
    go_wp2_with fail
    refine (reach_any H.out n s HD.out).mono ?_
    rintro e w1 ⟨rfl, h1, g1⟩
    rw [HPP.out] at h1 ⊢
    have H1 := hide h1
    have G1 := hide g1
    clear h1 g1
    go_wp2_with fail
    go_ret2
    exact ⟨_, rfl, fun h => absurd h he, H1.out, G1.out⟩

end Go.Proofs.Ytflniddofmnkaaa
