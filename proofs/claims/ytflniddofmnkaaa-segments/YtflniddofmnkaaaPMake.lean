/- What the program's 'mayMake' does. -/
import Derived.Test.YtflniddofmnkaaaPReach
open Go Go.Proofs Go.RowKit
namespace Go.Proofs.Ytflniddofmnkaaa

theorem failed_err {e : Int} {p : Nat × Int} (h : p.2 ≠ 0) : failed e p = p := by unfold failed; rw [if_neg h]
theorem failed_ok {e : Int} {p : Nat × Int} (h : p.2 = 0) : failed e p = (p.1, e) := by unfold failed; rw [if_pos h]

/-- The stages of making. -/
def mk2 (S : Nat → Th) (O T n c : Nat) (p : Nat × Int) : Nat × Int := chk O (S c).label T (findF S O T n c p)
def mk3 (S : Nat → Th) (O T n c : Nat) (p : Nat × Int) : Nat × Int := chk O T (S c).label (mk2 S O T n c p)
def mk4 (S : Nat → Th) (O T n c : Nat) (p : Nat × Int) : Nat × Int := kindF S c 1 (mk3 S O T n c p)
def mk5 (S : Nat → Th) (O T n c s : Nat) (p : Nat × Int) : Nat × Int := if (S s).kind = 0 ∧ lies S s = some c then mk4 S O T n c p else failed 7 (mk4 S O T n c p)
def mk6 (S : Nat → Th) (O T n c s l : Nat) (p : Nat × Int) : Nat × Int := if sub (S c).label l = true then mk5 S O T n c s p else failed 4 (mk5 S O T n c s p)
theorem making_mk6 (S : Nat → Th) (O T n c s l : Nat) (p : Nat × Int) : makingF S O T n c s l p = chk O T l (mk6 S O T n c s l p) := rfl

section
variable {S : Nat → Th} {O T n c s l : Nat} {p : Nat × Int}
theorem mk6_of (h : (mk5 S O T n c s p).2 ≠ 0) : makingF S O T n c s l p = mk5 S O T n c s p := by
  rw [making_mk6]
  have : mk6 S O T n c s l p = mk5 S O T n c s p := by unfold mk6; rw [failed_err h]; split <;> rfl
  rw [this, chk_err h]
theorem mk5_of (h : (mk4 S O T n c p).2 ≠ 0) : makingF S O T n c s l p = mk4 S O T n c p := by
  have e : mk5 S O T n c s p = mk4 S O T n c p := by unfold mk5; rw [failed_err h]; split <;> rfl
  rw [mk6_of (by rw [e]; exact h), e]
theorem mk4_of (h : (mk3 S O T n c p).2 ≠ 0) : makingF S O T n c s l p = mk3 S O T n c p := by
  have e : mk4 S O T n c p = mk3 S O T n c p := by unfold mk4 kindF; rw [failed_err h]; split <;> rfl
  rw [mk5_of (by rw [e]; exact h), e]
theorem mk3_of (h : (mk2 S O T n c p).2 ≠ 0) : makingF S O T n c s l p = mk2 S O T n c p := by
  have e : mk3 S O T n c p = mk2 S O T n c p := chk_err h
  rw [mk4_of (by rw [e]; exact h), e]
theorem mk2_of (h : (findF S O T n c p).2 ≠ 0) : makingF S O T n c s l p = findF S O T n c p := by
  have e : mk2 S O T n c p = findF S O T n c p := chk_err h
  rw [mk3_of (by rw [e]; exact h), e]
end

theorem pair_eq {p : Nat × Int} (h : p.2 = 0) : (p.1, (0 : Int)) = p := by rw [← h]

set_option maxRecDepth 100000 in
set_option maxHeartbeats 4000000 in
theorem mayMake_any {w : World} {rb kb : Nat} {S : Nat → Th} {ws : Nat → List Int} {lq : Nat → Option Nat} {ph : Nat} {ob : Nat → Nat} {qp : Nat → Option Nat} {me u : Nat} (h : QK w rb kb S ws lq ph ob qp me u) (n c s l : Nat) (hc : c < 32) (hs : s < 32) (hl : l < 256) (hd : deep S n c) :
    Calls Try.prog 61 #[.pointer (some ⟨rb, 0, none⟩), .int .i64 c, .int .i64 s, .int .i64 l] w fun e w' => e = .returned (.int .i64 (makingF S (S me).owns (S me).label n c s l (u, 0)).2) ∧ QK w' rb kb S ws lq ph ob qp me (makingF S (S me).owns (S me).label n c s l (u, 0)).1 ∧ Fr (fun k => k = rb) w w' := by
  have hsi : (s : Int) < 32 := by omega
  have H := hide h
  have HD := hide hd
  have HLc := hide (h.pk.wf c hc).2.2.2.2.1
  have HLm := hide h.label
  have HL := hide hl
  have han := i64_andNot (S c).label l HLc.out hl
  have HAN := hide han
  clear h hd hl han
  have E2 := hide (@mk2_of S (S me).owns (S me).label n c s l (u, 0))
  have E3 := hide (@mk3_of S (S me).owns (S me).label n c s l (u, 0))
  have E4 := hide (@mk4_of S (S me).owns (S me).label n c s l (u, 0))
  have E5 := hide (@mk5_of S (S me).owns (S me).label n c s l (u, 0))
  have E6 := hide (@mk6_of S (S me).owns (S me).label n c s l (u, 0))
  have EM := hide (making_mk6 S (S me).owns (S me).label n c s l (u, 0))
  have D2 : Hid (chk (S me).owns (S c).label (S me).label (findF S (S me).owns (S me).label n c (u, 0)) = mk2 S (S me).owns (S me).label n c (u, 0)) := rfl
  have D3 : Hid (chk (S me).owns (S me).label (S c).label (mk2 S (S me).owns (S me).label n c (u, 0)) = mk3 S (S me).owns (S me).label n c (u, 0)) := rfl
  have D4 : Hid (mk4 S (S me).owns (S me).label n c (u, 0) = kindF S c 1 (mk3 S (S me).owns (S me).label n c (u, 0))) := rfl
  have D5 : Hid (mk5 S (S me).owns (S me).label n c s (u, 0) = if (S s).kind = 0 ∧ lies S s = some c then mk4 S (S me).owns (S me).label n c (u, 0) else failed 7 (mk4 S (S me).owns (S me).label n c (u, 0))) := rfl
  have D6 : Hid (mk6 S (S me).owns (S me).label n c s l (u, 0) = if sub (S c).label l = true then mk5 S (S me).owns (S me).label n c s (u, 0) else failed 4 (mk5 S (S me).owns (S me).label n c s (u, 0))) := rfl
  generalize hpm : makingF S (S me).owns (S me).label n c s l (u, 0) = pm at *
  clear hpm
  have FA := hide (find_any H.out n c hc HD.out)
  generalize hp1 : findF S (S me).owns (S me).label n c (u, 0) = p1 at *
  clear hp1
  generalize mk2 S (S me).owns (S me).label n c (u, 0) = p2 at *
  generalize mk3 S (S me).owns (S me).label n c (u, 0) = p3 at *
  generalize mk4 S (S me).owns (S me).label n c (u, 0) = p4 at *
  generalize mk5 S (S me).owns (S me).label n c s (u, 0) = p5 at *
  generalize mk6 S (S me).owns (S me).label n c s l (u, 0) = p6 at *
  go_enter Try.func61, Try.ntmps61
  go_wp2_with fail
  refine FA.out.mono ?_
  rintro e w1 ⟨v, rfl, hv, h1, g1⟩
  have H1 := hide h1
  have G1 := hide g1
  have HV := hide hv
  clear h1 g1 hv
  by_cases e1 : p1.2 = 0
  rotate_left
  · go_wp2_with fail
    go_ret
    rw [E2.out e1]
    exact ⟨rfl, H1.out, G1.out⟩
  obtain ⟨hv, hkc⟩ := HV.out e1
  subst hv
  have HK := hide hkc
  have X1 := hide e1
  rw [e1]
  clear hkc e1 HV
  go_wp2_with fail
  have ha := mayRead_any H1.out c hc HK.out
  rw [pair_eq X1.out, D2.out] at ha
  refine ha.mono ?_
  clear ha
  rintro e w2 ⟨rfl, h2, g2⟩
  have H2 := hide h2
  have G2 := hide (G1.out.trans g2)
  clear h2 g2
  by_cases e2 : p2.2 = 0
  rotate_left
  · go_wp2_with fail
    go_ret
    rw [E3.out e2]
    exact ⟨rfl, H2.out, G2.out⟩
  have X2 := hide e2
  rw [e2]
  clear e2
  go_wp2_with fail
  have ha := mayWrite_any H2.out c hc HK.out
  rw [pair_eq X2.out, D3.out] at ha
  refine ha.mono ?_
  clear ha
  rintro e w3 ⟨rfl, h3, g3⟩
  have H3 := hide h3
  have G3 := hide (G2.out.trans g3)
  clear h3 g3
  by_cases e3 : p3.2 = 0
  rotate_left
  · go_wp2_with fail
    go_ret
    rw [E4.out e3]
    exact ⟨rfl, H3.out, G3.out⟩
  have X3 := hide e3
  rw [e3]
  clear e3
  rcases H3.out.pk.kinds c hc with ek | ek | ek | ek
  · exact absurd ek HK.out
  rotate_left
  · have ev : obV (S c) (ob c) = .iface 75 (.pointer (some ⟨ob c, 0, none⟩)) := by simp [obV, ek]
    have hta := fun w => ta_container_thread w (ob c)
    have E : Hid (p4 = (p3.1, 6)) := by unfold Hid; rw [D4.out]; unfold kindF; rw [if_neg (by omega), failed_ok X3.out]
    simp only [ev]
    clear ev ek
    go_wp2_with fail
    go_ret
    rw [E5.out (by rw [E.out]; simp), E.out]
    exact ⟨rfl, H3.out, G3.out⟩
  · have ev : obV (S c) (ob c) = .iface 136 (.pointer (some ⟨ob c, 0, none⟩)) := by simp [obV, ek]
    have hta := fun w => ta_container_segment w (ob c)
    have E : Hid (p4 = (p3.1, 6)) := by unfold Hid; rw [D4.out]; unfold kindF; rw [if_neg (by omega), failed_ok X3.out]
    simp only [ev]
    clear ev ek
    go_wp2_with fail
    go_ret
    rw [E5.out (by rw [E.out]; simp), E.out]
    exact ⟨rfl, H3.out, G3.out⟩
  have ev : obV (S c) (ob c) = .iface 116 (.pointer (some ⟨ob c, 0, none⟩)) := by simp [obV, ek]
  have hta := fun w => ta_container_container w (ob c)
  have E : Hid (p4 = p3) := by unfold Hid; rw [D4.out]; unfold kindF; rw [if_pos ek]
  simp only [ev]
  clear ev
  have EK := hide ek
  clear ek
  obtain ⟨c0, c1, -⟩ := H3.out.cells
  have s0 := H3.out.pk.slot hs
  rcases H3.out.pk.kinds s hs with es | es | es | es
  rotate_left
  · have evs : obV (S s) (ob s) = .iface 116 (.pointer (some ⟨ob s, 0, none⟩)) := by simp [obV, es]
    have hne := fun w => neq_nil_container w (ob s)
    have EE : Hid (p5 = (p3.1, 7)) := by unfold Hid; rw [D5.out, if_neg (by omega), E.out, failed_ok X3.out]
    rw [evs] at s0
    clear evs es
    go_wp2_with fail
    go_ret
    rw [E6.out (by rw [EE.out]; simp), EE.out]
    exact ⟨rfl, H3.out, G3.out⟩
  · have evs : obV (S s) (ob s) = .iface 75 (.pointer (some ⟨ob s, 0, none⟩)) := by simp [obV, es]
    have hne := fun w => neq_nil_thread w (ob s)
    have EE : Hid (p5 = (p3.1, 7)) := by unfold Hid; rw [D5.out, if_neg (by omega), E.out, failed_ok X3.out]
    rw [evs] at s0
    clear evs es
    go_wp2_with fail
    go_ret
    rw [E6.out (by rw [EE.out]; simp), EE.out]
    exact ⟨rfl, H3.out, G3.out⟩
  · have evs : obV (S s) (ob s) = .iface 136 (.pointer (some ⟨ob s, 0, none⟩)) := by simp [obV, es]
    have hne := fun w => neq_nil_segment w (ob s)
    have EE : Hid (p5 = (p3.1, 7)) := by unfold Hid; rw [D5.out, if_neg (by omega), E.out, failed_ok X3.out]
    rw [evs] at s0
    clear evs es
    go_wp2_with fail
    go_ret
    rw [E6.out (by rw [EE.out]; simp), EE.out]
    exact ⟨rfl, H3.out, G3.out⟩
  have evs : obV (S s) (ob s) = .nilIface := by simp [obV, es]
  rw [evs] at s0
  have ES := hide es
  clear evs es
  go_wp2_with fail
  refine (home_any H3.out.pk s).mono ?_
  rintro e w4 ⟨rfl, hb4⟩
  have H4 := hide (H3.out.below hb4)
  have G4 := hide (G3.out.trans (Fr.of_below hb4))
  clear hb4 c0 c1 s0
  by_cases hli : lies S s = some c
  rotate_left
  · have EE : Hid (p5 = (p3.1, 7)) := by unfold Hid; rw [D5.out, if_neg (fun h => hli h.2), E.out, failed_ok X3.out]
    rcases hls : lies S s with _ | d
    · have hcmp := neq_nil_ptr w4 (ob c)
      simp only [Option.map, ptrV]
      clear hli hls
      go_wp2_with fail
      go_ret
      rw [E6.out (by rw [EE.out]; simp), EE.out]
      exact ⟨rfl, H4.out, G4.out⟩
    · obtain ⟨hd32, hdk⟩ := lies_kind hls
      have hcmp := neq_ptr_other w4 (ob d) (ob c) _ _ (by
        intro eq
        have := H4.out.pk.inj d c hd32 hc (by omega) (by have := EK.out; omega) eq
        subst this
        exact hli hls) (H4.out.pk.obs d hd32 (by omega)) (H4.out.pk.obs c hc (by have := EK.out; omega))
      simp only [Option.map, ptrV]
      clear hli hls hdk
      go_wp2_with fail
      go_ret
      rw [E6.out (by rw [EE.out]; simp), EE.out]
      exact ⟨rfl, H4.out, G4.out⟩
  have EE : Hid (p5 = p3) := by unfold Hid; rw [D5.out, if_pos ⟨ES.out, hli⟩, E.out]
  rw [hli]
  simp only [Option.map, ptrV]
  clear hli
  have hcmp := neq_ptr_same w4 (ob c)
  obtain ⟨b0, b1, b2⟩ := H4.out.pk.base hc (by have := EK.out; omega)
  go_wp2_with fail
  refine (labelOf_any _ _ _ _).mono ?_
  rintro e w5 ⟨rfl, hb5⟩
  have H5 := hide (H4.out.below hb5)
  have G5 := hide (G4.out.trans (Fr.of_below hb5))
  clear hb5 b0 b1 b2 hcmp
  obtain ⟨c0, c1, -⟩ := H5.out.cells
  obtain ⟨d0, d1, d2⟩ := H5.out.pk.base H5.out.me32 (by have := H5.out.mek; omega)
  have han := HAN.out
  by_cases hsb : sub (S c).label l = true
  rotate_left
  · have EF : Hid (p6 = (p3.1, 4)) := by unfold Hid; rw [D6.out, if_neg hsb, EE.out, failed_ok X3.out]
    have hz : ¬ ((mis (S c).label l : Nat) : Int) = 0 := by have := mis_zero (S c).label l; intro h; exact hsb (this.1 (by omega))
    clear hsb
    go_wp2_with fail
    go_ret
    rw [EM.out, EF.out, chk_err (by simp)]
    exact ⟨rfl, H5.out, G5.out⟩
  have EF : Hid (p6 = p3) := by unfold Hid; rw [D6.out, if_pos hsb, EE.out]
  rw [(mis_zero _ _).2 hsb] at han
  clear hsb
  go_wp2_with fail
  refine (labelOf_any _ _ _ _).mono ?_
  rintro e w6 ⟨rfl, hb6⟩
  have H6 := hide (H5.out.below hb6)
  have G6 := hide (G5.out.trans (Fr.of_below hb6))
  clear hb6 c0 c1 d0 d1 d2 han
  go_wp2_with fail
  have ha := fits_any H6.out (S me).label l HLm.out HL.out
  rw [pair_eq X3.out, ← EF.out, ← EM.out] at ha
  refine ha.mono ?_
  clear ha
  rintro e w7 ⟨rfl, h7, g7⟩
  go_wp2_with fail
  go_ret
  exact ⟨rfl, h7, G6.out.trans g7⟩

end Go.Proofs.Ytflniddofmnkaaa
