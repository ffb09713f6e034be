/- What the program's traps 5 and 6 do: Read and Write. -/
import Derived.Test.YtflniddofmnkaaaPTraps
open Go Go.Proofs Go.RowKit
namespace Go.Proofs.Ytflniddofmnkaaa

/-- What Read and Write ask, from 'find' on. -/
def rdF (S : Nat → Th) (O T n s : Nat) (p : Nat × Int) : Nat × Int := kindF S s 3 (chk O (S s).label T (findF S O T n s p))
def wrF (S : Nat → Th) (O T n s : Nat) (p : Nat × Int) : Nat × Int := kindF S s 3 (chk O T (S s).label (findF S O T n s p))

set_option maxHeartbeats 2000000 in
theorem t_read_no {w : World} {rb kb : Nat} {S : Nat → Th} {ws : Nat → List Int} {lq : Nat → Option Nat} {ph : Nat} {ob : Nat → Nat} {qp : Nat → Option Nat} {me u : Nat} (h : QK w rb kb S ws lq ph ob qp me u) (n s i lb lo cap : Nat) (hs : s < 32) (hd : deep S n s) (ha : Arg w lb lo [(s : Int), (i : Int)]) (hp : (rdF S (S me).owns (S me).label n s (u, 0)).2 ≠ 0) :
    Calls Try.prog 49 #[.pointer (some ⟨rb, 0, none⟩), .slice (some ⟨lb, lo, none⟩) 2 cap] w fun e w' => e = .returned (.tuple #[.int .i64 0, .int .i64 (rdF S (S me).owns (S me).label n s (u, 0)).2]) ∧ QK w' rb kb S ws lq ph ob qp me (rdF S (S me).owns (S me).label n s (u, 0)).1 ∧ Fr (fun k => k = rb) w w' := by
  have hsi : (s : Int) < 32 := by omega
  have l0 := ha.c0
  have H := hide h
  have HA := hide ha
  have HD := hide hd
  have D : Hid (rdF S (S me).owns (S me).label n s (u, 0) = kindF S s 3 (chk (S me).owns (S s).label (S me).label (findF S (S me).owns (S me).label n s (u, 0)))) := rfl
  have RA := hide (find_any H.out n s hs HD.out)
  clear h ha hd
  generalize rdF S (S me).owns (S me).label n s (u, 0) = pr at *
  generalize findF S (S me).owns (S me).label n s (u, 0) = p1 at *
  have HP := hide hp
  clear hp
  go_enter Try.func49, Try.ntmps49
  go_wp2_with fail
  refine RA.out.mono ?_
  rintro e w1 ⟨vv, rfl, hv, h1, g1⟩
  have H1 := hide h1
  have G1 := hide g1
  have HV := hide hv
  clear h1 g1 hv
  by_cases e1 : p1.2 = 0
  rotate_left
  · have E : Hid (pr = p1) := by
      unfold Hid
      rw [D.out, chk_err e1]
      unfold kindF
      rw [failed_err e1]
      split <;> rfl
    go_wp2_with fail
    go_ret2
    rw [E.out]
    exact ⟨rfl, H1.out, G1.out⟩
  obtain ⟨hvv, hk⟩ := HV.out e1
  subst hvv
  have X1 := hide e1
  have HK := hide hk
  rw [e1]
  clear e1 hk HV
  go_wp2_with fail
  have ha := mayRead_any H1.out s hs HK.out
  rw [pair_eq X1.out] at ha
  generalize chk (S me).owns (S s).label (S me).label p1 = p2 at *
  refine ha.mono ?_
  clear ha
  rintro e w2 ⟨rfl, h2, g2⟩
  have H2 := hide h2
  have G2 := hide (G1.out.trans g2)
  clear h2 g2
  by_cases e2 : p2.2 = 0
  rotate_left
  · have E : Hid (pr = p2) := by
      unfold Hid
      rw [D.out]
      unfold kindF
      rw [failed_err e2]
      split <;> rfl
    go_wp2_with fail
    go_ret2
    rw [E.out]
    exact ⟨rfl, H2.out, G2.out⟩
  rw [e2]
  rcases H2.out.pk.kinds s hs with ek | ek | ek | ek
  · exact absurd ek HK.out
  · have ev : obV (S s) (ob s) = .iface 116 (.pointer (some ⟨ob s, 0, none⟩)) := by simp [obV, ek]
    have hta := fun w => ta_segment_container w (ob s)
    have E : Hid (pr = (p2.1, 6)) := by unfold Hid; rw [D.out]; unfold kindF; rw [if_neg (by omega), failed_ok e2]
    simp only [ev]
    clear ev ek e2
    go_wp2_with fail
    go_ret2
    rw [E.out]
    exact ⟨rfl, H2.out, G2.out⟩
  · have ev : obV (S s) (ob s) = .iface 75 (.pointer (some ⟨ob s, 0, none⟩)) := by simp [obV, ek]
    have hta := fun w => ta_segment_thread w (ob s)
    have E : Hid (pr = (p2.1, 6)) := by unfold Hid; rw [D.out]; unfold kindF; rw [if_neg (by omega), failed_ok e2]
    simp only [ev]
    clear ev ek e2
    go_wp2_with fail
    go_ret2
    rw [E.out]
    exact ⟨rfl, H2.out, G2.out⟩
  · exfalso
    apply HP.out
    rw [D.out]
    unfold kindF
    rw [if_pos ek, e2]

set_option maxHeartbeats 2000000 in
theorem t_read_yes {w : World} {rb kb : Nat} {S : Nat → Th} {ws : Nat → List Int} {lq : Nat → Option Nat} {ph : Nat} {ob : Nat → Nat} {qp : Nat → Option Nat} {me u : Nat} (h : QK w rb kb S ws lq ph ob qp me u) (n s i lb lo cap : Nat) (hs : s < 32) (hd : deep S n s) (ha : Arg w lb lo [(s : Int), (i : Int)]) (hab : lb ≠ rb) (x : Int) (hx : (ws s)[i]? = some x) (hi : i < 8) (hp : (rdF S (S me).owns (S me).label n s (u, 0)).2 = 0) :
    Calls Try.prog 49 #[.pointer (some ⟨rb, 0, none⟩), .slice (some ⟨lb, lo, none⟩) 2 cap] w fun e w' => e = .returned (.tuple #[.int .i64 x, .int .i64 0]) ∧ QK w' rb kb S ws lq ph ob qp me (rdF S (S me).owns (S me).label n s (u, 0)).1 ∧ Fr (fun k => k = rb) w w' := by
  have hsi : (s : Int) < 32 := by omega
  have l0 := ha.c0
  have H := hide h
  have HA := hide ha
  have HD := hide hd
  have D : Hid (rdF S (S me).owns (S me).label n s (u, 0) = kindF S s 3 (chk (S me).owns (S s).label (S me).label (findF S (S me).owns (S me).label n s (u, 0)))) := rfl
  have RA := hide (find_any H.out n s hs HD.out)
  clear h ha hd
  have hii : (i : Int) < 8 := by omega
  have hchk : (kindF S s 3 (chk (S me).owns (S s).label (S me).label (findF S (S me).owns (S me).label n s (u, 0)))).2 = 0 := hp
  have h1z : (findF S (S me).owns (S me).label n s (u, 0)).2 = 0 := by
    by_cases e : (findF S (S me).owns (S me).label n s (u, 0)).2 = 0
    · exact e
    · rw [chk_err e] at hchk
      unfold kindF at hchk
      rw [failed_err e] at hchk
      split at hchk <;> exact absurd hchk e
  have h2z : (chk (S me).owns (S s).label (S me).label (findF S (S me).owns (S me).label n s (u, 0))).2 = 0 := by
    by_cases e : (chk (S me).owns (S s).label (S me).label (findF S (S me).owns (S me).label n s (u, 0))).2 = 0
    · exact e
    · unfold kindF at hchk
      rw [failed_err e] at hchk
      split at hchk <;> exact absurd hchk e
  have hk3 : (S s).kind = 3 := by
    by_cases e : (S s).kind = 3
    · exact e
    · unfold kindF at hchk
      rw [if_neg e, failed_ok h2z] at hchk
      simp at hchk
  have hpr : rdF S (S me).owns (S me).label n s (u, 0) = chk (S me).owns (S s).label (S me).label (findF S (S me).owns (S me).label n s (u, 0)) := by rw [D.out]; unfold kindF; rw [if_pos hk3]
  rw [hpr]
  clear hpr hchk hp D
  have X1 := hide h1z
  have X2 := hide h2z
  have HK3 := hide hk3
  have HX := hide hx
  clear h1z h2z hk3 hx
  have hne : (S s).kind ≠ 0 := by have := HK3.out; omega
  have HNE := hide hne
  clear hne
  have ev : obV (S s) (ob s) = .iface 136 (.pointer (some ⟨ob s, 0, none⟩)) := by simp [obV, HK3.out]
  have EV := hide ev
  clear ev
  have hta := fun w => ta_segment_segment w (ob s)
  generalize findF S (S me).owns (S me).label n s (u, 0) = p1 at *
  generalize hp2 : chk (S me).owns (S s).label (S me).label p1 = p2 at *
  have HP2 := hide hp2
  clear hp2
  go_enter Try.func49, Try.ntmps49
  go_wp2_with fail
  refine RA.out.mono ?_
  rintro e w1 ⟨vv, rfl, hv, h1, g1⟩
  obtain ⟨hvv, -⟩ := hv X1.out
  subst hvv
  rw [X1.out]
  have H1 := hide h1
  have G1 := hide g1
  clear h1 g1 hv
  go_wp2_with fail
  have ha := mayRead_any H1.out s hs HNE.out
  rw [pair_eq X1.out, HP2.out] at ha
  refine ha.mono ?_
  clear ha
  rintro e w2 ⟨rfl, h2, g2⟩
  rw [X2.out]
  have H2 := hide h2
  have G2 := hide (G1.out.trans g2)
  clear h2 g2
  simp only [EV.out]
  have q0 := H2.out.pk.word hs HK3.out HX.out
  have m0 := (HA.out.fr G2.out hab).c0
  have m1 := (HA.out.fr G2.out hab).c1
  clear l0
  go_wp2_with fail
  go_quiet (fail)
  go_wp2_with fail
  go_ret2
  exact ⟨rfl, H2.out.fr ((Fr.refl _ _).drewN _), G2.out.drewN _⟩

set_option maxHeartbeats 2000000 in
theorem t_write_no {w : World} {rb kb : Nat} {S : Nat → Th} {ws : Nat → List Int} {lq : Nat → Option Nat} {ph : Nat} {ob : Nat → Nat} {qp : Nat → Option Nat} {me u : Nat} (h : QK w rb kb S ws lq ph ob qp me u) (n s i lb lo cap : Nat) (v : Int) (hs : s < 32) (hd : deep S n s) (ha : Arg w lb lo [(s : Int), (i : Int), v]) (hp : (wrF S (S me).owns (S me).label n s (u, 0)).2 ≠ 0) :
    Calls Try.prog 50 #[.pointer (some ⟨rb, 0, none⟩), .slice (some ⟨lb, lo, none⟩) 3 cap] w fun e w' => e = .returned (.tuple #[.int .i64 0, .int .i64 (wrF S (S me).owns (S me).label n s (u, 0)).2]) ∧ QK w' rb kb S ws lq ph ob qp me (wrF S (S me).owns (S me).label n s (u, 0)).1 ∧ Fr (fun k => k = rb) w w' := by
  have hsi : (s : Int) < 32 := by omega
  have l0 := ha.c0
  have H := hide h
  have HA := hide ha
  have HD := hide hd
  have D : Hid (wrF S (S me).owns (S me).label n s (u, 0) = kindF S s 3 (chk (S me).owns (S me).label (S s).label (findF S (S me).owns (S me).label n s (u, 0)))) := rfl
  have RA := hide (find_any H.out n s hs HD.out)
  clear h ha hd
  generalize wrF S (S me).owns (S me).label n s (u, 0) = pr at *
  generalize findF S (S me).owns (S me).label n s (u, 0) = p1 at *
  have HP := hide hp
  clear hp
  go_enter Try.func50, Try.ntmps50
  go_wp2_with fail
  refine RA.out.mono ?_
  rintro e w1 ⟨vv, rfl, hv, h1, g1⟩
  have H1 := hide h1
  have G1 := hide g1
  have HV := hide hv
  clear h1 g1 hv
  by_cases e1 : p1.2 = 0
  rotate_left
  · have E : Hid (pr = p1) := by
      unfold Hid
      rw [D.out, chk_err e1]
      unfold kindF
      rw [failed_err e1]
      split <;> rfl
    go_wp2_with fail
    go_ret2
    rw [E.out]
    exact ⟨rfl, H1.out, G1.out⟩
  obtain ⟨hvv, hk⟩ := HV.out e1
  subst hvv
  have X1 := hide e1
  have HK := hide hk
  rw [e1]
  clear e1 hk HV
  go_wp2_with fail
  have ha := mayWrite_any H1.out s hs HK.out
  rw [pair_eq X1.out] at ha
  generalize chk (S me).owns (S me).label (S s).label p1 = p2 at *
  refine ha.mono ?_
  clear ha
  rintro e w2 ⟨rfl, h2, g2⟩
  have H2 := hide h2
  have G2 := hide (G1.out.trans g2)
  clear h2 g2
  by_cases e2 : p2.2 = 0
  rotate_left
  · have E : Hid (pr = p2) := by
      unfold Hid
      rw [D.out]
      unfold kindF
      rw [failed_err e2]
      split <;> rfl
    go_wp2_with fail
    go_ret2
    rw [E.out]
    exact ⟨rfl, H2.out, G2.out⟩
  rw [e2]
  rcases H2.out.pk.kinds s hs with ek | ek | ek | ek
  · exact absurd ek HK.out
  · have ev : obV (S s) (ob s) = .iface 116 (.pointer (some ⟨ob s, 0, none⟩)) := by simp [obV, ek]
    have hta := fun w => ta_segment_container w (ob s)
    have E : Hid (pr = (p2.1, 6)) := by unfold Hid; rw [D.out]; unfold kindF; rw [if_neg (by omega), failed_ok e2]
    simp only [ev]
    clear ev ek e2
    go_wp2_with fail
    go_ret2
    rw [E.out]
    exact ⟨rfl, H2.out, G2.out⟩
  · have ev : obV (S s) (ob s) = .iface 75 (.pointer (some ⟨ob s, 0, none⟩)) := by simp [obV, ek]
    have hta := fun w => ta_segment_thread w (ob s)
    have E : Hid (pr = (p2.1, 6)) := by unfold Hid; rw [D.out]; unfold kindF; rw [if_neg (by omega), failed_ok e2]
    simp only [ev]
    clear ev ek e2
    go_wp2_with fail
    go_ret2
    rw [E.out]
    exact ⟨rfl, H2.out, G2.out⟩
  · exfalso
    apply HP.out
    rw [D.out]
    unfold kindF
    rw [if_pos ek, e2]

set_option maxHeartbeats 2000000 in
theorem t_write_yes {w : World} {rb kb : Nat} {S : Nat → Th} {ws : Nat → List Int} {lq : Nat → Option Nat} {ph : Nat} {ob : Nat → Nat} {qp : Nat → Option Nat} {me u : Nat} (h : QK w rb kb S ws lq ph ob qp me u) (n s i lb lo cap : Nat) (v : Int) (hs : s < 32) (hd : deep S n s) (ha : Arg w lb lo [(s : Int), (i : Int), v]) (hab : lb ≠ rb) (x : Int) (hx : (ws s)[i]? = some x) (hi : i < 8) (hp : (wrF S (S me).owns (S me).label n s (u, 0)).2 = 0) :
    Calls Try.prog 50 #[.pointer (some ⟨rb, 0, none⟩), .slice (some ⟨lb, lo, none⟩) 3 cap] w fun e w' => e = .returned (.tuple #[.int .i64 0, .int .i64 0]) ∧ ∃ w4, QK w4 rb kb S ws lq ph ob qp me (wrF S (S me).owns (S me).label n s (u, 0)).1 ∧ Fr (fun k => k = rb) w w4 ∧ w' = (w4.setCell ⟨ob s, 3 + i, none⟩ (.int .i64 v)).drew := by
  have hsi : (s : Int) < 32 := by omega
  have l0 := ha.c0
  have H := hide h
  have HA := hide ha
  have HD := hide hd
  have D : Hid (wrF S (S me).owns (S me).label n s (u, 0) = kindF S s 3 (chk (S me).owns (S me).label (S s).label (findF S (S me).owns (S me).label n s (u, 0)))) := rfl
  have RA := hide (find_any H.out n s hs HD.out)
  clear h ha hd
  have hii : (i : Int) < 8 := by omega
  have hchk : (kindF S s 3 (chk (S me).owns (S me).label (S s).label (findF S (S me).owns (S me).label n s (u, 0)))).2 = 0 := hp
  have h1z : (findF S (S me).owns (S me).label n s (u, 0)).2 = 0 := by
    by_cases e : (findF S (S me).owns (S me).label n s (u, 0)).2 = 0
    · exact e
    · rw [chk_err e] at hchk
      unfold kindF at hchk
      rw [failed_err e] at hchk
      split at hchk <;> exact absurd hchk e
  have h2z : (chk (S me).owns (S me).label (S s).label (findF S (S me).owns (S me).label n s (u, 0))).2 = 0 := by
    by_cases e : (chk (S me).owns (S me).label (S s).label (findF S (S me).owns (S me).label n s (u, 0))).2 = 0
    · exact e
    · unfold kindF at hchk
      rw [failed_err e] at hchk
      split at hchk <;> exact absurd hchk e
  have hk3 : (S s).kind = 3 := by
    by_cases e : (S s).kind = 3
    · exact e
    · unfold kindF at hchk
      rw [if_neg e, failed_ok h2z] at hchk
      simp at hchk
  have hpr : wrF S (S me).owns (S me).label n s (u, 0) = chk (S me).owns (S me).label (S s).label (findF S (S me).owns (S me).label n s (u, 0)) := by rw [D.out]; unfold kindF; rw [if_pos hk3]
  rw [hpr]
  clear hpr hchk hp D
  have X1 := hide h1z
  have X2 := hide h2z
  have HK3 := hide hk3
  have HX := hide hx
  clear h1z h2z hk3 hx
  have hne : (S s).kind ≠ 0 := by have := HK3.out; omega
  have HNE := hide hne
  clear hne
  have ev : obV (S s) (ob s) = .iface 136 (.pointer (some ⟨ob s, 0, none⟩)) := by simp [obV, HK3.out]
  have EV := hide ev
  clear ev
  have hta := fun w => ta_segment_segment w (ob s)
  generalize findF S (S me).owns (S me).label n s (u, 0) = p1 at *
  generalize hp2 : chk (S me).owns (S me).label (S s).label p1 = p2 at *
  have HP2 := hide hp2
  clear hp2
  go_enter Try.func50, Try.ntmps50
  go_wp2_with fail
  refine RA.out.mono ?_
  rintro e w1 ⟨vv, rfl, hv, h1, g1⟩
  obtain ⟨hvv, -⟩ := hv X1.out
  subst hvv
  rw [X1.out]
  have H1 := hide h1
  have G1 := hide g1
  clear h1 g1 hv
  go_wp2_with fail
  have ha := mayWrite_any H1.out s hs HNE.out
  rw [pair_eq X1.out, HP2.out] at ha
  refine ha.mono ?_
  clear ha
  rintro e w2 ⟨rfl, h2, g2⟩
  rw [X2.out]
  have H2 := hide h2
  have G2 := hide (G1.out.trans g2)
  clear h2 g2
  simp only [EV.out]
  have q0 := H2.out.pk.word hs HK3.out HX.out
  have m0 := (HA.out.fr G2.out hab).c0
  have m1 := (HA.out.fr G2.out hab).c1
  have m2 := (HA.out.fr G2.out hab).c2
  have fz := (H2.out.pk.obs s hs HNE.out).frozen (3 + i)
  clear l0
  go_wp2_with fail
  go_region
  go_wp2_with fail
  go_ret2
  exact ⟨rfl, w2, H2.out, G2.out, rfl⟩

end Go.Proofs.Ytflniddofmnkaaa
