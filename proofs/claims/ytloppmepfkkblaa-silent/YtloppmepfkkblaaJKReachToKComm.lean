/- What the program's 'reach', 'enter', 'find', 'findToRead', 'findToWrite' do. -/
import Derived.Conc.LoneCalls
import Derived.Conc.LoneSelectN
import Derived.Test.YtloppmepfkkblaaJKBase0ToKReq
import Derived.Test.YtloppmepfkkblaaJBaseToTreeKeeps

section
open Go Go.Proofs Go.RowKit
namespace Go.Proofs.Ytloppmepfkkblaa

theorem chk_err {O x y : Nat} {p : Nat × Int} (h : p.2 ≠ 0) : chk O x y p = p := by unfold chk; rw [if_pos h]
theorem pair_eq {p : Nat × Int} (h : p.2 = 0) : (p.1, (0 : Int)) = p := by rw [← h]
theorem failed_err {e : Int} {p : Nat × Int} (h : p.2 ≠ 0) : failed e p = p := by unfold failed; rw [if_neg h]
theorem failed_ok {e : Int} {p : Nat × Int} (h : p.2 = 0) : failed e p = (p.1, e) := by unfold failed; rw [if_pos h]

theorem path_err (S : Nat → Th) (O T : Nat) : ∀ (n s : Nat) (p : Nat × Int), p.2 ≠ 0 → pathF S O T n s p = p
  | 0, _, _, _ => rfl
  | n + 1, s, p, h => by
    unfold pathF
    cases lies S s with
    | none => rfl
    | some c =>
      dsimp only
      rw [path_err S O T n c p h, chk_err h]

section
variable {w : World} {rb kb : Nat} {M : MS} {ob cb : Nat → Nat} {qp : Nat → Option Nat} {me u : Nat}

theorem Left.trans {w1 w2 : World} {p : Nat × Int} (h : Fr (fun k => k = rb) w w1) (h2 : Left w1 w2 rb kb M ob cb qp me p) : Left w w2 rb kb M ob cb qp me p := ⟨h2.1, h.trans h2.2⟩

set_option maxHeartbeats 2000000 in
/-- 'enter', by what 'reach' does one level out. -/
theorem enter_of (n c : Nat) (hc : c < 32) (hck : (M.S c).kind = 1) (h : QK w rb kb M ob cb qp me u)
    (IH : ∀ w1, QK w1 rb kb M ob cb qp me u → Calls Try.prog 56 #[.pointer (some ⟨rb, 0, none⟩), .int .i64 c] w1 fun e w' => e = .returned (.int .i64 (pathF M.S (M.S me).owns (M.S me).label n c (u, 0)).2) ∧ Left w1 w' rb kb M ob cb qp me (pathF M.S (M.S me).owns (M.S me).label n c (u, 0))) :
    Calls Try.prog 72 #[.pointer (some ⟨rb, 0, none⟩), .pointer (some ⟨ob c, 0, none⟩)] w fun e w' => e = .returned (.int .i64 (chk (M.S me).owns (M.S c).label (M.S me).label (pathF M.S (M.S me).owns (M.S me).label n c (u, 0))).2) ∧ Left w w' rb kb M ob cb qp me (chk (M.S me).owns (M.S c).label (M.S me).label (pathF M.S (M.S me).owns (M.S me).label n c (u, 0))) := by
  generalize pathF M.S (M.S me).owns (M.S me).label n c (u, 0) = pp at *
  obtain ⟨b0, b1, b2⟩ := h.pk.base hc (by omega)
  have H := hide h
  have HI := hide IH
  have HMR := hide (fun w1 u1 (h1 : QK w1 rb kb M ob cb qp me u1) => mayRead_any h1 c hc (by omega))
  rw [hck, tyOf1] at HMR
  clear h IH hck
  by_cases he : pp.2 = 0
  · have HE := hide he
    have EP := hide (pair_eq he)
    clear he
    go_enter Try.func72, Try.ntmps72
    go_wp2_with fail
    refine (place_any _ _ _ _).mono ?_
    rintro e w2 ⟨rfl, hb2⟩
    have H2 := hide (H.out.below hb2)
    have HB2 := hide hb2
    clear hb2 b0 b1 b2
    go_wp2_with fail
    refine (HI.out _ H2.out).mono ?_
    rintro e w3 ⟨rfl, h3, g3⟩
    rw [HE.out]
    have H3 := hide h3
    have G3 := hide ((Fr.of_below HB2.out).trans g3)
    clear h3 g3
    go_wp2_with fail
    have hm := HMR.out _ _ H3.out
    rw [EP.out] at hm
    refine hm.mono ?_
    rintro e w4 ⟨rfl, h4, g4⟩
    go_wp2_with fail
    go_ret
    exact ⟨rfl, h4, G3.out.trans g4⟩
  · have E2 := hide (chk_err (O := (M.S me).owns) (x := (M.S c).label) (y := (M.S me).label) he)
    rw [E2.out]
    go_enter Try.func72, Try.ntmps72
    go_wp2_with fail
    refine (place_any _ _ _ _).mono ?_
    rintro e w2 ⟨rfl, hb2⟩
    have H2 := hide (H.out.below hb2)
    have HB2 := hide hb2
    clear hb2 b0 b1 b2
    go_wp2_with fail
    refine (HI.out _ H2.out).mono ?_
    rintro e w3 ⟨rfl, h3, g3⟩
    have H3 := hide h3
    have G3 := hide ((Fr.of_below HB2.out).trans g3)
    clear h3 g3
    go_wp2_with fail
    go_ret
    exact ⟨rfl, H3.out, G3.out⟩

theorem enter_nil (w : World) (rb : Nat) :
    Calls Try.prog 72 #[.pointer (some ⟨rb, 0, none⟩), .pointer none] w fun e w' => e = .returned (.int .i64 0) ∧ Below w.heap.size w w' := by
  go_enter Try.func72, Try.ntmps72
  go_wp2_with fail
  go_ret
  exact ⟨rfl, by (repeat (first | exact Below.refl _ _ | refine Below.drew ?_ | refine below_drewN ?_ _ | refine Below.alloc ?_ (by simp <;> omega) _))⟩
end

set_option maxHeartbeats 2000000 in
theorem reach_any {rb kb : Nat} {M : MS} {ob cb : Nat → Nat} {qp : Nat → Option Nat} {me u : Nat} (n : Nat) : ∀ (s : Nat) (_ : deep M.S n s) (w : World) (_ : QK w rb kb M ob cb qp me u),
    Calls Try.prog 56 #[.pointer (some ⟨rb, 0, none⟩), .int .i64 s] w fun e w' => e = .returned (.int .i64 (pathF M.S (M.S me).owns (M.S me).label n s (u, 0)).2) ∧ Left w w' rb kb M ob cb qp me (pathF M.S (M.S me).owns (M.S me).label n s (u, 0)) := by
  induction n with
  | zero => intro s hd; exact hd.elim
  | succ n ih =>
    intro s hd w h
    obtain ⟨c0, -⟩ := h.cells
    have H := hide h
    clear h
    rcases hl : lies M.S s with _ | c
    · have E1 : Hid (pathF M.S (M.S me).owns (M.S me).label (n + 1) s (u, 0) = (u, 0)) := by unfold Hid pathF; rw [hl]
      have HL := hide hl
      clear hl hd ih
      rw [E1.out]
      go_enter Try.func56, Try.ntmps56
      go_wp2_with fail
      refine (home_any H.out.pk s).mono ?_
      rintro e w1 ⟨rfl, hb⟩
      rw [HL.out]
      simp only [Option.map, ptrV]
      have HB := hide hb
      clear hb
      go_wp2_with fail
      refine (enter_nil _ _).mono ?_
      rintro e w2 ⟨rfl, hb2⟩
      have HB2 := hide (below_next hb2 HB.out)
      clear hb2
      go_wp2_with fail
      go_ret
      exact ⟨rfl, H.out.below HB2.out, Fr.of_below HB2.out⟩
    · obtain ⟨hc32, hck⟩ := lies_kind hl
      have hdc : deep M.S n c := by unfold deep at hd; rw [hl] at hd; exact hd
      have E1 : Hid (pathF M.S (M.S me).owns (M.S me).label (n + 1) s (u, 0) = chk (M.S me).owns (M.S c).label (M.S me).label (pathF M.S (M.S me).owns (M.S me).label n c (u, 0))) := by unfold Hid; conv => lhs; unfold pathF; rw [hl]
      have HEN := hide (fun w1 (h1 : QK w1 rb kb M ob cb qp me u) => enter_of n c hc32 hck h1 (fun w2 h2 => ih c hdc w2 h2))
      rw [E1.out]
      generalize chk (M.S me).owns (M.S c).label (M.S me).label (pathF M.S (M.S me).owns (M.S me).label n c (u, 0)) = pp at *
      have HL := hide hl
      clear hl hd hck ih hdc E1
      go_enter Try.func56, Try.ntmps56
      go_wp2_with fail
      refine (home_any H.out.pk s).mono ?_
      rintro e w1 ⟨rfl, hb⟩
      rw [HL.out]
      simp only [Option.map, ptrV]
      have HB := hide hb
      have H1 := hide (H.out.below hb)
      clear hb c0
      go_wp2_with fail
      refine (HEN.out _ H1.out).mono ?_
      rintro e w2 ⟨rfl, h2, g2⟩
      go_wp2_with fail
      go_ret
      exact ⟨rfl, h2, (Fr.of_below HB.out).trans g2⟩

section
variable {w : World} {rb kb : Nat} {M : MS} {ob cb : Nat → Nat} {qp : Nat → Option Nat} {me u : Nat}

theorem enter_any (h : QK w rb kb M ob cb qp me u) (n c : Nat) (hc : c < 32) (hck : (M.S c).kind = 1) (hd : deep M.S n c) :
    Calls Try.prog 72 #[.pointer (some ⟨rb, 0, none⟩), .pointer (some ⟨ob c, 0, none⟩)] w fun e w' => e = .returned (.int .i64 (chk (M.S me).owns (M.S c).label (M.S me).label (pathF M.S (M.S me).owns (M.S me).label n c (u, 0))).2) ∧ Left w w' rb kb M ob cb qp me (chk (M.S me).owns (M.S c).label (M.S me).label (pathF M.S (M.S me).owns (M.S me).label n c (u, 0))) :=
  enter_of n c hc hck h (fun w1 h1 => reach_any n c hd w1 h1)

/-- What 'find' comes to: path, then there. -/
def findF (S : Nat → Th) (O T n s : Nat) (p : Nat × Int) : Nat × Int := thereF S s (pathF S O T n s p)

set_option maxHeartbeats 1000000 in
theorem find_any (h : QK w rb kb M ob cb qp me u) (n s : Nat) (hs : s < 32) (hd : deep M.S n s) :
    Calls Try.prog 58 #[.pointer (some ⟨rb, 0, none⟩), .int .i64 s] w fun e w' => (e = .returned (.tuple #[if (findF M.S (M.S me).owns (M.S me).label n s (u, 0)).2 = 0 then .iface (tyOf (M.S s).kind) (.pointer (some ⟨ob s, 0, none⟩)) else .nilIface, .int .i64 (findF M.S (M.S me).owns (M.S me).label n s (u, 0)).2])) ∧
      Left w w' rb kb M ob cb qp me (findF M.S (M.S me).owns (M.S me).label n s (u, 0)) := by
  have hsi : (s : Int) < 32 := by omega
  have H := hide h
  have HRA := hide (reach_any n s hd w h)
  clear h hd
  unfold findF
  generalize pathF M.S (M.S me).owns (M.S me).label n s (u, 0) = pp at *
  by_cases he : pp.2 = 0
  · by_cases hk : (M.S s).kind = 0
    · have E1 : Hid (thereF M.S s pp = (pp.1, 5)) := by unfold Hid thereF failed; rw [if_pos hk, if_pos he]
      rw [E1.out, if_neg (show ¬ (pp.1, (5 : Int)).2 = 0 by simp)]
      have HE := hide he
      have HKK := hide hk
      clear he hk E1
      go_enter Try.func58, Try.ntmps58
      go_wp2_with fail
      refine HRA.out.mono ?_
      rintro e w1 ⟨rfl, h1, g1⟩
      rw [HE.out]
      obtain ⟨c0, -⟩ := h1.cells
      have s0 := h1.pk.slot_nil hs HKK.out
      have H1 := hide h1
      have G1 := hide g1
      clear h1 g1
      go_wp2_with fail
      go_ret2
      exact ⟨rfl, H1.out, G1.out⟩
    · have E1 : Hid (thereF M.S s pp = pp) := by unfold Hid thereF; rw [if_neg hk]
      rw [E1.out, if_pos he, he]
      have HE := hide he
      have HKK := hide hk
      have hnil := fun w => eql_nil_ob w (ob s) (M.S s).kind (H.out.pk.kind14 hs hk)
      have HS : Hid (∀ w', QK w' rb kb M ob cb qp me pp.1 → w'.cell? ⟨kb, s, none⟩ = some (.iface (tyOf (M.S s).kind) (.pointer (some ⟨ob s, 0, none⟩)))) := fun w' h' => h'.pk.slot_ob hs hk
      clear he hk E1
      generalize tyOf (M.S s).kind = T at *
      go_enter Try.func58, Try.ntmps58
      go_wp2_with fail
      refine HRA.out.mono ?_
      rintro e w1 ⟨rfl, h1, g1⟩
      rw [HE.out]
      obtain ⟨c0, -⟩ := h1.cells
      have s0 := HS.out w1 h1
      have H1 := hide h1
      have G1 := hide g1
      clear h1 g1
      go_wp2_with fail
      go_ret2
      exact ⟨rfl, H1.out, G1.out⟩
  · have E1 : Hid (thereF M.S s pp = pp) := by
      unfold Hid thereF failed
      by_cases hk : (M.S s).kind = 0
      · rw [if_pos hk, if_neg he]
      · rw [if_neg hk]
    rw [E1.out, if_neg he]
    clear E1
    go_enter Try.func58, Try.ntmps58
    go_wp2_with fail
    refine HRA.out.mono ?_
    rintro e w1 ⟨rfl, h1, g1⟩
    have H1 := hide h1
    have G1 := hide g1
    clear h1 g1
    go_wp2_with fail
    go_ret2
    exact ⟨rfl, H1.out, G1.out⟩

theorem findF_kind {S : Nat → Th} {O T n s : Nat} {p : Nat × Int} (h : (findF S O T n s p).2 = 0) : (S s).kind ≠ 0 := (thereF_zero h).1

set_option maxHeartbeats 1000000 in
theorem findToRead_any (h : QK w rb kb M ob cb qp me u) (n s : Nat) (hs : s < 32) (hd : deep M.S n s) :
    Calls Try.prog 60 #[.pointer (some ⟨rb, 0, none⟩), .int .i64 s] w fun e w' => ∃ v, e = .returned (.tuple #[v, .int .i64 (chk (M.S me).owns (M.S s).label (M.S me).label (findF M.S (M.S me).owns (M.S me).label n s (u, 0))).2]) ∧
      ((chk (M.S me).owns (M.S s).label (M.S me).label (findF M.S (M.S me).owns (M.S me).label n s (u, 0))).2 = 0 → v = .iface (tyOf (M.S s).kind) (.pointer (some ⟨ob s, 0, none⟩)) ∧ (M.S s).kind ≠ 0) ∧ (v = .nilIface ∨ v = .iface (tyOf (M.S s).kind) (.pointer (some ⟨ob s, 0, none⟩))) ∧
      Left w w' rb kb M ob cb qp me (chk (M.S me).owns (M.S s).label (M.S me).label (findF M.S (M.S me).owns (M.S me).label n s (u, 0))) := by
  have HF := hide (find_any h n s hs hd)
  have hfk := @findF_kind M.S (M.S me).owns (M.S me).label n s (u, 0)
  clear h hd
  generalize findF M.S (M.S me).owns (M.S me).label n s (u, 0) = pp at *
  by_cases he : pp.2 = 0
  · have hk := hfk he
    have HMR := hide (fun w1 u1 (h1 : QK w1 rb kb M ob cb qp me u1) => mayRead_any h1 s hs hk)
    have HKK := hide hk
    rw [if_pos he, he] at HF
    have EP := hide (pair_eq he)
    clear he hk hfk
    generalize tyOf (M.S s).kind = T at *
    go_enter Try.func60, Try.ntmps60
    go_wp2_with fail
    refine HF.out.mono ?_
    rintro e w1 ⟨rfl, h1, g1⟩
    have H1 := hide h1
    have G1 := hide g1
    clear h1 g1
    go_wp2_with fail
    have hm := HMR.out _ _ H1.out
    rw [EP.out] at hm
    refine hm.mono ?_
    rintro e w2 ⟨rfl, h2, g2⟩
    go_wp2_with fail
    go_ret2
    exact ⟨_, rfl, fun _ => ⟨rfl, HKK.out⟩, Or.inr rfl, h2, G1.out.trans g2⟩
  · rw [if_neg he] at HF
    have E2 := hide (chk_err (O := (M.S me).owns) (x := (M.S s).label) (y := (M.S me).label) he)
    rw [E2.out]
    clear hfk
    go_enter Try.func60, Try.ntmps60
    go_wp2_with fail
    refine HF.out.mono ?_
    rintro e w1 ⟨rfl, h1, g1⟩
    go_wp2_with fail
    go_ret2
    exact ⟨_, rfl, fun hh => absurd hh he, Or.inl rfl, h1, g1⟩

set_option maxHeartbeats 1000000 in
theorem findToWrite_any (h : QK w rb kb M ob cb qp me u) (n s : Nat) (hs : s < 32) (hd : deep M.S n s) :
    Calls Try.prog 61 #[.pointer (some ⟨rb, 0, none⟩), .int .i64 s] w fun e w' => ∃ v, e = .returned (.tuple #[v, .int .i64 (chk (M.S me).owns (M.S me).label (M.S s).label (findF M.S (M.S me).owns (M.S me).label n s (u, 0))).2]) ∧
      ((chk (M.S me).owns (M.S me).label (M.S s).label (findF M.S (M.S me).owns (M.S me).label n s (u, 0))).2 = 0 → v = .iface (tyOf (M.S s).kind) (.pointer (some ⟨ob s, 0, none⟩)) ∧ (M.S s).kind ≠ 0) ∧ (v = .nilIface ∨ v = .iface (tyOf (M.S s).kind) (.pointer (some ⟨ob s, 0, none⟩))) ∧
      Left w w' rb kb M ob cb qp me (chk (M.S me).owns (M.S me).label (M.S s).label (findF M.S (M.S me).owns (M.S me).label n s (u, 0))) := by
  have HF := hide (find_any h n s hs hd)
  have hfk := @findF_kind M.S (M.S me).owns (M.S me).label n s (u, 0)
  clear h hd
  generalize findF M.S (M.S me).owns (M.S me).label n s (u, 0) = pp at *
  by_cases he : pp.2 = 0
  · have hk := hfk he
    have HMR := hide (fun w1 u1 (h1 : QK w1 rb kb M ob cb qp me u1) => mayWrite_any h1 s hs hk)
    have HKK := hide hk
    rw [if_pos he, he] at HF
    have EP := hide (pair_eq he)
    clear he hk hfk
    generalize tyOf (M.S s).kind = T at *
    go_enter Try.func61, Try.ntmps61
    go_wp2_with fail
    refine HF.out.mono ?_
    rintro e w1 ⟨rfl, h1, g1⟩
    have H1 := hide h1
    have G1 := hide g1
    clear h1 g1
    go_wp2_with fail
    have hm := HMR.out _ _ H1.out
    rw [EP.out] at hm
    refine hm.mono ?_
    rintro e w2 ⟨rfl, h2, g2⟩
    go_wp2_with fail
    go_ret2
    exact ⟨_, rfl, fun _ => ⟨rfl, HKK.out⟩, Or.inr rfl, h2, G1.out.trans g2⟩
  · rw [if_neg he] at HF
    have E2 := hide (chk_err (O := (M.S me).owns) (x := (M.S me).label) (y := (M.S s).label) he)
    rw [E2.out]
    clear hfk
    go_enter Try.func61, Try.ntmps61
    go_wp2_with fail
    refine HF.out.mono ?_
    rintro e w1 ⟨rfl, h1, g1⟩
    go_wp2_with fail
    go_ret2
    exact ⟨_, rfl, fun hh => absurd hh he, Or.inl rfl, h1, g1⟩
end

end Go.Proofs.Ytloppmepfkkblaa
end

section
/- What the program's 'mayMake', 'mayHave', 'mayChange' do. -/
open Go Go.Proofs Go.RowKit
namespace Go.Proofs.Ytloppmepfkkblaa

/-- The stages of making. -/
def mk2 (S : Nat → Th) (O T n c : Nat) (p : Nat × Int) : Nat × Int := chk O (S c).label T (findF S O T n c p)
def mk3 (S : Nat → Th) (O T n c : Nat) (p : Nat × Int) : Nat × Int := chk O T (S c).label (mk2 S O T n c p)
def mk4 (S : Nat → Th) (O T n c : Nat) (p : Nat × Int) : Nat × Int := kindF S c 1 (mk3 S O T n c p)
def mk5 (S : Nat → Th) (O T n c s : Nat) (p : Nat × Int) : Nat × Int := if (S s).kind = 0 ∧ lies S s = some c then mk4 S O T n c p else failed 7 (mk4 S O T n c p)
def mk6 (S : Nat → Th) (O T n c s l : Nat) (p : Nat × Int) : Nat × Int := if sub (S c).label l = true then mk5 S O T n c s p else failed 4 (mk5 S O T n c s p)
theorem making_mk6 (S : Nat → Th) (O T n c s l : Nat) (p : Nat × Int) : makingF S O T n c s l p = chk O T l (mk6 S O T n c s l p) := rfl

section
variable {S : Nat → Th} {O T n c s l : Nat} {p : Nat × Int}
theorem mk6_of (h : (mk5 S O T n c s p).2 ≠ 0) : makingF S O T n c s l p = mk5 S O T n c s p := by
  rw [making_mk6]
  have : mk6 S O T n c s l p = mk5 S O T n c s p := by unfold mk6; rw [failed_err h]; split <;> rfl
  rw [this, chk_err h]
theorem mk5_of (h : (mk4 S O T n c p).2 ≠ 0) : makingF S O T n c s l p = mk4 S O T n c p := by
  have e : mk5 S O T n c s p = mk4 S O T n c p := by unfold mk5; rw [failed_err h]; split <;> rfl
  rw [mk6_of (by rw [e]; exact h), e]
theorem mk4_of (h : (mk3 S O T n c p).2 ≠ 0) : makingF S O T n c s l p = mk3 S O T n c p := by
  have e : mk4 S O T n c p = mk3 S O T n c p := by unfold mk4 kindF; rw [failed_err h]; split <;> rfl
  rw [mk5_of (by rw [e]; exact h), e]
theorem mk3_of (h : (mk2 S O T n c p).2 ≠ 0) : makingF S O T n c s l p = mk2 S O T n c p := by
  have e : mk3 S O T n c p = mk2 S O T n c p := chk_err h
  rw [mk4_of (by rw [e]; exact h), e]
end

/-- Is the container in which something lies this one? -/
theorem neq_home {w : World} {kb : Nat} {M : MS} {ob cb : Nat → Nat} {qp : Nat → Option Nat} (h : KP w kb M ob cb qp) (o : Option Nat) (ho : ∀ d, o = some d → d < 32 ∧ (M.S d).kind = 1) (c : Nat) (hc : c < 32) (hck : (M.S c).kind = 1) :
    (binOp .neq 84 (ptrV (o.map ob)) (.pointer (some ⟨ob c, 0, none⟩))).run Try.prog w = .ok (.bool !decide (o = some c)) w := by
  cases o with
  | none => simp only [Option.map, ptrV]; rw [decide_eq_false (by simp)]; exact neq_nil_ptr w (ob c)
  | some d =>
    simp only [Option.map, ptrV]
    obtain ⟨hd, hdk⟩ := ho d rfl
    by_cases e : d = c
    · subst e; rw [decide_eq_true rfl]; exact neq_ptr_same w _
    · rw [decide_eq_false (fun h => e (by injection h))]
      exact neq_ptr_other w (ob d) (ob c) _ _ (fun eq => e (h.inj d c hd hc (by omega) (by omega) eq)) (h.obs d hd (by omega)) (h.obs c hc (by omega))

section
variable {w : World} {rb kb : Nat} {M : MS} {ob cb : Nat → Nat} {qp : Nat → Option Nat} {me u : Nat}

set_option maxRecDepth 100000 in
set_option maxHeartbeats 4000000 in
theorem mayMake_any (h : QK w rb kb M ob cb qp me u) (n c s l : Nat) (hc : c < 32) (hs : s < 32) (hl : l < 256) (hd : deep M.S n c) :
    Calls Try.prog 59 #[.pointer (some ⟨rb, 0, none⟩), .int .i64 c, .int .i64 s, .int .i64 l] w fun e w' => e = .returned (.int .i64 (makingF M.S (M.S me).owns (M.S me).label n c s l (u, 0)).2) ∧ Left w w' rb kb M ob cb qp me (makingF M.S (M.S me).owns (M.S me).label n c s l (u, 0)) := by
  have hsi : (s : Int) < 32 := by omega
  have HLc := hide (h.pk.wf c hc).2.2.2.2.1
  have HLm := hide h.label
  have HL := hide hl
  have FA := hide (findToRead_any h n c hc hd)
  clear h hd hl
  have E3 := hide (@mk3_of M.S (M.S me).owns (M.S me).label n c s l (u, 0))
  have E4 := hide (@mk4_of M.S (M.S me).owns (M.S me).label n c s l (u, 0))
  have E5 := hide (@mk5_of M.S (M.S me).owns (M.S me).label n c s l (u, 0))
  have E6 := hide (@mk6_of M.S (M.S me).owns (M.S me).label n c s l (u, 0))
  have EM := hide (making_mk6 M.S (M.S me).owns (M.S me).label n c s l (u, 0))
  have D2 : (chk (M.S me).owns (M.S c).label (M.S me).label (findF M.S (M.S me).owns (M.S me).label n c (u, 0)) = mk2 M.S (M.S me).owns (M.S me).label n c (u, 0)) := rfl
  have D3 : Hid (chk (M.S me).owns (M.S me).label (M.S c).label (mk2 M.S (M.S me).owns (M.S me).label n c (u, 0)) = mk3 M.S (M.S me).owns (M.S me).label n c (u, 0)) := rfl
  have D4 : Hid (mk4 M.S (M.S me).owns (M.S me).label n c (u, 0) = kindF M.S c 1 (mk3 M.S (M.S me).owns (M.S me).label n c (u, 0))) := rfl
  have D5 : Hid (mk5 M.S (M.S me).owns (M.S me).label n c s (u, 0) = if (M.S s).kind = 0 ∧ lies M.S s = some c then mk4 M.S (M.S me).owns (M.S me).label n c (u, 0) else failed 7 (mk4 M.S (M.S me).owns (M.S me).label n c (u, 0))) := rfl
  have D6 : Hid (mk6 M.S (M.S me).owns (M.S me).label n c s l (u, 0) = if sub (M.S c).label l = true then mk5 M.S (M.S me).owns (M.S me).label n c s (u, 0) else failed 4 (mk5 M.S (M.S me).owns (M.S me).label n c s (u, 0))) := rfl
  rw [D2] at FA
  clear D2
  generalize makingF M.S (M.S me).owns (M.S me).label n c s l (u, 0) = pm at *
  generalize mk2 M.S (M.S me).owns (M.S me).label n c (u, 0) = p2 at *
  generalize mk3 M.S (M.S me).owns (M.S me).label n c (u, 0) = p3 at *
  generalize mk4 M.S (M.S me).owns (M.S me).label n c (u, 0) = p4 at *
  generalize mk5 M.S (M.S me).owns (M.S me).label n c s (u, 0) = p5 at *
  generalize mk6 M.S (M.S me).owns (M.S me).label n c s l (u, 0) = p6 at *
  go_enter Try.func59, Try.ntmps59
  go_wp2_with fail
  refine FA.out.mono ?_
  rintro e w2 ⟨v, rfl, hv, hv2, h2, G2'⟩
  have H2 := hide h2
  have G2 := hide G2'
  have HV := hide hv
  clear h2 G2' hv FA
  by_cases e2 : p2.2 = 0
  rotate_left
  · rcases hv2 with rfl | rfl
    · go_wp2_with fail
      go_ret
      rw [E3.out e2]
      exact ⟨rfl, H2.out, G2.out⟩
    · generalize tyOf (M.S c).kind = T at *
      go_wp2_with fail
      go_ret
      rw [E3.out e2]
      exact ⟨rfl, H2.out, G2.out⟩
  obtain ⟨hv, hkc⟩ := HV.out e2
  subst hv
  clear hv2
  have HK := hide hkc
  have X2 := hide e2
  rw [e2]
  clear hkc e2 HV
  have HMW := hide (mayWrite_any H2.out c hc HK.out)
  rw [pair_eq X2.out, D3.out] at HMW
  by_cases ek : (M.S c).kind = 1
  rotate_left
  · have hta := fun w => ta_container_no w (ob c) (M.S c).kind (H2.out.pk.kind14 hc HK.out) ek
    have D4' : Hid (p3.2 = 0 → p4 = (p3.1, 6)) := fun hh => by rw [D4.out]; unfold kindF; rw [if_neg ek, failed_ok hh]
    clear ek
    generalize tyOf (M.S c).kind = T at *
    go_wp2_with fail
    refine HMW.out.mono ?_
    rintro e w3 ⟨rfl, h3, g3⟩
    have H3 := hide h3
    have G3 := hide (G2.out.trans g3)
    clear h3 g3
    by_cases e3 : p3.2 = 0
    rotate_left
    · go_wp2_with fail
      go_ret
      rw [E4.out e3]
      exact ⟨rfl, H3.out, G3.out⟩
    have E := hide (D4'.out e3)
    rw [e3]
    clear e3
    go_wp2_with fail
    go_ret
    rw [E5.out (by rw [E.out]; simp), E.out]
    exact ⟨rfl, H3.out, G3.out⟩
  rw [ek, tyOf1] at HMW ⊢
  have hta := fun w => ta_container_container w (ob c)
  have EK := hide ek
  go_wp2_with fail
  refine HMW.out.mono ?_
  rintro e w3 ⟨rfl, h3, g3⟩
  have H3 := hide h3
  have G3 := hide (G2.out.trans g3)
  clear h3 g3 HMW
  by_cases e3 : p3.2 = 0
  rotate_left
  · go_wp2_with fail
    go_ret
    rw [E4.out e3]
    exact ⟨rfl, H3.out, G3.out⟩
  have X3 := hide e3
  rw [e3]
  clear e3
  have E : Hid (p4 = p3) := by unfold Hid; rw [D4.out]; unfold kindF; rw [if_pos ek]
  clear ek
  obtain ⟨c0, c1, -⟩ := H3.out.cells
  by_cases es : (M.S s).kind = 0
  rotate_left
  · have s0 := H3.out.pk.slot_ob hs es
    have hne := fun w => neq_nil_ob w (ob s) (M.S s).kind (H3.out.pk.kind14 hs es)
    have EE : Hid (p5 = (p3.1, 7)) := by unfold Hid; rw [D5.out, if_neg (fun hh => es hh.1), E.out, failed_ok X3.out]
    clear es
    generalize tyOf (M.S s).kind = T at *
    go_wp2_with fail
    go_ret
    rw [E6.out (by rw [EE.out]; simp), EE.out]
    exact ⟨rfl, H3.out, G3.out⟩
  have s0 := H3.out.pk.slot_nil hs es
  have ES := hide es
  clear es
  go_wp2_with fail
  refine (home_any H3.out.pk s).mono ?_
  rintro e w4 ⟨rfl, hb4⟩
  have H4 := hide (H3.out.below hb4)
  have G4 := hide (G3.out.trans (Fr.of_below hb4))
  clear hb4 c0 c1 s0
  have hcmp := neq_home H4.out.pk (lies M.S s) (fun d hd => lies_kind hd) c hc EK.out
  generalize hvo : ptrV ((lies M.S s).map ob) = vo at *
  have hvo' : vo = .pointer none ∨ ∃ g, vo = .pointer (some ⟨g, 0, none⟩) := by
    rw [← hvo]
    cases lies M.S s with
    | none => exact Or.inl rfl
    | some d => exact Or.inr ⟨_, rfl⟩
  clear hvo
  by_cases hli : lies M.S s = some c
  rotate_left
  · have EE : Hid (p5 = (p3.1, 7)) := by unfold Hid; rw [D5.out, if_neg (fun h => hli h.2), E.out, failed_ok X3.out]
    rw [decide_eq_false hli] at hcmp
    clear hli
    rcases hvo' with rfl | ⟨g, rfl⟩
    · go_wp2_with fail
      go_ret
      rw [E6.out (by rw [EE.out]; simp), EE.out]
      exact ⟨rfl, H4.out, G4.out⟩
    · go_wp2_with fail
      go_ret
      rw [E6.out (by rw [EE.out]; simp), EE.out]
      exact ⟨rfl, H4.out, G4.out⟩
  have EE : Hid (p5 = p3) := by unfold Hid; rw [D5.out, if_pos ⟨ES.out, hli⟩, E.out]
  rw [decide_eq_true hli] at hcmp
  clear hli
  obtain ⟨b0, b1, b2⟩ := H4.out.pk.base hc (by have := EK.out; omega)
  have key : Hid (∀ W, Below w4.heap.size w4 W → QK W rb kb M ob cb qp me p3.1 ∧ Fr (fun k => k = rb) w W) := fun W hb => ⟨H4.out.below hb, G4.out.trans (Fr.of_below hb)⟩
  by_cases hsb : sub (M.S c).label l = true
  rotate_left
  · have EF : Hid (p6 = (p3.1, 4)) := by unfold Hid; rw [D6.out, if_neg hsb, EE.out, failed_ok X3.out]
    have HW := hide (fun w => kwithin w (M.S c).label l HLc.out HL.out)
    rw [Bool.eq_false_iff.2 hsb] at HW
    clear hsb
    rcases hvo' with rfl | ⟨g, rfl⟩
    · go_wp2_with fail
      refine (labelOf_any _ _ _ _).mono ?_
      rintro e w5 ⟨rfl, hb5⟩
      go_wp2_with fail
      refine (HW.out _).mono ?_
      rintro e w6 ⟨rfl, hb6⟩
      go_wp2_with fail
      go_ret
      rw [EM.out, EF.out, chk_err (by simp)]
      exact ⟨rfl, key.out _ (below_next hb6 hb5)⟩
    · go_wp2_with fail
      refine (labelOf_any _ _ _ _).mono ?_
      rintro e w5 ⟨rfl, hb5⟩
      go_wp2_with fail
      refine (HW.out _).mono ?_
      rintro e w6 ⟨rfl, hb6⟩
      go_wp2_with fail
      go_ret
      rw [EM.out, EF.out, chk_err (by simp)]
      exact ⟨rfl, key.out _ (below_next hb6 hb5)⟩
  have EF : Hid (p6 = p3) := by unfold Hid; rw [D6.out, if_pos hsb, EE.out]
  have HW := hide (fun w => kwithin w (M.S c).label l HLc.out HL.out)
  rw [hsb] at HW
  clear hsb
  have fin : Hid (∀ W, QK W rb kb M ob cb qp me p3.1 → Calls Try.prog 68 #[.pointer (some ⟨rb, 0, none⟩), .int .i64 (M.S me).label, .int .i64 l] W fun e w' => e = .returned (.int .i64 pm.2) ∧ Left W w' rb kb M ob cb qp me pm) := fun W hW => by
    have ha := fits_any hW (M.S me).label l HLm.out HL.out
    rw [pair_eq X3.out, ← EF.out, ← EM.out] at ha
    exact ha
  rcases hvo' with rfl | ⟨g, rfl⟩
  · go_wp2_with fail
    refine (labelOf_any _ _ _ _).mono ?_
    rintro e w5 ⟨rfl, hb5⟩
    clear b0 b1 b2 hcmp
    go_wp2_with fail
    refine (HW.out _).mono ?_
    rintro e w6 ⟨rfl, hb6⟩
    obtain ⟨h6, g6⟩ := key.out _ (below_next hb6 hb5)
    obtain ⟨c0, c1, -⟩ := h6.cells
    obtain ⟨d0, d1, d2⟩ := h6.mine
    have H6 := hide h6
    have G6 := hide g6
    clear h6 g6 hb5 hb6
    go_wp2_with fail
    refine (labelOf_any _ _ _ _).mono ?_
    rintro e w7 ⟨rfl, hb7⟩
    have H7 := hide (H6.out.below hb7)
    have G7 := hide (G6.out.trans (Fr.of_below hb7))
    clear hb7 c0 c1 d0 d1 d2
    go_wp2_with fail
    refine (fin.out _ H7.out).mono ?_
    rintro e w8 ⟨rfl, h8, g8⟩
    go_wp2_with fail
    go_ret
    exact ⟨rfl, h8, G7.out.trans g8⟩
  · go_wp2_with fail
    refine (labelOf_any _ _ _ _).mono ?_
    rintro e w5 ⟨rfl, hb5⟩
    clear b0 b1 b2 hcmp
    go_wp2_with fail
    refine (HW.out _).mono ?_
    rintro e w6 ⟨rfl, hb6⟩
    obtain ⟨h6, g6⟩ := key.out _ (below_next hb6 hb5)
    obtain ⟨c0, c1, -⟩ := h6.cells
    obtain ⟨d0, d1, d2⟩ := h6.mine
    have H6 := hide h6
    have G6 := hide g6
    clear h6 g6 hb5 hb6
    go_wp2_with fail
    refine (labelOf_any _ _ _ _).mono ?_
    rintro e w7 ⟨rfl, hb7⟩
    have H7 := hide (H6.out.below hb7)
    have G7 := hide (G6.out.trans (Fr.of_below hb7))
    clear hb7 c0 c1 d0 d1 d2
    go_wp2_with fail
    refine (fin.out _ H7.out).mono ?_
    rintro e w8 ⟨rfl, h8, g8⟩
    go_wp2_with fail
    go_ret
    exact ⟨rfl, h8, G7.out.trans g8⟩
end

end Go.Proofs.Ytloppmepfkkblaa
end

section
/- What the program's 'mayHave' and 'mayChange' do. -/
open Go Go.Proofs Go.RowKit
namespace Go.Proofs.Ytloppmepfkkblaa

section
variable {S : Nat → Th} {c s a e g h : Nat}
theorem busy_self (h1 : a ≤ s ∧ s < e) : busyB S c s a e g h = true := by
  unfold busyB
  rw [decide_eq_true h1]
  rfl
theorem busy_slot {i : Nat} (hi : i < 32) (h1 : a ≤ i ∧ i < e) (h2 : ¬ ((S i).kind = 0 ∧ lies S i = some c)) : busyB S c s a e g h = true := by
  unfold busyB
  have : (List.range 32).any (fun i => decide (a ≤ i ∧ i < e) && !decide ((S i).kind = 0 ∧ lies S i = some c)) = true := by
    rw [List.any_eq_true]
    refine ⟨i, List.mem_range.2 hi, ?_⟩
    rw [decide_eq_true h1, decide_eq_false h2]
    rfl
  rw [this, Bool.or_true, Bool.true_or]
theorem busy_quantum {q : Nat} (hq : q < 8) (h1 : g ≤ q ∧ q < h) (h2 : ¬ has S q = some c) : busyB S c s a e g h = true := by
  unfold busyB
  have : (List.range 8).any (fun q => decide (g ≤ q ∧ q < h) && !decide (has S q = some c)) = true := by
    rw [List.any_eq_true]
    refine ⟨q, List.mem_range.2 hq, ?_⟩
    rw [decide_eq_true h1, decide_eq_false h2]
    rfl
  rw [this, Bool.or_true]
theorem busy_no (h1 : ¬ (a ≤ s ∧ s < e)) (h2 : ∀ i, a ≤ i → i < e → (S i).kind = 0 ∧ lies S i = some c) (h3 : ∀ q, g ≤ q → q < h → has S q = some c) : busyB S c s a e g h = false := by
  unfold busyB
  rw [decide_eq_false h1]
  have e1 : (List.range 32).any (fun i => decide (a ≤ i ∧ i < e) && !decide ((S i).kind = 0 ∧ lies S i = some c)) = false := by
    rw [List.any_eq_false]
    intro i _
    by_cases hi : a ≤ i ∧ i < e
    · rw [decide_eq_true (h2 i hi.1 hi.2)]; simp
    · rw [decide_eq_false hi]; simp
  have e2 : (List.range 8).any (fun q => decide (g ≤ q ∧ q < h) && !decide (has S q = some c)) = false := by
    rw [List.any_eq_false]
    intro i _
    by_cases hi : g ≤ i ∧ i < h
    · rw [decide_eq_true (h3 i hi.1 hi.2)]; simp
    · rw [decide_eq_false hi]; simp
  rw [e1, e2]
  rfl
end

section
variable {w : World} {rb kb : Nat} {M : MS} {ob cb : Nat → Nat} {qp : Nat → Option Nat} {me u : Nat}

set_option maxRecDepth 100000 in
set_option maxHeartbeats 4000000 in
theorem mayHave_any (H0 : QK w rb kb M ob cb qp me u) (c s a e g h : Nat) (hc : c < 32) (hck : (M.S c).kind = 1) (hae : a ≤ e) (he : e ≤ 32) (hgh : g ≤ h) (hh : h ≤ 8) :
    Calls Try.prog 62 #[.pointer (some ⟨rb, 0, none⟩), .pointer (some ⟨ob c, 0, none⟩), .int .i64 s, .agg #[.int .i64 a, .int .i64 e], .agg #[.int .i64 g, .int .i64 h]] w fun r w' => r = .returned (.int .i64 (if busyB M.S c s a e g h = true then 7 else 0)) ∧ Below w.heap.size w w' := by
  have H := hide H0
  have HCK := hide hck
  have hz := H0.lt
  clear H0 hck
  by_cases hin : a ≤ s ∧ s < e
  · rw [if_pos (busy_self hin)]
    go_enter Try.func62, Try.ntmps62
    go_wp2_with fail
    refine (has_yes _ _ _ _ (by omega) (by omega)).mono ?_
    rintro r w1 ⟨rfl, hb⟩
    go_wp2_with fail
    go_ret
    exact ⟨rfl, Below.first (Below.first hb)⟩
  have HIN := hide hin
  clear hin
  have HYS : Hid (∀ i, i < 32 → a ≤ i ∧ i < e → ¬ ((M.S i).kind = 0 ∧ lies M.S i = some c) → (if busyB M.S c s a e g h = true then (7 : Int) else 0) = 7) := fun i h1 h2 h3 => if_pos (busy_slot h1 h2 h3)
  have HYQ : Hid (∀ q, q < 8 → g ≤ q ∧ q < h → ¬ has M.S q = some c → (if busyB M.S c s a e g h = true then (7 : Int) else 0) = 7) := fun i h1 h2 h3 => if_pos (busy_quantum h1 h2 h3)
  have HNO : Hid ((∀ i, a ≤ i → i < e → (M.S i).kind = 0 ∧ lies M.S i = some c) → (∀ q, g ≤ q → q < h → has M.S q = some c) → (if busyB M.S c s a e g h = true then (7 : Int) else 0) = 0) := fun h2 h3 => if_neg (by rw [busy_no HIN.out h2 h3]; decide)
  generalize (if busyB M.S c s a e g h = true then (7 : Int) else 0) = ans at *
  go_enter Try.func62, Try.ntmps62
  go_wp2_with fail
  refine (has_no _ _ _ _ (by have := HIN.out; omega)).mono ?_
  rintro r w1 ⟨rfl, hb⟩
  have B1 := hide (Blk.below ((Blk.new w #[.int .i64 a, .int .i64 e] 95).alloc (.cells #[.int .i64 g, .int .i64 h] 95)) hb (by simp; omega))
  have B2 := hide (Blk.below (Blk.new' (g := w.heap.size + 1) (w := w.alloc (.cells #[.int .i64 a, .int .i64 e] 95)) (cs := #[.int .i64 g, .int .i64 h]) (T := 95) (by simp)) hb (by simp))
  have HB1 := hide (Below.first (Below.first hb))
  have hz1 : w.heap.size + 2 ≤ w1.heap.size := by have := hb.size; simp at this; omega
  clear hb
  have HCE : Hid (∀ W, Below w1.heap.size w1 W → W.cell? ⟨w.heap.size, 0, none⟩ = some (.int .i64 a) ∧ W.cell? ⟨w.heap.size, 1, none⟩ = some (.int .i64 e) ∧ W.cell? ⟨w.heap.size + 1, 0, none⟩ = some (.int .i64 g) ∧ W.cell? ⟨w.heap.size + 1, 1, none⟩ = some (.int .i64 h)) := fun W hb => by
    have x1 := Blk.below B1.out hb (by omega)
    have x2 := Blk.below B2.out hb (by omega)
    refine ⟨?_, ?_, ?_, ?_⟩
    · rw [x1.cell]; rfl
    · rw [x1.cell]; rfl
    · rw [x2.cell]; rfl
    · rw [x2.cell]; rfl
  obtain ⟨y0, y1, y2, y3⟩ := HCE.out w1 (Below.refl _ _)
  have HQ : Hid (∀ W, Below w1.heap.size w1 W → QK W rb kb M ob cb qp me u) := fun W hb => (H.out.below HB1.out).below hb
  clear B1 B2
  go_wp2_with fail
  go_loopw [11] (fun x w' => ∃ k : Nat, a ≤ k ∧ k ≤ e ∧ x = .int .i64 k ∧ (∀ i, a ≤ i → i < k → (M.S i).kind = 0 ∧ lies M.S i = some c) ∧ Below w1.heap.size w1 w') (fun x _ => e - (intOf x).toNat)
  case atStart => exact ⟨a, by omega, by omega, rfl, fun i h1 h2 => by omega, Below.refl _ _⟩
  case round =>
    clear y0 y1 y2 y3
    obtain ⟨k, hk1, hk2, rfl, hall, hW⟩ := hrel
    have HA := hide hall
    obtain ⟨y0, y1, y2, y3⟩ := HCE.out _ hW
    have H1 := hide (HQ.out _ hW)
    obtain ⟨c0, -⟩ := H1.out.cells
    have HW := hide hW
    clear hall hW
    by_cases hke : k < e
    · have hk32 : (k : Int) < 32 := by omega
      have hkei : (k : Int) < (e : Int) := by omega
      by_cases es : (M.S k).kind = 0
      rotate_left
      · have s0 := H1.out.pk.slot_ob (i := k) (by omega) es
        have hne := fun w => neq_nil_ob w (ob k) (M.S k).kind (H1.out.pk.kind14 (by omega) es)
        have EE := hide (HYS.out k (by omega) ⟨hk1, hke⟩ (fun hh => es hh.1))
        clear es
        generalize tyOf (M.S k).kind = T at *
        go_wp2_with fail
        go_ret
        exact ⟨by rw [EE.out]; rfl, below_next HW.out HB1.out⟩
      have s0 := H1.out.pk.slot_nil (i := k) (by omega) es
      have ES := hide es
      clear es
      go_wp2_with fail
      refine (home_any H1.out.pk k).mono ?_
      rintro r w4 ⟨rfl, hb4⟩
      have H4 := hide (H1.out.below hb4)
      have HW4 := hide (below_next hb4 HW.out)
      clear hb4 c0 s0 y0 y1 y2 y3
      have hcmp := neq_home H4.out.pk (lies M.S k) (fun d hd => lies_kind hd) c hc HCK.out
      rcases ptrV_shape ((lies M.S k).map ob) with hv | ⟨g', hv⟩ <;> rw [hv] at hcmp ⊢
      all_goals
        by_cases hli : lies M.S k = some c
        · have HLI := hide hli
          rw [decide_eq_true hli] at hcmp
          clear hli
          go_wp2_with fail
          exact ⟨⟨k + 1, by omega, by omega, by go_num, fun i h1 h2 => by
            by_cases ei : i = k
            · subst ei; exact ⟨ES.out, HLI.out⟩
            · exact HA.out i h1 (by omega), HW4.out⟩, by simp [intOf]; omega⟩
        · have EE := hide (HYS.out k (by omega) ⟨hk1, hke⟩ (fun hh => hli hh.2))
          rw [decide_eq_false hli] at hcmp
          clear hli
          go_wp2_with fail
          go_ret
          exact ⟨by rw [EE.out]; rfl, below_next HW4.out HB1.out⟩
    · have : k = e := by omega
      subst this
      go_wp2_with fail
      clear y0 y1 y2 y3 c0
      go_loopw [12] (fun x w' => ∃ q : Nat, g ≤ q ∧ q ≤ h ∧ x = .int .i64 q ∧ (∀ i, g ≤ i → i < q → has M.S i = some c) ∧ Below w1.heap.size w1 w') (fun x _ => h - (intOf x).toNat)
      case atStart => exact ⟨g, by omega, by omega, rfl, fun i h1 h2 => by omega, HW.out⟩
      case round =>
        obtain ⟨q, hq1, hq2, rfl, hall, hW⟩ := hrel
        have HA2 := hide hall
        obtain ⟨y0, y1, y2, y3⟩ := HCE.out _ hW
        have H2 := hide (HQ.out _ hW)
        obtain ⟨c0, -⟩ := H2.out.cells
        have HW2 := hide hW
        clear hall hW
        by_cases hqh : q < h
        · have hqhi : (q : Int) < (h : Int) := by omega
          go_wp2_with fail
          refine (quantumHome_any H2.out.pk q).mono ?_
          rintro r w4 ⟨rfl, hb4⟩
          have H4 := hide (H2.out.below hb4)
          have HW4 := hide (below_next hb4 HW2.out)
          clear hb4 c0 y0 y1 y2 y3
          have hcmp := neq_home H4.out.pk (has M.S q) (fun d hd => has_kind hd) c hc HCK.out
          rcases ptrV_shape ((has M.S q).map ob) with hv | ⟨g', hv⟩ <;> rw [hv] at hcmp ⊢
          all_goals
            by_cases hli : has M.S q = some c
            · have HLI := hide hli
              rw [decide_eq_true hli] at hcmp
              clear hli
              go_wp2_with fail
              exact ⟨⟨q + 1, by omega, by omega, by go_num, fun i h1 h2 => by
                by_cases ei : i = q
                · subst ei; exact HLI.out
                · exact HA2.out i h1 (by omega), HW4.out⟩, by simp [intOf]; omega⟩
            · have EE := hide (HYQ.out q (by omega) ⟨hq1, hqh⟩ hli)
              rw [decide_eq_false hli] at hcmp
              clear hli
              go_wp2_with fail
              go_ret
              exact ⟨by rw [EE.out]; rfl, below_next HW4.out HB1.out⟩
        · have : q = h := by omega
          subst this
          go_wp2_with fail
          go_ret
          exact ⟨by rw [HNO.out HA.out HA2.out]; rfl, below_next HW2.out HB1.out⟩

/-- What 'mayChange' asks. -/
theorem mDrop_eq (S : Nat → Th) (O T q c : Nat) (hq : has S q = some c) : mDrop S O T q = chk O T (S c).label (chk O (S c).label T (pathF S O T DEEP c (0, 0))) := by
  unfold mDrop
  rw [hq]
  rfl

set_option maxHeartbeats 2000000 in
theorem mayChange_any (h : QK w rb kb M ob cb qp me 0) (q c : Nat) (hq : has M.S q = some c) (hd : deep M.S DEEP c) :
    Calls Try.prog 67 #[.pointer (some ⟨rb, 0, none⟩), .int .i64 q] w fun e w' => (e = .returned (.tuple #[if (mDrop M.S (M.S me).owns (M.S me).label q).2 = 0 then .pointer (some ⟨ob c, 0, none⟩) else .pointer none, .int .i64 (mDrop M.S (M.S me).owns (M.S me).label q).2])) ∧
      Left w w' rb kb M ob cb qp me (mDrop M.S (M.S me).owns (M.S me).label q) := by
  obtain ⟨hc, hck⟩ := has_kind hq
  rw [mDrop_eq _ _ _ _ _ hq]
  have HEN := hide (fun w1 (h1 : QK w1 rb kb M ob cb qp me 0) => enter_any h1 DEEP c hc hck hd)
  have HMW := hide (fun w1 u1 (h1 : QK w1 rb kb M ob cb qp me u1) => mayWrite_any h1 c hc (by omega))
  rw [hck, tyOf1] at HMW
  have H := hide h
  have HQ := hide hq
  obtain ⟨c0, -⟩ := h.cells
  clear h hq hck hd
  generalize chk (M.S me).owns (M.S c).label (M.S me).label (pathF M.S (M.S me).owns (M.S me).label DEEP c (0, 0)) = p1 at *
  by_cases e1 : p1.2 = 0
  rotate_left
  · have E := hide (chk_err (O := (M.S me).owns) (x := (M.S me).label) (y := (M.S c).label) e1)
    rw [E.out, if_neg e1]
    go_enter Try.func67, Try.ntmps67
    go_wp2_with fail
    refine (quantumHome_any H.out.pk q).mono ?_
    rintro r w1 ⟨rfl, hb⟩
    rw [HQ.out]
    simp only [Option.map, ptrV]
    have H1 := hide (H.out.below hb)
    have HB := hide hb
    clear hb c0
    go_wp2_with fail
    refine (HEN.out _ H1.out).mono ?_
    rintro r w2 ⟨rfl, h2, g2⟩
    go_wp2_with fail
    go_ret2
    exact ⟨rfl, h2, (Fr.of_below HB.out).trans g2⟩
  have EP := hide (pair_eq e1)
  have E1 := hide e1
  clear e1
  have HMW2 : Hid (∀ w1, QK w1 rb kb M ob cb qp me p1.1 → Calls Try.prog 65 #[.pointer (some ⟨rb, 0, none⟩), .iface 84 (.pointer (some ⟨ob c, 0, none⟩))] w1 fun e w' => e = .returned (.int .i64 (chk (M.S me).owns (M.S me).label (M.S c).label p1).2) ∧ Left w1 w' rb kb M ob cb qp me (chk (M.S me).owns (M.S me).label (M.S c).label p1)) := fun w1 h1 => by
    have := HMW.out _ _ h1
    rw [EP.out] at this
    exact this
  clear HMW
  generalize chk (M.S me).owns (M.S me).label (M.S c).label p1 = p2 at *
  by_cases e2 : p2.2 = 0
  · rw [if_pos e2, e2]
    rw [e2] at HMW2
    clear e2
    go_enter Try.func67, Try.ntmps67
    go_wp2_with fail
    refine (quantumHome_any H.out.pk q).mono ?_
    rintro r w1 ⟨rfl, hb⟩
    rw [HQ.out]
    simp only [Option.map, ptrV]
    have H1 := hide (H.out.below hb)
    have HB := hide hb
    clear hb c0
    go_wp2_with fail
    refine (HEN.out _ H1.out).mono ?_
    rintro r w2 ⟨rfl, h2, g2⟩
    rw [E1.out]
    have H2 := hide h2
    have G2 := hide g2
    clear h2 g2
    go_wp2_with fail
    refine (HMW2.out _ H2.out).mono ?_
    rintro r w3 ⟨rfl, h3, g3⟩
    go_wp2_with fail
    go_ret2
    exact ⟨rfl, h3, ((Fr.of_below HB.out).trans G2.out).trans g3⟩
  · rw [if_neg e2]
    go_enter Try.func67, Try.ntmps67
    go_wp2_with fail
    refine (quantumHome_any H.out.pk q).mono ?_
    rintro r w1 ⟨rfl, hb⟩
    rw [HQ.out]
    simp only [Option.map, ptrV]
    have H1 := hide (H.out.below hb)
    have HB := hide hb
    clear hb c0
    go_wp2_with fail
    refine (HEN.out _ H1.out).mono ?_
    rintro r w2 ⟨rfl, h2, g2⟩
    rw [E1.out]
    have H2 := hide h2
    have G2 := hide g2
    clear h2 g2
    go_wp2_with fail
    refine (HMW2.out _ H2.out).mono ?_
    rintro r w3 ⟨rfl, h3, g3⟩
    go_wp2_with fail
    go_ret2
    exact ⟨rfl, h3, ((Fr.of_below HB.out).trans G2.out).trans g3⟩
end

end Go.Proofs.Ytloppmepfkkblaa
end

section
/- How the program's kernel turns: a word that is written, an object that is put or goes, a quantum, the phase. -/
open Go Go.Proofs Go.RowKit
namespace Go.Proofs.Ytloppmepfkkblaa

theorem toArray_set (l : List Value) (n : Nat) (v : Value) : l.toArray.setIfInBounds n v = (l.set n v).toArray := by simp

theorem fth_wf : fth.wf := by refine ⟨?_, ?_, ?_, ?_, ?_, ?_⟩ <;> simp [fth]

/-- A slot that is freed. -/
def MS.clear (M : MS) (s : Nat) : MS := { S := upd M.S s fth, ws := upd M.ws s [], lq := fun q => (M.lq q).bind fun t => if t = s then none else some t, ph := M.ph }

section
variable {w : World} {kb : Nat} {M : MS} {ob cb : Nat → Nat} {qp : Nat → Option Nat}

theorem KP.putWord (h : KP w kb M ob cb qp) {s i : Nat} (hs : s < 32) (hk : (M.S s).kind = 3) (v : Int) :
    KP (w.setCell ⟨ob s, 3 + i, none⟩ (.int .i64 v)) kb (M.words s ((M.ws s).set i v)) ob cb qp := by
  have hne : (M.S s).kind ≠ 0 := by omega
  obtain ⟨cs, h1, h2⟩ := h.kern
  refine ⟨⟨cs, h1.apart (fun e => h.off s hs hne e.symm) _, h2⟩, fun j hj hkj => ?_, fun j hj hkj => ?_, h.kinds, h.inj, h.cinj, h.off, fun q hq => ?_, h.ph8, fun j hj hkj => ?_, fun j hj hkj => ?_, h.wf⟩
  · change Blk _ (ob j) (obCells j (M.S j) (upd M.ws s ((M.ws s).set i v) j) (cb j))
    by_cases e : j = s
    · subst e
      rw [upd_same]
      have hb := (h.obs j hj hkj).set (3 + i) (.int .i64 v)
      have ec : (obCells j (M.S j) (M.ws j) (cb j)).setIfInBounds (3 + i) (.int .i64 v) = obCells j (M.S j) ((M.ws j).set i v) (cb j) := by
        unfold obCells ints
        rw [if_neg (by omega), if_neg (by omega), if_pos hk, if_neg (by omega), if_neg (by omega), if_pos hk, toArray_set]
        congr 1
        have e3 : 3 + i = i + 1 + 1 + 1 := by omega
        rw [e3]
        simp [List.map_set]
      rw [ec] at hb
      exact hb
    · rw [upd_ne _ _ e]
      exact (h.obs j hj hkj).apart (fun eq => e (h.inj j s hj hs hkj hne eq)) _
  · change (M.S j).kind = 4 at hkj
    change ChanAt _ (cb j) (upd M.ws s ((M.ws s).set i v) j)
    rw [upd_ne _ _ (fun e => by subst e; omega)]
    exact (h.chans j hj hkj).apart ((h.chans j hj hkj).ne (h.obs s hs hne)) _
  · exact (h.quanta q hq).same fun g hg => Below.heap_setCell _ _ _ _ (h.qne hq hg hs hne (by omega))
  · change (upd M.ws s ((M.ws s).set i v) j).length = 8
    by_cases e : j = s
    · subst e
      rw [upd_same, List.length_set]
      exact h.segs j hj hkj
    · rw [upd_ne _ _ e]
      exact h.segs j hj hkj
  · change (M.S j).kind = 4 at hkj
    change (upd M.ws s ((M.ws s).set i v) j).length ≤ 4
    rw [upd_ne _ _ (fun e => by subst e; omega)]
    exact h.ports j hj hkj

theorem KP.putPhase (h : KP w kb M ob cb qp) {n : Nat} (hn : n < 8) : KP (w.setCell ⟨kb, 40, none⟩ (.int .i64 n)) kb { M with ph := n } ob cb qp := by
  obtain ⟨cs, h1, h2, h3, h4, h5⟩ := h.kern
  refine ⟨⟨_, h1.set 40 _, by simpa using h2, fun i hi => ?_, fun q hq => ?_, ?_⟩, fun i hi hk => (h.obs i hi hk).apart (h.off i hi hk) _, fun i hi hk => (h.chans i hi hk).apart ((h.chans i hi hk).ne h1) _, h.kinds, h.inj, h.cinj, h.off, fun q hq => ?_, hn, h.segs, h.ports, h.wf⟩
  · rw [Array.getElem?_setIfInBounds_ne (by omega)]; exact h3 i hi
  · rw [Array.getElem?_setIfInBounds_ne (by omega)]; exact h4 q hq
  · rw [Array.getElem?_setIfInBounds_self_of_lt (by omega)]
  · refine (h.quanta q hq).same fun g hg => Below.heap_setCell _ _ _ _ ?_
    have hQ := h.quanta q hq
    rw [hg] at hQ
    exact hQ.1

/-- An object that is put into a free slot. -/
theorem KP.putNew (h : KP w kb M ob cb qp) {s g c : Nat} (hs : s < 32) (hk : (M.S s).kind = 0) (t : Th) (wt : List Int) (hg : Blk w g (obCells s t wt c)) (hf : ¬ Foot kb M ob cb qp g)
    (ht : t.kind = 1 ∨ t.kind = 2 ∨ t.kind = 3 ∨ t.kind = 4) (hw : t.wf) (h3 : t.kind = 3 → wt.length = 8) (h4 : t.kind = 4 → ChanAt w c wt ∧ (¬ Foot kb M ob cb qp c) ∧ wt.length ≤ 4) :
    KP (w.setCell ⟨kb, s, none⟩ (obV t g)) kb (M.put s t wt) (upd ob s g) (upd cb s c) qp := by
  have hgk : g ≠ kb := fun e => hf (Or.inl e)
  obtain ⟨cs, h1, h2, h3', h4', h5⟩ := h.kern
  refine ⟨⟨_, h1.set s _, by simpa using h2, fun i hi => ?_, fun q hq => ?_, ?_⟩, fun i hi hki => ?_, fun i hi hki => ?_, fun i hi => ?_, fun i j hi hj hki hkj he => ?_, fun i j hi hj hki hkj he => ?_, fun i hi hki => ?_, fun q hq => ?_, h.ph8, fun i hi hki => ?_, fun i hi hki => ?_, fun i hi => ?_⟩
  · change _ = some (obV (upd M.S s t i) (upd ob s g i))
    by_cases e : i = s
    · subst e; rw [Array.getElem?_setIfInBounds_self_of_lt (by omega), upd_same, upd_same]
    · rw [Array.getElem?_setIfInBounds_ne (Ne.symm e), upd_ne _ _ e, upd_ne _ _ e]; exact h3' i hi
  · rw [Array.getElem?_setIfInBounds_ne (by omega)]; exact h4' q hq
  · rw [Array.getElem?_setIfInBounds_ne (by omega)]; exact h5
  · change (upd M.S s t i).kind ≠ 0 at hki
    change Blk _ (upd ob s g i) (obCells i (upd M.S s t i) (upd M.ws s wt i) (upd cb s c i))
    by_cases e : i = s
    · subst e; rw [upd_same, upd_same, upd_same, upd_same]; exact hg.apart hgk _
    · rw [upd_ne _ _ e] at hki
      rw [upd_ne _ _ e, upd_ne _ _ e, upd_ne _ _ e, upd_ne _ _ e]
      exact (h.obs i hi hki).apart (h.off i hi hki) _
  · change (upd M.S s t i).kind = 4 at hki
    change ChanAt _ (upd cb s c i) (upd M.ws s wt i)
    by_cases e : i = s
    · subst e; rw [upd_same] at hki; rw [upd_same, upd_same]; exact (h4 hki).1.apart ((h4 hki).1.ne h1) _
    · rw [upd_ne _ _ e] at hki
      rw [upd_ne _ _ e, upd_ne _ _ e]
      exact (h.chans i hi hki).apart ((h.chans i hi hki).ne h1) _
  · change (upd M.S s t i).kind = 0 ∨ (upd M.S s t i).kind = 1 ∨ (upd M.S s t i).kind = 2 ∨ (upd M.S s t i).kind = 3 ∨ (upd M.S s t i).kind = 4
    by_cases e : i = s
    · subst e; rw [upd_same]; omega
    · rw [upd_ne _ _ e]; exact h.kinds i hi
  · change (upd M.S s t i).kind ≠ 0 at hki
    change (upd M.S s t j).kind ≠ 0 at hkj
    by_cases e : i = s
    · by_cases e' : j = s
      · omega
      · subst e
        rw [upd_same, upd_ne _ _ e'] at he
        rw [upd_ne _ _ e'] at hkj
        exact absurd (Or.inr (Or.inl ⟨j, hj, hkj, he.symm⟩)) hf
    · by_cases e' : j = s
      · subst e'
        rw [upd_same, upd_ne _ _ e] at he
        rw [upd_ne _ _ e] at hki
        exact absurd (Or.inr (Or.inl ⟨i, hi, hki, he⟩)) hf
      · rw [upd_ne _ _ e, upd_ne _ _ e'] at he
        rw [upd_ne _ _ e] at hki
        rw [upd_ne _ _ e'] at hkj
        exact h.inj i j hi hj hki hkj he
  · change (upd M.S s t i).kind = 4 at hki
    change (upd M.S s t j).kind = 4 at hkj
    by_cases e : i = s
    · by_cases e' : j = s
      · omega
      · subst e
        rw [upd_same] at hki
        rw [upd_same, upd_ne _ _ e'] at he
        rw [upd_ne _ _ e'] at hkj
        exact absurd (Or.inr (Or.inr (Or.inl ⟨j, hj, hkj, he.symm⟩))) (h4 hki).2.1
    · by_cases e' : j = s
      · subst e'
        rw [upd_same] at hkj
        rw [upd_same, upd_ne _ _ e] at he
        rw [upd_ne _ _ e] at hki
        exact absurd (Or.inr (Or.inr (Or.inl ⟨i, hi, hki, he⟩))) (h4 hkj).2.1
      · rw [upd_ne _ _ e, upd_ne _ _ e'] at he
        rw [upd_ne _ _ e] at hki
        rw [upd_ne _ _ e'] at hkj
        exact h.cinj i j hi hj hki hkj he
  · change (upd M.S s t i).kind ≠ 0 at hki
    by_cases e : i = s
    · subst e; rw [upd_same]; exact hgk
    · rw [upd_ne _ _ e] at hki
      rw [upd_ne _ _ e]
      exact h.off i hi hki
  · have hQ := h.quanta q hq
    change QOK _ kb (upd M.S s t) (upd ob s g) (qp q) (M.lq q)
    unfold QOK at *
    cases hqp : qp q with
    | none => rw [hqp] at hQ; exact hQ
    | some g' =>
      rw [hqp] at hQ
      obtain ⟨a1, sl, lb, ow, aw, a2, a3, a4⟩ := hQ
      refine ⟨a1, sl, lb, ow, aw, a2, a3.apart a1 _, ?_⟩
      have hgg : g ≠ g' := fun e => hf (Or.inr (Or.inr (Or.inr ⟨q, hq, by rw [hqp, e]⟩)))
      by_cases e : sl = s
      · subst e
        rw [a4, upd_same, upd_same, if_neg (by omega), if_neg (by omega)]
      · rw [a4, upd_ne _ _ e, upd_ne _ _ e]
  · change (upd M.S s t i).kind = 3 at hki
    change (upd M.ws s wt i).length = 8
    by_cases e : i = s
    · subst e; rw [upd_same] at hki; rw [upd_same]; exact h3 hki
    · rw [upd_ne _ _ e] at hki
      rw [upd_ne _ _ e]
      exact h.segs i hi hki
  · change (upd M.S s t i).kind = 4 at hki
    change (upd M.ws s wt i).length ≤ 4
    by_cases e : i = s
    · subst e; rw [upd_same] at hki; rw [upd_same]; exact (h4 hki).2.2
    · rw [upd_ne _ _ e] at hki
      rw [upd_ne _ _ e]
      exact h.ports i hi hki
  · change (upd M.S s t i).wf
    by_cases e : i = s
    · subst e; rw [upd_same]; exact hw
    · rw [upd_ne _ _ e]; exact h.wf i hi

/-- A quantum gets or loses its thread. -/
theorem KP.putTurn (h : KP w kb M ob cb qp) {q : Nat} (hq : q < 8) (t : Option Nat) (ht : ∀ s, t = some s → s < 32 ∧ (M.S s).kind = 2) :
    KP (w.setCell ⟨kb, 32 + q, none⟩ (ptrV (t.map ob))) kb (M.turn q t) ob cb (upd qp q (t.map ob)) := by
  obtain ⟨cs, h1, h2, h3, h4, h5⟩ := h.kern
  have keep : ∀ {o l : Option Nat}, QOK w kb M.S ob o l → QOK (w.setCell ⟨kb, 32 + q, none⟩ (ptrV (t.map ob))) kb M.S ob o l := fun {o l} hQ =>
    hQ.same fun g hg => Below.heap_setCell _ _ _ _ (by subst hg; exact hQ.1)
  refine ⟨⟨_, h1.set (32 + q) _, by simpa using h2, fun i hi => ?_, fun j hj => ?_, ?_⟩, fun i hi hki => (h.obs i hi hki).apart (h.off i hi hki) _, fun i hi hk => (h.chans i hi hk).apart ((h.chans i hi hk).ne h1) _, h.kinds, h.inj, h.cinj, h.off, fun j hj => ?_, h.ph8, h.segs, h.ports, h.wf⟩
  · rw [Array.getElem?_setIfInBounds_ne (by omega)]; exact h3 i hi
  · by_cases e : j = q
    · subst e; rw [Array.getElem?_setIfInBounds_self_of_lt (by omega), upd_same]
    · rw [Array.getElem?_setIfInBounds_ne (by omega), upd_ne _ _ e]; exact h4 j hj
  · rw [Array.getElem?_setIfInBounds_ne (by omega)]; exact h5
  · change QOK _ kb M.S ob (upd qp q (t.map ob) j) (upd M.lq q t j)
    by_cases e : j = q
    · subst e
      rw [upd_same, upd_same]
      cases t with
      | none => exact rfl
      | some s =>
        obtain ⟨hs, hk⟩ := ht s rfl
        have hb := (h.obs s hs (by omega)).apart (h.off s hs (by omega)) (p := ⟨kb, 32 + j, none⟩) (ptrV ((some s).map ob))
        unfold obCells at hb
        rw [if_neg (by omega), if_pos hk] at hb
        exact ⟨h.off s hs (by omega), s, _, _, _, hs, hb, by rw [if_pos ⟨hk, rfl⟩]⟩
    · rw [upd_ne _ _ e, upd_ne _ _ e]
      exact keep (h.quanta j hj)

/-- A thread that falls asleep or is woken. -/
theorem KP.putAwake (h : KP w kb M ob cb qp) {s : Nat} (hs : s < 32) (hk : (M.S s).kind = 2) (v : Bool) :
    KP (w.setCell ⟨ob s, 4, none⟩ (.bool v)) kb (M.awake s v) ob cb qp := by
  have hne : (M.S s).kind ≠ 0 := by omega
  obtain ⟨cs, h1, h2, h3, h4, h5⟩ := h.kern
  have hS : ∀ i, ((M.awake s v).S i).kind = (M.S i).kind ∧ ((M.awake s v).S i).label = (M.S i).label ∧ ((M.awake s v).S i).owns = (M.S i).owns ∧ ((M.awake s v).S i).wf = (M.S i).wf ∧ ∀ g, obV ((M.awake s v).S i) g = obV (M.S i) g := fun i => by
    change (upd M.S s { M.S s with awake := v } i).kind = _ ∧ (upd M.S s { M.S s with awake := v } i).label = _ ∧ (upd M.S s { M.S s with awake := v } i).owns = _ ∧ (upd M.S s { M.S s with awake := v } i).wf = _ ∧ ∀ g, obV (upd M.S s { M.S s with awake := v } i) g = _
    unfold upd; split
    · rename_i e; subst e; exact ⟨rfl, rfl, rfl, rfl, fun _ => rfl⟩
    · exact ⟨rfl, rfl, rfl, rfl, fun _ => rfl⟩
  refine ⟨⟨cs, h1.apart (fun e => h.off s hs hne e.symm) _, h2, fun i hi => by rw [(hS i).2.2.2.2]; exact h3 i hi, h4, h5⟩, fun j hj hkj => ?_, fun j hj hkj => ?_, fun j hj => by rw [(hS j).1]; exact h.kinds j hj, fun i j hi hj hki hkj => h.inj i j hi hj (by rw [← (hS i).1]; exact hki) (by rw [← (hS j).1]; exact hkj),
    fun i j hi hj hki hkj => h.cinj i j hi hj (by rw [← (hS i).1]; exact hki) (by rw [← (hS j).1]; exact hkj), fun i hi hki => h.off i hi (by rw [← (hS i).1]; exact hki), fun q hq => ?_, h.ph8, fun j hj hkj => h.segs j hj (by rw [← (hS j).1]; exact hkj), fun j hj hkj => h.ports j hj (by rw [← (hS j).1]; exact hkj), fun j hj => by rw [(hS j).2.2.2.1]; exact h.wf j hj⟩
  · rw [(hS j).1] at hkj
    by_cases e : j = s
    · subst e
      have hb := (h.obs j hj hkj).set 4 (.bool v)
      have ec : (obCells j (M.S j) (M.ws j) (cb j)).setIfInBounds 4 (.bool v) = obCells j ((M.awake j v).S j) ((M.awake j v).ws j) (cb j) := by
        have e1 : (M.awake j v).S j = { M.S j with awake := v } := upd_same _ _ _
        rw [e1]
        unfold obCells
        rw [if_neg (by omega), if_pos hk]
        dsimp only
        rw [if_neg (by omega), if_pos hk]
        rfl
      rw [ec] at hb
      exact hb
    · have e1 : (M.awake s v).S j = M.S j := upd_ne _ _ e
      rw [e1]
      exact (h.obs j hj hkj).apart (fun eq => e (h.inj j s hj hs hkj hne eq)) _
  · rw [(hS j).1] at hkj
    exact (h.chans j hj hkj).apart ((h.chans j hj hkj).ne (h.obs s hs hne)) _
  · have hQ := h.quanta q hq
    change QOK _ kb (M.awake s v).S ob (qp q) (M.lq q)
    unfold QOK at *
    cases hqp : qp q with
    | none => rw [hqp] at hQ; exact hQ
    | some g =>
      rw [hqp] at hQ
      obtain ⟨a1, sl, lb, ow, aw, a2, a3, a4⟩ := hQ
      by_cases e : g = ob s
      · subst e
        have hb := a3.set 4 (.bool v)
        exact ⟨a1, sl, lb, ow, v, a2, hb, by rw [a4, (hS sl).1]⟩
      · exact ⟨a1, sl, lb, ow, aw, a2, a3.apart e _, by rw [a4, (hS sl).1]⟩

/-- What a port's channel holds turns. -/
theorem KP.putChan {w' : World} (h : KP w kb M ob cb qp) {s : Nat} (hs : s < 32) (hk : (M.S s).kind = 4) (l : List Int) (hl : l.length ≤ 4) (hc : ChanAt w' (cb s) l) (hb : ∀ k, k ≠ cb s → w'.heap[k]? = w.heap[k]?) :
    KP w' kb (M.words s l) ob cb qp := by
  have hC := h.chans s hs hk
  obtain ⟨cs, h1, h2⟩ := h.kern
  refine ⟨⟨cs, h1.same (hb _ (hC.ne h1).symm), h2⟩, fun j hj hkj => ?_, fun j hj hkj => ?_, h.kinds, h.inj, h.cinj, h.off, fun q hq => ?_, h.ph8, fun j hj hkj => ?_, fun j hj hkj => ?_, h.wf⟩
  · change (M.S j).kind ≠ 0 at hkj
    change Blk _ (ob j) (obCells j (M.S j) (upd M.ws s l j) (cb j))
    have hb1 := (h.obs j hj hkj).same (hb _ (hC.ne (h.obs j hj hkj)).symm)
    by_cases e : j = s
    · subst e
      rw [upd_same]
      have ec : obCells j (M.S j) (M.ws j) (cb j) = obCells j (M.S j) l (cb j) := by
        unfold obCells
        rw [if_neg (by omega), if_neg (by omega), if_neg (by omega), if_neg (by omega), if_neg (by omega), if_neg (by omega)]
      rw [ec] at hb1
      exact hb1
    · rw [upd_ne _ _ e]; exact hb1
  · change (M.S j).kind = 4 at hkj
    change ChanAt _ (cb j) (upd M.ws s l j)
    by_cases e : j = s
    · subst e; rw [upd_same]; exact hc
    · rw [upd_ne _ _ e]
      exact (h.chans j hj hkj).same (hb _ (fun eq => e (h.cinj j s hj hs hkj hk eq)))
  · exact (h.quanta q hq).same fun g hg => hb _ (h.qcne hq hg hs hk)
  · change (M.S j).kind = 3 at hkj
    change (upd M.ws s l j).length = 8
    rw [upd_ne _ _ (fun e => by subst e; omega)]
    exact h.segs j hj hkj
  · change (M.S j).kind = 4 at hkj
    change (upd M.ws s l j).length ≤ 4
    by_cases e : j = s
    · subst e; rw [upd_same]; exact hl
    · rw [upd_ne _ _ e]; exact h.ports j hj hkj

/-- A slot that is freed; its channel, if it has one, may have been closed ahead of it. -/
theorem KP.putNil {w' : World} (h : KP w kb M ob cb qp) {s : Nat} (hs : s < 32) (hb : ∀ k, ((M.S s).kind = 4 → k ≠ cb s) → w'.heap[k]? = w.heap[k]?) :
    KP (w'.setCell ⟨kb, s, none⟩ .nilIface) kb (M.clear s) ob cb qp := by
  obtain ⟨cs, h1, h2, h3, h4, h5⟩ := h.kern
  have hkb := h1.same (hb kb (fun hk => ((h.chans s hs hk).ne h1).symm))
  have hS : ∀ i, (M.clear s).S i = if i = s then fth else M.S i := fun i => rfl
  have hW : ∀ i, (M.clear s).ws i = if i = s then [] else M.ws i := fun i => rfl
  have hS1 : ∀ i, i ≠ s → (M.clear s).S i = M.S i := fun i e => by rw [hS, if_neg e]
  have hW1 : ∀ i, i ≠ s → (M.clear s).ws i = M.ws i := fun i e => by rw [hW, if_neg e]
  have hS0 : (M.clear s).S s = fth := by rw [hS, if_pos rfl]
  have hne : ∀ i, ((M.clear s).S i).kind ≠ 0 → i ≠ s ∧ (M.S i).kind ≠ 0 := fun i hk => by
    by_cases e : i = s
    · subst e; rw [hS0] at hk; exact absurd rfl hk
    · rw [hS1 i e] at hk; exact ⟨e, hk⟩
  have hn4 : ∀ i n, n ≠ 0 → ((M.clear s).S i).kind = n → i ≠ s ∧ (M.S i).kind = n := fun i n hn hk => by
    by_cases e : i = s
    · subst e; rw [hS0] at hk; exact absurd hk.symm hn
    · rw [hS1 i e] at hk; exact ⟨e, hk⟩
  refine ⟨⟨_, hkb.set s _, by simpa using h2, fun i hi => ?_, fun q hq => ?_, ?_⟩, fun i hi hki => ?_, fun i hi hki => ?_, fun i hi => ?_, fun i j hi hj hki hkj => h.inj i j hi hj (hne i hki).2 (hne j hkj).2, fun i j hi hj hki hkj => h.cinj i j hi hj (hn4 i 4 (by decide) hki).2 (hn4 j 4 (by decide) hkj).2,
    fun i hi hki => h.off i hi (hne i hki).2, fun q hq => ?_, h.ph8, fun i hi hki => ?_, fun i hi hki => ?_, fun i hi => ?_⟩
  · by_cases e : i = s
    · subst e; rw [Array.getElem?_setIfInBounds_self_of_lt (by omega), hS0]; rfl
    · rw [Array.getElem?_setIfInBounds_ne (Ne.symm e), hS1 i e]; exact h3 i hi
  · rw [Array.getElem?_setIfInBounds_ne (by omega)]; exact h4 q hq
  · rw [Array.getElem?_setIfInBounds_ne (by omega)]; exact h5
  · obtain ⟨e, hk⟩ := hne i hki
    rw [hS1 i e, hW1 i e]
    exact ((h.obs i hi hk).same (hb _ (fun h4 => ((h.chans s hs h4).ne (h.obs i hi hk)).symm))).apart (h.off i hi hk) _
  · obtain ⟨e, hk⟩ := hn4 i 4 (by decide) hki
    rw [hW1 i e]
    exact ((h.chans i hi hk).same (hb _ (fun h4 eq => e (h.cinj i s hi hs hk h4 eq)))).apart ((h.chans i hi hk).ne h1) _
  · by_cases e : i = s
    · subst e; rw [hS0]; exact Or.inl rfl
    · rw [hS1 i e]; exact h.kinds i hi
  · have hQ := h.quanta q hq
    change QOK _ kb (M.clear s).S ob (qp q) ((M.lq q).bind fun t => if t = s then none else some t)
    unfold QOK at *
    cases hqp : qp q with
    | none => rw [hqp] at hQ; dsimp only at hQ; rw [hQ]; rfl
    | some g =>
      rw [hqp] at hQ
      obtain ⟨a1, sl, lb, ow, aw, a2, a3, a4⟩ := hQ
      refine ⟨a1, sl, lb, ow, aw, a2, (a3.same (hb _ (fun h4 => h.qcne hq hqp hs h4))).apart a1 _, ?_⟩
      rw [a4]
      by_cases e : sl = s
      · subst e
        have hr : (if fth.kind = 2 ∧ ob sl = g then some sl else none) = none := if_neg (fun hh => by have := hh.1; cases this)
        rw [hS0, hr]
        split
        · simp
        · rfl
      · rw [hS1 sl e]
        split
        · simp [e]
        · rfl
  · obtain ⟨e, hk⟩ := hn4 i 3 (by decide) hki
    rw [hW1 i e]; exact h.segs i hi hk
  · obtain ⟨e, hk⟩ := hn4 i 4 (by decide) hki
    rw [hW1 i e]; exact h.ports i hi hk
  · by_cases e : i = s
    · subst e; rw [hS0]; exact fth_wf
    · rw [hS1 i e]; exact h.wf i hi
end

end Go.Proofs.Ytloppmepfkkblaa
end

section
/- Communication of a lone goroutine inside the walk: a region whose operations may send, receive or select where nothing waits. Without conditions. -/
open Go Go.Conc
namespace Go.Proofs.Ytloppmepfkkblaa

/-- What a region's operations come to, from the machine's own steps. -/
def SemOps (P : Program) (ops : Array Oper) (Q : Exit → Act → World → Prop) (l : List Nat) (a : Act) (w : World) : Prop :=
  ∀ (b : Frame) (k : List Item) (cs : List Frame), ∃ e a' w', Q e a' w' ∧ Arrives P (lone (b.at a (.inRegion ops l :: k)) cs w) b k cs e a' w'

section
variable {P : Program} {ops : Array Oper} {Q : Exit → Act → World → Prop} {a : Act} {w : World} {i : Nat} {rest : List Nat} {o : Oper}

theorem wp_region_sem {id : Nat} (h : SemOps P ops Q (List.range ops.size) a w) : (Code.region id ops false).wp P Q a w :=
  fun b k cs => let ⟨e, a', w', q, r⟩ := h b k cs; ⟨e, a', w', q, .of_steps (.one step_region) r⟩

theorem sem_nil (h : Q .normal a w) : SemOps P ops Q [] a w := fun _ _ _ => ⟨.normal, a, w, h, .one step_region_end⟩

theorem sem_ops {l : List Nat} (h : wpOps P ops Q l a w) : SemOps P ops Q l a w := wp_ops l a w h

theorem sem_value (ho : ops[i]? = some o) (hw : Region.wanted o (yielded ops a.tmps) = true) {v : Value} {w' : World} (hr : (execOp a.eval o).run P w = .ok (.value v) w')
    (h : SemOps P ops Q rest (a.put o.dst v) w') : SemOps P ops Q (i :: rest) a w := by
  intro b k cs
  obtain ⟨e, a', w'', hq, harr⟩ := h b k cs
  refine ⟨e, a', w'', hq, .of_steps (.one (step_lone_go ?_)) harr⟩
  have hg := stepG_op (P := P) (b := b) (k := k) (cs := cs) (w := w) (rest := rest) ho hw
  have hfin : (b.at a (.inRegion ops (i :: rest) :: k)).finish v = b.at (a.put o.dst v) (.inRegion ops rest :: k) := by
    rw [Frame.finish_at, ho]; rfl
  rw [hg, ← hfin]; simp [stepG.apply, hr]

theorem stepG_comm_any {b : Frame} {k : List Item} {cs : List Frame} {cases : Array CommCase} {blocking : Bool} {shape : CommShape} {w' : World} (ho : ops[i]? = some o) (hw : Region.wanted o (yielded ops a.tmps) = true)
    (hr : (execOp a.eval o).run P w = .ok (.comm cases blocking shape) w') :
    ∃ es, stepG P true (G (b.at a (.inRegion ops (i :: rest) :: k)) cs) w = .comm (G (b.at a (.inRegion ops (i :: rest) :: k)) cs) cases blocking shape w' es := by
  rw [stepG_oper ho hw]
  exact ⟨_, by simp [stepG.apply, hr, G, Frame.at, GStep.after]; rfl⟩

theorem sem_step {v : Value} {w' : World} (hs : ∀ (b : Frame) (k : List Item) (cs : List Frame), step P (solo (G (b.at a (.inRegion ops (i :: rest) :: k)) cs) w) = .next (solo (G ((b.at a (.inRegion ops (i :: rest) :: k)).finish v) cs) w'))
    (ho : ops[i]? = some o) (h : SemOps P ops Q rest (a.put o.dst v) w') : SemOps P ops Q (i :: rest) a w := by
  intro b k cs
  obtain ⟨e, a', w'', hq, harr⟩ := h b k cs
  refine ⟨e, a', w'', hq, .of_steps (.one ?_) harr⟩
  have hfin : (b.at a (.inRegion ops (i :: rest) :: k)).finish v = b.at (a.put o.dst v) (.inRegion ops rest :: k) := by
    rw [Frame.finish_at, ho]; rfl
  have := hs b k cs
  rw [hfin] at this
  exact this

variable {c cap s r : Nat} {buf : Array Value} {z v : Value} {tm closed : Bool}

theorem sem_send (ho : ops[i]? = some o) (hw : Region.wanted o (yielded ops a.tmps) = true) (hr : (execOp a.eval o).run P w = .ok (.comm #[scase c v z] true .send) w)
    (hc : w.heap[c]? = some (.chan cap buf false s r tm)) (hroom : buf.size < cap) (h : SemOps P ops Q rest (a.put o.dst undef) (w.setChan c cap (buf.push v) false (s + 1) r tm)) : SemOps P ops Q (i :: rest) a w :=
  sem_step (fun b k cs => by
    obtain ⟨es, hg⟩ := stepG_comm_any (b := b) (k := k) (cs := cs) (rest := rest) ho hw hr
    exact step_lone_send_room hg hc hroom) ho h

theorem sem_recv (ho : ops[i]? = some o) (hw : Region.wanted o (yielded ops a.tmps) = true) (hr : (execOp a.eval o).run P w = .ok (.comm #[rcase c z] true (.recv false)) w)
    (hc : w.heap[c]? = some (.chan cap buf closed s r tm)) (hsome : 0 < buf.size) (h : SemOps P ops Q rest (a.put o.dst (buf.getD 0 undef)) (w.setChan c cap (buf.extract 1 buf.size) closed s (r + 1) tm)) : SemOps P ops Q (i :: rest) a w :=
  sem_step (fun b k cs => by
    obtain ⟨es, hg⟩ := stepG_comm_any (b := b) (k := k) (cs := cs) (rest := rest) ho hw hr
    exact step_lone_recv_buf false hg hc hsome) ho h

theorem sem_sel_send (ho : ops[i]? = some o) (hw : Region.wanted o (yielded ops a.tmps) = true) (hr : (execOp a.eval o).run P w = .ok (.comm #[scase c v z] false .select) w)
    (hc : w.heap[c]? = some (.chan cap buf false s r tm)) (hroom : buf.size < cap) (h : SemOps P ops Q rest (a.put o.dst (.tuple #[goInt 0, .bool false])) (w.setChan c cap (buf.push v) false (s + 1) r tm)) : SemOps P ops Q (i :: rest) a w :=
  sem_step (v := .tuple #[goInt 0, .bool false]) (fun b k cs => by
    obtain ⟨es, hg⟩ := stepG_comm_any (b := b) (k := k) (cs := cs) (rest := rest) ho hw hr
    have := step_lone_sel_send_room (k := 0) hg rfl (fun m c' hm hc' => by
      rcases m with _ | m
      · exact absurd rfl hm
      · simp at hc') hc hroom
    have e : commResult #[scase c v z] .select ((0 : Nat) : Int) undef false = .tuple #[goInt 0, .bool false] := by
      simp [commResult, scase, List.zipIdx_cons]
    rw [e] at this
    exact this) ho h

theorem sem_sel_full (ho : ops[i]? = some o) (hw : Region.wanted o (yielded ops a.tmps) = true) (hr : (execOp a.eval o).run P w = .ok (.comm #[scase c v z] false .select) w)
    (hc : w.heap[c]? = some (.chan cap buf false s r tm)) (hfull : cap ≤ buf.size) (h : SemOps P ops Q rest (a.put o.dst (.tuple #[goInt (-1), .bool false])) w) : SemOps P ops Q (i :: rest) a w :=
  sem_step (v := .tuple #[goInt (-1), .bool false]) (fun b k cs => by
    obtain ⟨es, hg⟩ := stepG_comm_any (b := b) (k := k) (cs := cs) (rest := rest) ho hw hr
    have := step_lone_sel_default hg (fun cc hcc => by
      simp only [List.mem_toArray, List.mem_cons, List.not_mem_nil, or_false] at hcc
      subst hcc
      exact noWay_send hc hfull)
    have e : commResult #[scase c v z] .select (-1) undef false = .tuple #[goInt (-1), .bool false] := by
      simp [commResult, scase, List.zipIdx_cons]
    rw [e] at this
    exact this) ho h

theorem sem_sel_recv (ho : ops[i]? = some o) (hw : Region.wanted o (yielded ops a.tmps) = true) (hr : (execOp a.eval o).run P w = .ok (.comm #[rcase c z] false .select) w)
    (hc : w.heap[c]? = some (.chan cap buf closed s r tm)) (hsome : 0 < buf.size) (h : SemOps P ops Q rest (a.put o.dst (.tuple #[goInt 0, .bool true, buf.getD 0 undef])) (w.setChan c cap (buf.extract 1 buf.size) closed s (r + 1) tm)) : SemOps P ops Q (i :: rest) a w :=
  sem_step (v := .tuple #[goInt 0, .bool true, buf.getD 0 undef]) (fun b k cs => by
    obtain ⟨es, hg⟩ := stepG_comm_any (b := b) (k := k) (cs := cs) (rest := rest) ho hw hr
    have := step_lone_sel_recv_buf (k := 0) hg rfl (fun m c' hm hc' => by
      rcases m with _ | m
      · exact absurd rfl hm
      · simp at hc') hc hsome
    have e : commResult #[rcase c z] .select ((0 : Nat) : Int) (buf.getD 0 undef) true = .tuple #[goInt 0, .bool true, buf.getD 0 undef] := by
      simp [commResult, rcase, List.zipIdx_cons]
    rw [e] at this
    exact this) ho h

theorem sem_sel_empty (ho : ops[i]? = some o) (hw : Region.wanted o (yielded ops a.tmps) = true) (hr : (execOp a.eval o).run P w = .ok (.comm #[rcase c z] false .select) w)
    (hc : w.heap[c]? = some (.chan cap #[] false s r tm)) (h : SemOps P ops Q rest (a.put o.dst (.tuple #[goInt (-1), .bool false, z])) w) : SemOps P ops Q (i :: rest) a w :=
  sem_step (v := .tuple #[goInt (-1), .bool false, z]) (fun b k cs => by
    obtain ⟨es, hg⟩ := stepG_comm_any (b := b) (k := k) (cs := cs) (rest := rest) ho hw hr
    have := step_lone_sel_default hg (fun cc hcc => by
      simp only [List.mem_toArray, List.mem_cons, List.not_mem_nil, or_false] at hcc
      subst hcc
      exact noWay_recv hc)
    have e : commResult #[rcase c z] .select (-1) undef false = .tuple #[goInt (-1), .bool false, z] := by
      simp [commResult, rcase, List.zipIdx_cons]
    rw [e] at this
    exact this) ho h

/-- A region, its first operation apart. -/
theorem wp_region_head {id : Nat} {rl : List Oper} (h : SemOps P (o :: rl).toArray Q (0 :: List.range' 1 rl.length) a w) : (Code.region id (o :: rl).toArray false).wp P Q a w := by
  refine wp_region_sem ?_
  have e : List.range (o :: rl).toArray.size = 0 :: List.range' 1 rl.length := by
    simp [List.range_eq_range', List.range'_succ]
  rw [e]
  exact h

/-- What is left of it, by the walk. -/
theorem sem_rest {rl : List Oper} (h : wpList P (o :: rl).toArray Q rl a w) : SemOps P (o :: rl).toArray Q (List.range' 1 rl.length) a w := by
  refine sem_ops ?_
  rw [wpOps_eq_wpList rl 1 (fun j => by simp [Nat.add_comm 1 j])]
  exact h
end

end Go.Proofs.Ytloppmepfkkblaa
end
