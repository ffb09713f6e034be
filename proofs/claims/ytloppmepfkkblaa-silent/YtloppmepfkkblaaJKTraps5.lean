/- What the program's traps 15 and 16 do: Send and Receive. -/
import Derived.Test.YtloppmepfkkblaaJKPutToKTraps3
open Go Go.Conc Go.Proofs Go.RowKit
namespace Go.Proofs.Ytloppmepfkkblaa

section
variable {w w' : World} {rb kb : Nat} {M : MS} {ob cb : Nat → Nat} {qp : Nat → Option Nat} {me : Nat}

theorem ints_size (l : List Int) : (ints l).toArray.size = l.length := by simp [ints]
theorem ints_push (l : List Int) (v : Int) : (ints l).toArray.push (.int .i64 v) = (ints (l ++ [v])).toArray := by simp [ints]
theorem ints_tail (l : List Int) : (ints l).toArray.extract 1 (ints l).toArray.size = (ints l.tail).toArray := by
  cases l with
  | nil => simp [ints]
  | cons x l =>
    simp [ints]
    exact List.take_of_length_le (by simp)
theorem ints_head (x : Int) (l : List Int) : (ints (x :: l)).toArray.getD 0 undef = .int .i64 x := by simp [ints]

theorem chan_other (w : World) (c : Nat) (buf : Array Value) (cl : Bool) (s r : Nat) (k : Nat) (h : k ≠ c) : (w.setChan c 4 buf cl s r false).heap[k]? = w.heap[k]? := by
  simp only [World.setChan]
  rw [Array.getElem?_setIfInBounds_ne (Ne.symm h)]

theorem words_done {w1 : World} {p : Nat × Int} (HL : Left w w1 rb kb M ob cb qp me p) {s : Nat} (hs : s < 32) (hk : (M.S s).kind = 4) (l : List Int) (hl : l.length ≤ 4) (a b : Nat) :
    TrapDone w (w1.setChan (cb s) 4 (ints l).toArray false a b false) rb kb M (M.words s l) ob cb qp me p.1 := by
  have hlt := (HL.1.pk.chans s hs hk).lt
  refine TrapDone.of HL (F := fun k => k = cb s) ⟨rfl, rfl, rfl, by simp [World.setChan], fun k _ hk => chan_other _ _ _ _ _ _ _ hk⟩ (fun k hk' => Or.inr (Or.inr (Or.inl ⟨s, hs, hk, hk'.symm⟩))) (ob' := ob) (cb' := cb) (qp' := qp) ?_ (fun k hk => Or.inl hk)
  exact HL.1.pk.putChan hs hk l hl ⟨a, b, heap_setChan _ _ _ _ _ _ _ _ hlt⟩ (fun k hk => chan_other _ _ _ _ _ _ _ hk)

set_option maxRecDepth 100000 in
set_option maxHeartbeats 4000000 in
theorem t_send (h : QK w rb kb M ob cb qp me 0) (s : Nat) (x : Int) (lb lo cap : Nat) (hs : s < 32) (hd : deep M.S DEEP s) (ha : Arg w lb lo [(s : Int), x]) (hab : lb ≠ rb) :
    TrapC 47 #[.pointer (some ⟨rb, 0, none⟩), .slice (some ⟨lb, lo, none⟩) 2 cap] w rb kb M ob cb qp me (mSend M.S (M.S me).owns (M.S me).label s (M.ws s).length) 0 (if 4 ≤ (M.ws s).length then M else M.words s (M.ws s ++ [x])) := by
  have l0 := ha.c0
  have HA := hide ha
  have RA := hide (findToWrite_any h DEEP s hs hd)
  have hk14 := fun hk => h.pk.kind14 hs hk
  have HLs := hide (h.pk.wf s hs).2.2.2.2.1
  have HLm := hide h.label
  unfold mSend
  change TrapC _ _ _ _ _ _ _ _ _ _ ((fun p => if 4 ≤ (M.ws s).length ∧ sub (M.S s).label (M.S me).label = true then failed 8 p else p) (kindF M.S s 4 (chk (M.S me).owns (M.S me).label (M.S s).label (findF M.S (M.S me).owns (M.S me).label DEEP s (0, 0))))) _ _
  have HPL := hide (h.pk.ports s hs)
  clear h ha hd
  generalize chk (M.S me).owns (M.S me).label (M.S s).label (findF M.S (M.S me).owns (M.S me).label DEEP s (0, 0)) = pp at *
  dsimp only
  by_cases he : pp.2 = 0
  rotate_left
  · have e1 : (if 4 ≤ (M.ws s).length ∧ sub (M.S s).label (M.S me).label = true then failed 8 (kindF M.S s 4 pp) else kindF M.S s 4 pp) = pp := by
      rw [kindF_of he, failed_err he]; split <;> rfl
    rw [e1]
    refine TrapC.no he ?_
    clear hk14 e1
    go_enter Try.func47, Try.ntmps47
    generalize hR : Code.region 9 _ _ = R
    go_wp2_with fail
    refine RA.out.mono ?_
    rintro e w1 ⟨v, rfl, -, hv, h1⟩
    rcases hv with rfl | rfl
    · go_wp2_with fail
      go_ret2
      exact ⟨rfl, h1⟩
    · generalize tyOf (M.S s).kind = T at *
      go_wp2_with fail
      go_ret2
      exact ⟨rfl, h1⟩
  have HE := hide he
  by_cases hk4 : (M.S s).kind = 4
  rotate_left
  · have e1 : (if 4 ≤ (M.ws s).length ∧ sub (M.S s).label (M.S me).label = true then failed 8 (kindF M.S s 4 pp) else kindF M.S s 4 pp) = (pp.1, 6) := by
      rw [kindF_no he hk4, failed_err (by simp)]; split <;> rfl
    rw [e1]
    refine TrapC.no (by simp) ?_
    have hta : Hid ((M.S s).kind ≠ 0 → ∀ w, (Instr.typeAssert (.iface (tyOf (M.S s).kind) (.pointer (some ⟨ob s, 0, none⟩))) 61 118 true).run Try.prog w = .ok (.tuple #[.pointer none, .bool false]) w) := fun hk w => ta_port_no w (ob s) (M.S s).kind (hk14 hk) hk4
    clear he hk4 hk14 e1
    generalize tyOf (M.S s).kind = T at *
    go_enter Try.func47, Try.ntmps47
    generalize hR : Code.region 9 _ _ = R
    go_wp2_with fail
    refine RA.out.mono ?_
    rintro e w1 ⟨v, rfl, hv, -, h1⟩
    obtain ⟨rfl, hk⟩ := hv HE.out
    rw [HE.out]
    have hta' := hta.out hk
    clear hv hk
    go_wp2_with fail
    go_ret2
    exact ⟨rfl, h1⟩
  rw [kindF_yes hk4]
  have HK4 := hide hk4
  have hta := fun w => ta_port_port w (ob s)
  rw [hk4, tyOf4] at RA
  by_cases hfull : 4 ≤ (M.ws s).length
  rotate_left
  · have HNF := hide hfull
    rw [if_neg (fun hh => hfull hh.1), if_neg hfull]
    refine TrapC.yes he ?_
    clear he hk4 hk14 hfull
    go_enter Try.func47, Try.ntmps47
    generalize hR : Code.region 9 _ _ = R
    go_wp2_with fail
    refine RA.out.mono ?_
    rintro e w1 ⟨v, rfl, hv, -, h1⟩
    obtain ⟨rfl, -⟩ := hv HE.out
    rw [HE.out]
    have HA1 := HA.out.fr h1.2 hab
    have m1 := HA1.c1
    have q0 := h1.1.pk.chan hs HK4.out
    obtain ⟨sn, rn, hch⟩ := h1.1.pk.chans s hs HK4.out
    have H1 := hide h1
    clear h1 l0 HA1 hv
    go_wp2_with fail
    subst hR
    refine wp_region_head ?_
    refine sem_sel_send rfl rfl (v := .int .i64 x) (z := .int .i64 0) (c := cb s) (by simp [go_sem, execOp, scase, Act.eval]) hch (by rw [ints_size]; have := HNF.out; omega) ?_
    rw [ints_push]
    have fin := hide (words_done H1.out hs HK4.out (M.ws s ++ [x]) (by have := HNF.out; simp; omega) (sn + 1) rn)
    generalize w1.setChan (cb s) 4 (ints (M.ws s ++ [x])).toArray false (sn + 1) rn false = W at *
    refine sem_rest ?_
    go_wp2_with fail
    go_ret2
    exact ⟨rfl, fin.out⟩
  have HF := hide hfull
  rw [if_pos hfull]
  have HW := hide (fun w => kwithin w (M.S s).label (M.S me).label HLs.out HLm.out)
  have post : Hid (∀ W, Left w W rb kb M ob cb qp me pp → ∀ Z, Below W.heap.size W Z → Left w Z rb kb M ob cb qp me pp) := fun W hW Z hb => ⟨hW.1.below hb, hW.2.trans (Fr.of_below hb)⟩
  by_cases hsb : sub (M.S s).label (M.S me).label = true
  · rw [if_pos ⟨hfull, hsb⟩, failed_ok he]
    rw [hsb] at HW
    refine TrapC.no (by simp) ?_
    clear he hk4 hk14 hfull hsb
    go_enter Try.func47, Try.ntmps47
    generalize hR : Code.region 9 _ _ = R
    go_wp2_with fail
    refine RA.out.mono ?_
    rintro e w1 ⟨v, rfl, hv, -, h1⟩
    obtain ⟨rfl, -⟩ := hv HE.out
    rw [HE.out]
    have HA1 := HA.out.fr h1.2 hab
    have m1 := HA1.c1
    have q0 := h1.1.pk.chan hs HK4.out
    obtain ⟨sn, rn, hch⟩ := h1.1.pk.chans s hs HK4.out
    have H1 := hide h1
    clear h1 l0 HA1 hv
    go_wp2_with fail
    subst hR
    refine wp_region_head ?_
    refine sem_sel_full rfl rfl (v := .int .i64 x) (z := .int .i64 0) (c := cb s) (by simp [go_sem, execOp, scase, Act.eval]) hch (by rw [ints_size]; exact HF.out) ?_
    refine sem_rest ?_
    obtain ⟨-, c1', -⟩ := H1.out.1.cells
    have c1 := later_cell c1' H1.out.1.lt
    obtain ⟨d0', d1', d2'⟩ := H1.out.1.mine
    obtain ⟨b0', b1', b2'⟩ := H1.out.1.pk.base hs (by have := HK4.out; omega)
    have hl1 := H1.out.1.pk.oblt H1.out.1.me32 (by have := H1.out.1.mek; omega)
    have hl2 := H1.out.1.pk.oblt hs (by have := HK4.out; omega)
    have d0 := later_cell d0' hl1
    have d1 := later_cell d1' hl1
    have d2 := later_cell d2' hl1
    have b0 := later_cell b0' hl2
    have b1 := later_cell b1' hl2
    have b2 := later_cell b2' hl2
    clear c1' d0' d1' d2' b0' b1' b2' hl1 hl2 hch m1 q0
    go_wp2_with fail
    have hne : Nonempty (Later w1) := ⟨⟨w1, Below.refl _ _⟩⟩
    refine wp_region_later (by kernel_rfl) (by kernel_rfl) ?_
    repeat (go_big_quiet_step ((first | (go_at_call 26; exact Calls.later_of (labelOf_any _ _ _ _)) | (go_at_call 50; exact Calls.later_of (HW.out _)))))
    refine wpQuiet_nil ?_
    rintro _ ⟨wl, rfl⟩
    clear hne
    go_wp2_with fail
    go_ret2
    exact ⟨rfl, post.out _ H1.out _ wl.2⟩
  · rw [if_neg (fun hh => hsb hh.2)]
    rw [Bool.eq_false_iff.2 hsb] at HW
    refine TrapC.yes he ?_
    clear he hk4 hk14 hfull hsb
    go_enter Try.func47, Try.ntmps47
    generalize hR : Code.region 9 _ _ = R
    go_wp2_with fail
    refine RA.out.mono ?_
    rintro e w1 ⟨v, rfl, hv, -, h1⟩
    obtain ⟨rfl, -⟩ := hv HE.out
    rw [HE.out]
    have HA1 := HA.out.fr h1.2 hab
    have m1 := HA1.c1
    have q0 := h1.1.pk.chan hs HK4.out
    obtain ⟨sn, rn, hch⟩ := h1.1.pk.chans s hs HK4.out
    have H1 := hide h1
    clear h1 l0 HA1 hv
    go_wp2_with fail
    subst hR
    refine wp_region_head ?_
    refine sem_sel_full rfl rfl (v := .int .i64 x) (z := .int .i64 0) (c := cb s) (by simp [go_sem, execOp, scase, Act.eval]) hch (by rw [ints_size]; exact HF.out) ?_
    refine sem_rest ?_
    obtain ⟨-, c1', -⟩ := H1.out.1.cells
    have c1 := later_cell c1' H1.out.1.lt
    obtain ⟨d0', d1', d2'⟩ := H1.out.1.mine
    obtain ⟨b0', b1', b2'⟩ := H1.out.1.pk.base hs (by have := HK4.out; omega)
    have hl1 := H1.out.1.pk.oblt H1.out.1.me32 (by have := H1.out.1.mek; omega)
    have hl2 := H1.out.1.pk.oblt hs (by have := HK4.out; omega)
    have d0 := later_cell d0' hl1
    have d1 := later_cell d1' hl1
    have d2 := later_cell d2' hl1
    have b0 := later_cell b0' hl2
    have b1 := later_cell b1' hl2
    have b2 := later_cell b2' hl2
    clear c1' d0' d1' d2' b0' b1' b2' hl1 hl2 hch m1 q0
    go_wp2_with fail
    have hne : Nonempty (Later w1) := ⟨⟨w1, Below.refl _ _⟩⟩
    refine wp_region_later (by kernel_rfl) (by kernel_rfl) ?_
    repeat (go_big_quiet_step ((first | (go_at_call 26; exact Calls.later_of (labelOf_any _ _ _ _)) | (go_at_call 50; exact Calls.later_of (HW.out _)))))
    refine wpQuiet_nil ?_
    rintro _ ⟨wl, rfl⟩
    clear hne
    go_wp2_with fail
    go_ret2
    exact ⟨rfl, (post.out _ H1.out _ wl.2).done⟩

set_option maxRecDepth 100000 in
set_option maxHeartbeats 4000000 in
theorem t_receive (h : QK w rb kb M ob cb qp me 0) (s lb lo cap : Nat) (hs : s < 32) (hd : deep M.S DEEP s) (ha : Arg w lb lo [(s : Int)]) :
    TrapC 48 #[.pointer (some ⟨rb, 0, none⟩), .slice (some ⟨lb, lo, none⟩) 1 cap] w rb kb M ob cb qp me (mRecv M.S (M.S me).owns (M.S me).label s (M.ws s).length) ((M.ws s).getD 0 0) (M.words s (M.ws s).tail) := by
  have l0 := ha.c0
  have RA := hide (findToRead_any h DEEP s hs hd)
  have hk14 := fun hk => h.pk.kind14 hs hk
  unfold mRecv
  change TrapC _ _ _ _ _ _ _ _ _ _ ((fun p => if (M.ws s).length = 0 then failed 9 p else p) (kindF M.S s 4 (chk (M.S me).owns (M.S me).label (M.S s).label (chk (M.S me).owns (M.S s).label (M.S me).label (findF M.S (M.S me).owns (M.S me).label DEEP s (0, 0)))))) _ _
  have HPL := hide (h.pk.ports s hs)
  have HMW := hide (fun w1 u1 (h1 : QK w1 rb kb M ob cb qp me u1) hk => mayWrite_any h1 s hs hk)
  clear h ha hd
  generalize chk (M.S me).owns (M.S s).label (M.S me).label (findF M.S (M.S me).owns (M.S me).label DEEP s (0, 0)) = p1 at *
  dsimp only
  by_cases e1 : p1.2 = 0
  rotate_left
  · have ee : (if (M.ws s).length = 0 then failed 9 (kindF M.S s 4 (chk (M.S me).owns (M.S me).label (M.S s).label p1)) else kindF M.S s 4 (chk (M.S me).owns (M.S me).label (M.S s).label p1)) = p1 := by
      rw [chk_err e1, kindF_of e1, failed_err e1]; split <;> rfl
    rw [ee]
    refine TrapC.no e1 ?_
    clear hk14 ee HMW
    go_enter Try.func48, Try.ntmps48
    generalize hR : Code.region 11 _ _ = R
    go_wp2_with fail
    refine RA.out.mono ?_
    rintro e w1 ⟨v, rfl, -, hv, h1⟩
    rcases hv with rfl | rfl
    · go_wp2_with fail
      go_ret2
      exact ⟨rfl, h1⟩
    · generalize tyOf (M.S s).kind = T at *
      go_wp2_with fail
      go_ret2
      exact ⟨rfl, h1⟩
  have HE1 := hide e1
  have HMW2 : Hid ((M.S s).kind ≠ 0 → ∀ w1, QK w1 rb kb M ob cb qp me p1.1 → Calls Try.prog 65 #[.pointer (some ⟨rb, 0, none⟩), .iface (tyOf (M.S s).kind) (.pointer (some ⟨ob s, 0, none⟩))] w1 fun e w' => e = .returned (.int .i64 (chk (M.S me).owns (M.S me).label (M.S s).label p1).2) ∧ Left w1 w' rb kb M ob cb qp me (chk (M.S me).owns (M.S me).label (M.S s).label p1)) := fun hk w1 h1 => by
    have := HMW.out _ _ h1 hk
    rw [pair_eq e1] at this
    exact this
  clear HMW e1
  generalize chk (M.S me).owns (M.S me).label (M.S s).label p1 = pp at *
  by_cases he : pp.2 = 0
  rotate_left
  · have ee : (if (M.ws s).length = 0 then failed 9 (kindF M.S s 4 pp) else kindF M.S s 4 pp) = pp := by
      rw [kindF_of he, failed_err he]; split <;> rfl
    rw [ee]
    refine TrapC.no he ?_
    clear hk14 ee
    generalize tyOf (M.S s).kind = T at *
    go_enter Try.func48, Try.ntmps48
    generalize hR : Code.region 11 _ _ = R
    go_wp2_with fail
    refine RA.out.mono ?_
    rintro e w1 ⟨v, rfl, hv, -, h1, g1⟩
    obtain ⟨rfl, hk⟩ := hv HE1.out
    rw [HE1.out]
    have H1 := hide h1
    have G1 := hide g1
    have HK := hide hk
    clear h1 g1 hv hk
    go_wp2_with fail
    refine (HMW2.out HK.out _ H1.out).mono ?_
    rintro e w2 ⟨rfl, h2, g2⟩
    go_wp2_with fail
    go_ret2
    exact ⟨rfl, h2, G1.out.trans g2⟩
  have HE := hide he
  rw [he] at HMW2
  by_cases hk4 : (M.S s).kind = 4
  rotate_left
  · have ee : (if (M.ws s).length = 0 then failed 9 (kindF M.S s 4 pp) else kindF M.S s 4 pp) = (pp.1, 6) := by
      rw [kindF_no he hk4, failed_err (by simp)]; split <;> rfl
    rw [ee]
    refine TrapC.no (by simp) ?_
    have hta : Hid ((M.S s).kind ≠ 0 → ∀ w, (Instr.typeAssert (.iface (tyOf (M.S s).kind) (.pointer (some ⟨ob s, 0, none⟩))) 61 118 true).run Try.prog w = .ok (.tuple #[.pointer none, .bool false]) w) := fun hk w => ta_port_no w (ob s) (M.S s).kind (hk14 hk) hk4
    clear he hk4 hk14 ee
    generalize tyOf (M.S s).kind = T at *
    go_enter Try.func48, Try.ntmps48
    generalize hR : Code.region 11 _ _ = R
    go_wp2_with fail
    refine RA.out.mono ?_
    rintro e w1 ⟨v, rfl, hv, -, h1, g1⟩
    obtain ⟨rfl, hk⟩ := hv HE1.out
    rw [HE1.out]
    have H1 := hide h1
    have G1 := hide g1
    have HK := hide hk
    have hta' := hta.out hk
    clear h1 g1 hv hk
    go_wp2_with fail
    refine (HMW2.out HK.out _ H1.out).mono ?_
    rintro e w2 ⟨rfl, h2, g2⟩
    go_wp2_with fail
    go_ret2
    exact ⟨rfl, h2, G1.out.trans g2⟩
  rw [kindF_yes hk4]
  have HK4 := hide hk4
  have hta := fun w => ta_port_port w (ob s)
  rw [hk4, tyOf4] at RA HMW2
  cases hws : M.ws s with
  | nil =>
    rw [if_pos (show ([] : List Int).length = 0 from rfl), failed_ok he]
    refine TrapC.no (by simp) ?_
    have HWS := hide hws
    clear he hk4 hk14 hws
    go_enter Try.func48, Try.ntmps48
    generalize hR : Code.region 11 _ _ = R
    go_wp2_with fail
    refine RA.out.mono ?_
    rintro e w1 ⟨v, rfl, hv, -, h1, g1⟩
    obtain ⟨rfl, -⟩ := hv HE1.out
    rw [HE1.out]
    have H1 := hide h1
    have G1 := hide g1
    clear h1 g1 hv
    go_wp2_with fail
    refine (HMW2.out (by decide) _ H1.out).mono ?_
    rintro e w2 ⟨rfl, h2, g2⟩
    have H2 : Hid (Left w w2 rb kb M ob cb qp me pp) := ⟨h2, G1.out.trans g2⟩
    have q0 := h2.pk.chan hs HK4.out
    obtain ⟨sn, rn, hch⟩ := h2.pk.chans s hs HK4.out
    rw [HWS.out] at hch
    clear h2 g2 l0
    go_wp2_with fail
    subst hR
    refine wp_region_head ?_
    refine sem_sel_empty rfl rfl (z := .int .i64 0) (c := cb s) (by simp [go_sem, execOp, rcase, Act.eval]) hch ?_
    refine sem_rest ?_
    clear hch q0
    go_wp2_with fail
    go_ret2
    exact ⟨rfl, H2.out⟩
  | cons x l =>
    rw [if_neg (by simp)]
    refine TrapC.yes he ?_
    have HWS := hide hws
    have HLL : Hid ((x :: l).length ≤ 4) := by have := HPL.out hk4; rw [hws] at this; exact this
    clear he hk4 hk14 hws
    go_enter Try.func48, Try.ntmps48
    generalize hR : Code.region 11 _ _ = R
    go_wp2_with fail
    refine RA.out.mono ?_
    rintro e w1 ⟨v, rfl, hv, -, h1, g1⟩
    obtain ⟨rfl, -⟩ := hv HE1.out
    rw [HE1.out]
    have H1 := hide h1
    have G1 := hide g1
    clear h1 g1 hv
    go_wp2_with fail
    refine (HMW2.out (by decide) _ H1.out).mono ?_
    rintro e w2 ⟨rfl, h2, g2⟩
    have H2 : Hid (Left w w2 rb kb M ob cb qp me pp) := ⟨h2, G1.out.trans g2⟩
    have q0 := h2.pk.chan hs HK4.out
    obtain ⟨sn, rn, hch⟩ := h2.pk.chans s hs HK4.out
    rw [HWS.out] at hch
    clear h2 g2 l0
    go_wp2_with fail
    subst hR
    refine wp_region_head ?_
    refine sem_sel_recv rfl rfl (z := .int .i64 0) (c := cb s) (by simp [go_sem, execOp, rcase, Act.eval]) hch (by rw [ints_size]; simp) ?_
    rw [ints_tail, ints_head]
    have fin := hide (words_done H2.out hs HK4.out (x :: l).tail (by have := HLL.out; simp at this ⊢; omega) sn (rn + 1))
    generalize w2.setChan (cb s) 4 (ints (x :: l).tail).toArray false sn (rn + 1) false = W at *
    clear hch q0
    refine sem_rest ?_
    go_wp2_with fail
    go_ret2
    exact ⟨rfl, fin.out⟩
end

end Go.Proofs.Ytloppmepfkkblaa
