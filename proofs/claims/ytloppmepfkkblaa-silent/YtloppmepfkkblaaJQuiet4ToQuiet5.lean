/- A trap of one who is heard tells the same in both, and leaves both alike. Without conditions. -/
import Derived.Test.YtloppmepfkkblaaJQuiet0ToQuiet3

section
open Go Go.RowKit
namespace Go.Proofs.Ytloppmepfkkblaa

section
variable {l : Nat} {M N : MS}

theorem alike_put2 (A : Alike l M N) (hM : MInv M) (hN : MInv N) {s : Nat} (hs : Same l M N s) (hk : (M.S s).kind = 0) {t : Th} (ht : t.kind ≠ 1) (ws : List Int) : Alike l (M.put s t ws) (N.put s t ws) := by
  have hk' : (N.S s).kind = 0 := by rw [hs.kind]; exact hk
  refine ⟨A.ph, fun x hx => ?_, fun q hq => ?_⟩
  · rw [obsS_put hM hk ht, obsS_put hN hk' ht, hs.tell, A.slot x hx]
  · rw [obsQ_put hM hk ht, obsQ_put hN hk' ht, A.quan q hq]
theorem alike_words2 (A : Alike l M N) {s : Nat} (hs : Same l M N s) {ws ws' : List Int} (hw : sub (M.S s).label l = true → ws' = ws) : Alike l (M.words s ws) (N.words s ws') := by
  refine ⟨A.ph, fun x hx => ?_, fun q hq => A.quan q hq⟩
  rw [obsS_words, obsS_words, hs.tell, A.slot x hx, hs.core]
  have : innerT l (N.S s) ws' = innerT l (M.S s) ws := by
    unfold innerT
    rw [hs.label, hs.kind]
    by_cases hx : sub (M.S s).label l = true
    · rw [if_pos hx, if_pos hx, hw hx]
      by_cases hk : (M.S s).kind = 2
      · obtain ⟨e1, e2⟩ := (hs.known hx).1 hk
        rw [e1, e2]
      · simp only [if_neg hk]
    · rw [if_neg hx, if_neg hx]
  rw [this]
theorem alike_awake2 (A : Alike l M N) {s : Nat} (hs : Same l M N s) (hk : (M.S s).kind = 2) (v : Bool) : Alike l (M.awake s v) (N.awake s v) := by
  have hk' : (N.S s).kind = 2 := by rw [hs.kind]; exact hk
  refine ⟨A.ph, fun x hx => ?_, fun q hq => ?_⟩
  · rw [obsS_awake hk, obsS_awake hk', hs.tell, A.slot x hx, hs.core]
    have : innerT l { N.S s with awake := v } (N.ws s) = innerT l { M.S s with awake := v } (M.ws s) := by
      unfold innerT
      dsimp only
      rw [hs.label, hs.kind]
      by_cases hx : sub (M.S s).label l = true
      · obtain ⟨e1, e2⟩ := hs.known hx
        rw [if_pos hx, if_pos hx, (e1 hk).1, e2]
      · rw [if_neg hx, if_neg hx]
    rw [this]
  · rw [obsQ_awake hk, obsQ_awake hk', A.quan q hq]
theorem alike_turn2 (A : Alike l M N) {q c : Nat} (h1 : has M.S q = some c) (h2 : has N.S q = some c) (h3 : sub (M.S c).label l = true) (h4 : sub (N.S c).label l = true) {t : Option Nat} (ht : ∀ u, t = some u → (N.S u).label = (M.S u).label) : Alike l (M.turn q t) (N.turn q t) := by
  refine ⟨A.ph, fun x hx => A.slot x hx, fun i hi => ?_⟩
  rw [obsQ_turn, obsQ_turn, A.quan i hi, h1, h2]
  dsimp only
  rw [if_pos h3, if_pos h4]
  cases t with
  | none => rfl
  | some u =>
    dsimp only
    rw [ht u rfl]
theorem alike_cont2 (A : Alike l M N) (hM : MInv M) (hN : MInv N) {s c lb a e g k : Nat} (hT : Tree (upd M.S s (contT lb a e g k))) (hT' : Tree (upd N.S s (contT lb a e g k))) (hs32 : s < 32) (hs : Same l M N s) (hk : (M.S s).kind = 0) (hr : Roomy M.S c s a e g k) (hr' : Roomy N.S c s a e g k) :
    Alike l ((M.put s (contT lb a e g k) []).idle g k) ((N.put s (contT lb a e g k) []).idle g k) := by
  have hk' : (N.S s).kind = 0 := by rw [hs.kind]; exact hk
  refine ⟨A.ph, fun x hx => ?_, fun q hq => ?_⟩
  · rw [obsS_cont hM hT hs32 hk hr, obsS_cont hN hT' hs32 hk' hr', hs.tell, A.slot x hx]
  · rw [obsQ_cont hM hT hs32 hk hr, obsQ_cont hN hT' hs32 hk' hr', A.quan q hq]

theorem gone_quan (h : MInv M) {s cc : Nat} (hs : s < 32) (hs0 : s ≠ 0) (hl : lies M.S s = some cc) {q : Nat} (h8 : q < 8) :
    obsQ (M.gone s) l q = if (M.S s).kind = 1 ∧ (M.S s).G ≤ q ∧ (q : Int) < (M.S s).H then (if sub (M.S cc).label l = true then some (cc, none) else none) else (obsQ M l q).map fun x => (x.1, x.2.bind fun t => if goes M.S s t then none else some t) := by
  rw [obsQ_gone h hs hs0 hl h8]
  unfold obsQ
  cases has M.S q with
  | none => rfl
  | some c =>
    dsimp only
    by_cases h : sub (M.S c).label l = true
    · rw [if_pos h, if_pos h]; rfl
    · rw [if_neg h, if_neg h]; rfl
theorem alike_gone2 (A : Alike l M N) (hM : MInv M) (hN : MInv N) {s cc : Nat} (hs32 : s < 32) (hs0 : s ≠ 0) (hs : Same l M N s) (hl : lies M.S s = some cc) : Alike l (M.gone s) (N.gone s) := by
  obtain ⟨c1, c2, c3, c4, c5, c6⟩ := core_eq hs.core
  have hl' : lies N.S s = some cc := by rw [hs.lie]; exact hl
  obtain ⟨s1, s2⟩ := hs.seen cc hl
  have hg : ∀ x, goes N.S s x ↔ goes M.S s x := fun x => by unfold goes; rw [c1, c3, c4]
  refine ⟨A.ph, fun x hx => ?_, fun q hq => ?_⟩
  · rw [obsS_gone hM hs32 hs0 hl hx, obsS_gone hN hs32 hs0 hl' hx, A.slot x hx, tellS_seen s1, tellS_seen s2]
    simp only [hg]
  · rw [gone_quan hM hs32 hs0 hl hq, gone_quan hN hs32 hs0 hl' hq, A.quan q hq, c1, c5, c6, if_pos s1, if_pos s2]
    simp only [hg]

theorem busy_same (A : Alike l M N) {c s a e g h : Nat} (hc : sub (M.S c).label l = true) (hc' : sub (N.S c).label l = true) : busyB N.S c s a e g h = busyB M.S c s a e g h := by
  have h1 : ∀ i : Nat, i < 32 → decide ((N.S i).kind = 0 ∧ lies N.S i = some c) = decide ((M.S i).kind = 0 ∧ lies M.S i = some c) := fun i hi => by
    have : ((N.S i).kind = 0 ∧ lies N.S i = some c) ↔ ((M.S i).kind = 0 ∧ lies M.S i = some c) := by
      constructor
      · intro ⟨k1, k2⟩
        have := A.symm.same_at hi k2 hc'
        exact ⟨by rw [this.kind]; exact k1, by rw [this.lie]; exact k2⟩
      · intro ⟨k1, k2⟩
        have := A.same_at hi k2 hc
        exact ⟨by rw [this.kind]; exact k1, by rw [this.lie]; exact k2⟩
    exact decide_eq_decide.2 this
  have h2 : ∀ q : Nat, q < 8 → decide (has N.S q = some c) = decide (has M.S q = some c) := fun q hq =>
    decide_eq_decide.2 ⟨fun k => (A.symm.atq hq k hc').1, fun k => (A.atq hq k hc).1⟩
  unfold busyB
  congr 1
  · congr 1
    rw [Bool.eq_iff_iff, List.any_eq_true, List.any_eq_true]
    constructor
    · rintro ⟨i, i1, i2⟩
      exact ⟨i, i1, by rw [h1 i (List.mem_range.1 i1)] at i2; exact i2⟩
    · rintro ⟨i, i1, i2⟩
      exact ⟨i, i1, by rw [h1 i (List.mem_range.1 i1)]; exact i2⟩
  · rw [Bool.eq_iff_iff, List.any_eq_true, List.any_eq_true]
    constructor
    · rintro ⟨i, i1, i2⟩
      exact ⟨i, i1, by rw [h2 i (List.mem_range.1 i1)] at i2; exact i2⟩
    · rintro ⟨i, i1, i2⟩
      exact ⟨i, i1, by rw [h2 i (List.mem_range.1 i1)]; exact i2⟩

theorem drop_same {O T : Nat} (A : Alike l M N) (hM : MInv M) (hN : MInv N) (hT : sub T l = true) (hT2 : T < 256) {q : Nat} (hq : q < 8) (up : sub (mDrop M.S O T q).1 l = true) (uq : sub (mDrop N.S O T q).1 l = true) :
    mDrop N.S O T q = mDrop M.S O T q ∧ ((mDrop M.S O T q).2 = 0 → ∃ c, has M.S q = some c ∧ has N.S q = some c ∧ sub (M.S c).label l = true ∧ sub (N.S c).label l = true ∧ (N.S c).label = (M.S c).label) := by
  obtain ⟨c, hc⟩ := hM.tree.has_root hq
  obtain ⟨c', hc'⟩ := hN.tree.has_root hq
  unfold mDrop at *
  rw [hc] at up ⊢
  rw [hc'] at uq ⊢
  simp only [Option.getD_some] at *
  obtain ⟨h1, h2⟩ := reach_alike A hM hN hT hT2 hq hc hc' (pathR_of DEEP c (hM.tree.deep c)) (pathR_of DEEP c' (hN.tree.deep c')) (chk_sub up) (chk_sub uq)
  by_cases hz : (chk O (M.S c).label T (pathF M.S O T DEEP c (0, 0))).2 = 0
  · obtain ⟨e, h3⟩ := h2 hz
    subst e
    obtain ⟨_, g2, _⟩ := A.atq hq hc h3
    have hlab : (N.S c').label = (M.S c').label := (A.same_obj hM hN (has_spec hc).1 (by have := (has_spec hc).2.1; omega) h3).label
    rw [← h1, hlab]
    exact ⟨rfl, fun _ => ⟨c', rfl, rfl, h3, g2, hlab⟩⟩
  · have hz' : (chk O (N.S c').label T (pathF N.S O T DEEP c' (0, 0))).2 ≠ 0 := by rw [← h1]; exact hz
    rw [chk_stop hz, chk_stop hz', h1]
    exact ⟨rfl, fun e => absurd e (by rw [← h1]; exact hz)⟩

/-- P10, of one who is heard. -/
theorem heard (A : Alike l M N) (hM : MInv M) (hN : MInv N) {me : Nat} (hc : M.cur = some me) (hT : sub (M.S me).label l = true) {n : Int} {xs : List Int} (ha : Args n xs) (uM : sub (M.ask me n xs).1 l = true) (uN : sub (N.ask me n xs).1 l = true) :
    N.ask me n xs = M.ask me n xs ∧ ((M.ask me n xs).2 = 0 → N.val me n xs = M.val me n xs ∧ Alike l (M.next me n xs) (N.next me n xs)) := by
  obtain ⟨m1, m2, _⟩ := hM.cur_some hc
  have hT2 := (hM.tree.wf me m1).1
  have Sm := A.same_obj hM hN m1 (by omega) hT
  have hlab := Sm.label
  have hown := ((Sm.known hT).1 m2).1
  cases ha with
  | self =>
    show ((0, 0) : Nat × Int) = (0, 0) ∧ (((0, 0) : Nat × Int).2 = 0 → (me : Int) = me ∧ Alike l M N)
    exact ⟨rfl, fun _ => ⟨rfl, A⟩⟩
  | kind s hs =>
    change sub (pathF M.S (M.S me).owns (M.S me).label DEEP s (0, 0)).1 l = true at uM
    change sub (pathF N.S (N.S me).owns (N.S me).label DEEP s (0, 0)).1 l = true at uN
    show pathF N.S (N.S me).owns (N.S me).label DEEP s (0, 0) = pathF M.S (M.S me).owns (M.S me).label DEEP s (0, 0) ∧ ((pathF M.S (M.S me).owns (M.S me).label DEEP s (0, 0)).2 = 0 → (N.S s).kind = (M.S s).kind ∧ Alike l M N)
    rw [hlab, hown] at uN ⊢
    obtain ⟨h1, h2⟩ := path_same A hM hN hT hT2 hs uM uN
    exact ⟨h1, fun hz => ⟨(h2 hz).kind, A⟩⟩
  | label s hs =>
    change sub (mFind M.S (M.S me).owns (M.S me).label s).1 l = true at uM
    change sub (mFind N.S (N.S me).owns (N.S me).label s).1 l = true at uN
    show mFind N.S (N.S me).owns (N.S me).label s = mFind M.S (M.S me).owns (M.S me).label s ∧ ((mFind M.S (M.S me).owns (M.S me).label s).2 = 0 → ((N.S s).label : Int) = (M.S s).label ∧ Alike l M N)
    rw [hlab, hown] at uN ⊢
    obtain ⟨h1, h2⟩ := find_same A hM hN hT hT2 hs uM uN
    exact ⟨h1, fun hz => ⟨by rw [(h2 hz).label], A⟩⟩
  | seg c s lb hc hs hl =>
    change sub (mMake M.S (M.S me).owns (M.S me).label c s lb).1 l = true at uM
    change sub (mMake N.S (N.S me).owns (N.S me).label c s lb).1 l = true at uN
    show mMake N.S (N.S me).owns (N.S me).label c s lb = mMake M.S (M.S me).owns (M.S me).label c s lb ∧ ((mMake M.S (M.S me).owns (M.S me).label c s lb).2 = 0 → (0 : Int) = 0 ∧ Alike l (M.put s (segT lb) _) (N.put s (segT lb) _))
    rw [hlab, hown] at uN ⊢
    obtain ⟨h1, h2⟩ := make_same A hM hN hT hT2 hc hs uM uN
    exact ⟨h1, fun hz => ⟨rfl, alike_put2 A hM hN (h2 hz).2.2 (making_zero hz).free (by simp [segT]) _⟩⟩
  | read s i hs hi =>
    change sub (mRead M.S (M.S me).owns (M.S me).label s).1 l = true at uM
    change sub (mRead N.S (N.S me).owns (N.S me).label s).1 l = true at uN
    show mRead N.S (N.S me).owns (N.S me).label s = mRead M.S (M.S me).owns (M.S me).label s ∧ ((mRead M.S (M.S me).owns (M.S me).label s).2 = 0 → (N.ws s).getD i 0 = (M.ws s).getD i 0 ∧ Alike l M N)
    rw [hlab, hown] at uN ⊢
    unfold mRead at *
    rw [kindF_used] at uM uN
    obtain ⟨h1, h2⟩ := find_same A hM hN hT hT2 hs (chk_sub uM) (chk_sub uN)
    by_cases hz : (mFind M.S (M.S me).owns (M.S me).label s).2 = 0
    · have hS := h2 hz
      refine ⟨by rw [h1, hS.label]; unfold kindF; rw [hS.kind], fun hz2 => ⟨?_, A⟩⟩
      rw [(hS.known (chk_read hM hT hT2 hs uM (kindF_zero' hz2).2)).2]
    · rw [h1, chk_stop hz, chk_stop hz, kindF_stop hz, kindF_stop hz]
      exact ⟨rfl, fun e => absurd e hz⟩
  | write s i v hs hi =>
    change sub (mWrite M.S (M.S me).owns (M.S me).label s).1 l = true at uM
    change sub (mWrite N.S (N.S me).owns (N.S me).label s).1 l = true at uN
    show mWrite N.S (N.S me).owns (N.S me).label s = mWrite M.S (M.S me).owns (M.S me).label s ∧ ((mWrite M.S (M.S me).owns (M.S me).label s).2 = 0 → (0 : Int) = 0 ∧ Alike l (M.words s ((M.ws s).set i v)) (N.words s ((N.ws s).set i v)))
    rw [hlab, hown] at uN ⊢
    unfold mWrite at *
    rw [kindF_used] at uM uN
    obtain ⟨h1, h2⟩ := find_same A hM hN hT hT2 hs (chk_sub uM) (chk_sub uN)
    by_cases hz : (mFind M.S (M.S me).owns (M.S me).label s).2 = 0
    · have hS := h2 hz
      refine ⟨by rw [h1, hS.label]; unfold kindF; rw [hS.kind], fun hz2 => ⟨rfl, alike_words2 A hS (fun hx => by rw [(hS.known hx).2])⟩⟩
    · rw [h1, chk_stop hz, chk_stop hz, kindF_stop hz, kindF_stop hz]
      exact ⟨rfl, fun e => absurd e hz⟩
  | cont c s lb a e g k hc hs hl ha hae he hgk hk =>
    change sub (mCont M.S (M.S me).owns (M.S me).label c s lb a e g k).1 l = true at uM
    change sub (mCont N.S (N.S me).owns (N.S me).label c s lb a e g k).1 l = true at uN
    show mCont N.S (N.S me).owns (N.S me).label c s lb a e g k = mCont M.S (M.S me).owns (M.S me).label c s lb a e g k ∧ ((mCont M.S (M.S me).owns (M.S me).label c s lb a e g k).2 = 0 → (0 : Int) = 0 ∧ Alike l ((M.put s (contT lb a e g k) []).idle g k) ((N.put s (contT lb a e g k) []).idle g k))
    rw [hlab, hown] at uN ⊢
    unfold mCont at *
    have fst' : ∀ {b : Prop} [Decidable b] {e : Int} {p : Nat × Int}, (if b then failed e p else p).1 = p.1 := by
      intro b _ e p; split; exact failed_used _ _; rfl
    rw [fst'] at uM uN
    obtain ⟨h1, h2⟩ := make_same A hM hN hT hT2 hc hs uM uN
    by_cases hz : (mMake M.S (M.S me).owns (M.S me).label c s lb).2 = 0
    · obtain ⟨q1, q2, q3⟩ := h2 hz
      have hbs : busyB N.S c s a e g k = busyB M.S c s a e g k := busy_same A q1 (by rw [q2.label]; exact q1)
      rw [h1, hbs]
      refine ⟨rfl, fun hz2 => ⟨rfl, ?_⟩⟩
      obtain ⟨hb, hz3⟩ := if_zero' (by decide) hz2
      have hr : Roomy M.S c s a e g k := busyB_spec he hk (by simpa using hb)
      have hr' : Roomy N.S c s a e g k := busyB_spec he hk (by rw [hbs]; simpa using hb)
      have hmM := making_zero hz
      have hmN : Made N.S c s lb := making_zero (by unfold mMake at h1 hz; rw [h1]; exact hz)
      exact alike_cont2 A hM hN (hM.cont hmM hs hl ha hae he hgk hk hr).tree (hN.cont hmN hs hl ha hae he hgk hk hr').tree hs q3 hmM.free hr hr'
    · rw [h1, if_stop' hz, if_stop' hz]
      exact ⟨rfl, fun e => absurd e hz⟩
  | free s hs =>
    change sub (mFree M.S (M.S me).owns (M.S me).label s).1 l = true at uM
    change sub (mFree N.S (N.S me).owns (N.S me).label s).1 l = true at uN
    show mFree N.S (N.S me).owns (N.S me).label s = mFree M.S (M.S me).owns (M.S me).label s ∧ ((mFree M.S (M.S me).owns (M.S me).label s).2 = 0 → (0 : Int) = 0 ∧ Alike l (M.gone s) (N.gone s))
    rw [hlab, hown] at uN ⊢
    unfold mFree at *
    by_cases hs0 : s = 0
    · rw [if_pos hs0, failed_used] at uM uN
      rw [if_pos hs0, if_pos hs0]
      obtain ⟨h1, h2⟩ := path_same A hM hN hT hT2 hs uM uN
      rw [h1]
      exact ⟨rfl, fun e => absurd e (failed_zero (by decide) _)⟩
    · rw [if_neg hs0] at uM uN
      rw [if_neg hs0, if_neg hs0]
      obtain ⟨h1, h2⟩ := find_same A hM hN hT hT2 hs (chk_sub uM) (chk_sub uN)
      by_cases hz : (mFind M.S (M.S me).owns (M.S me).label s).2 = 0
      · have hS := h2 hz
        obtain ⟨cc, hcc⟩ := hM.tree.lies_root (s := s) (by omega) hs
        have hcl := (hS.seen cc hcc).1
        have hSc := A.same_obj hM hN (lies_spec hcc).1 (by have := (lies_spec hcc).2.1; omega) hcl
        refine ⟨?_, fun _ => ⟨rfl, alike_gone2 A hM hN hs hs0 hS hcc⟩⟩
        rw [h1, hS.lie, hcc]
        simp only [Option.getD_some]
        rw [hSc.label]
      · rw [h1, chk_stop hz, chk_stop hz]
        exact ⟨rfl, fun e => absurd e hz⟩
  | thread c s lb o hc hs hl ho =>
    change sub (mThread M.S (M.S me).owns (M.S me).label c s lb o).1 l = true at uM
    change sub (mThread N.S (N.S me).owns (N.S me).label c s lb o).1 l = true at uN
    show mThread N.S (N.S me).owns (N.S me).label c s lb o = mThread M.S (M.S me).owns (M.S me).label c s lb o ∧ ((mThread M.S (M.S me).owns (M.S me).label c s lb o).2 = 0 → (0 : Int) = 0 ∧ Alike l (M.put s (thrT lb o) []) (N.put s (thrT lb o) []))
    rw [hlab, hown] at uN ⊢
    unfold mThread at *
    have fst : ∀ {b : Prop} [Decidable b] {e : Int} {p : Nat × Int}, (if b then p else failed e p).1 = p.1 := by
      intro b _ e p; split; rfl; exact failed_used _ _
    rw [fst] at uM uN
    obtain ⟨h1, h2⟩ := make_same A hM hN hT hT2 hc hs uM uN
    rw [h1]
    refine ⟨rfl, fun hz => ?_⟩
    obtain ⟨hb, hz⟩ := if_zero (by decide) hz
    exact ⟨rfl, alike_put2 A hM hN (h2 hz).2.2 (making_zero hz).free (by simp [thrT]) _⟩
  | give q s hq hs =>
    change sub (mGive M.S (M.S me).owns (M.S me).label q s).1 l = true at uM
    change sub (mGive N.S (N.S me).owns (N.S me).label q s).1 l = true at uN
    show mGive N.S (N.S me).owns (N.S me).label q s = mGive M.S (M.S me).owns (M.S me).label q s ∧ ((mGive M.S (M.S me).owns (M.S me).label q s).2 = 0 → (0 : Int) = 0 ∧ Alike l (M.turn q (some s)) (N.turn q (some s)))
    rw [hlab, hown] at uN ⊢
    unfold mGive at *
    have v1 := chk_sub uM
    have v2 := chk_sub uN
    rw [kindF_used, thereF_used] at v1 v2
    have gen : ∀ (S : Nat → Th) n s (p : Nat × Int), sub (pathF S (M.S me).owns (M.S me).label n s p).1 l = true → sub p.1 l = true := by
      intro S n
      induction n with
      | zero => exact fun s p q => q
      | succ n ih =>
        intro s p q
        unfold pathF at q
        cases hl : lies S s with
        | none => rw [hl] at q; exact q
        | some c => rw [hl] at q; exact ih c p (chk_sub q)
    obtain ⟨h1, h2⟩ := drop_same A hM hN hT hT2 hq (gen _ _ _ _ v1) (gen _ _ _ _ v2)
    by_cases hz : (mDrop M.S (M.S me).owns (M.S me).label q).2 = 0
    · obtain ⟨c, d1, d2, d3, d4, d5⟩ := h2 hz
      rw [d1] at uM
      rw [d2] at uN
      rw [d1, d2]
      simp only [Option.getD_some]
      obtain ⟨u, hu⟩ : ∃ u, mDrop M.S (M.S me).owns (M.S me).label q = (u, 0) := ⟨_, Prod.ext rfl hz⟩
      rw [h1, hu, path_from] at v2
      rw [hu, path_from] at v1
      rw [h1, hu, path_from (S := M.S) (u := u), path_from (S := N.S) (u := u)]
      obtain ⟨h3, h4⟩ := path_same A hM hN hT hT2 hs (sub_or.1 v1).2 (sub_or.1 v2).2
      rw [h3, d5]
      generalize hr : pathF M.S (M.S me).owns (M.S me).label DEEP s (0, 0) = r at *
      by_cases hz2 : r.2 = 0
      · have hS := h4 hz2
        rw [hS.label]
        refine ⟨?_, fun _ => ⟨trivial, alike_turn2 A d1 d2 d3 d4 (fun u e => by injection e with e; subst e; exact hS.label)⟩⟩
        unfold kindF thereF
        rw [hS.kind]
      · have hz3 : (u ||| r.1, r.2).2 ≠ 0 := hz2
        rw [thereF_stop hz3, thereF_stop hz3, kindF_stop hz3, kindF_stop hz3, chk_stop hz3, chk_stop hz3]
        exact ⟨rfl, fun e => absurd e hz3⟩
    · rw [h1, path_stop _ _ _ hz, path_stop _ _ _ hz, thereF_stop hz, thereF_stop hz, kindF_stop hz, kindF_stop hz, chk_stop hz, chk_stop hz]
      exact ⟨rfl, fun e => absurd e hz⟩
  | drop q hq =>
    change sub (mDrop M.S (M.S me).owns (M.S me).label q).1 l = true at uM
    change sub (mDrop N.S (N.S me).owns (N.S me).label q).1 l = true at uN
    show mDrop N.S (N.S me).owns (N.S me).label q = mDrop M.S (M.S me).owns (M.S me).label q ∧ ((mDrop M.S (M.S me).owns (M.S me).label q).2 = 0 → (0 : Int) = 0 ∧ Alike l (M.turn q none) (N.turn q none))
    rw [hlab, hown] at uN ⊢
    obtain ⟨h1, h2⟩ := drop_same A hM hN hT hT2 hq uM uN
    refine ⟨h1, fun hz => ?_⟩
    obtain ⟨c, d1, d2, d3, d4, d5⟩ := h2 hz
    exact ⟨rfl, alike_turn2 A d1 d2 d3 d4 (fun u e => by cases e)⟩
  | sleep =>
    show ((0, 0) : Nat × Int) = (0, 0) ∧ (((0, 0) : Nat × Int).2 = 0 → (0 : Int) = 0 ∧ Alike l (M.awake me false) (N.awake me false))
    exact ⟨rfl, fun _ => ⟨rfl, alike_awake2 A Sm m2 false⟩⟩
  | wake s hs =>
    change sub (mWake M.S (M.S me).owns (M.S me).label s).1 l = true at uM
    change sub (mWake N.S (N.S me).owns (N.S me).label s).1 l = true at uN
    show mWake N.S (N.S me).owns (N.S me).label s = mWake M.S (M.S me).owns (M.S me).label s ∧ ((mWake M.S (M.S me).owns (M.S me).label s).2 = 0 → (0 : Int) = 0 ∧ Alike l (M.awake s true) (N.awake s true))
    rw [hlab, hown] at uN ⊢
    unfold mWake at *
    rw [kindF_used] at uM uN
    obtain ⟨h1, h2⟩ := find_same A hM hN hT hT2 hs (chk_sub uM) (chk_sub uN)
    by_cases hz : (mFind M.S (M.S me).owns (M.S me).label s).2 = 0
    · have hS := h2 hz
      refine ⟨by rw [h1, hS.label]; unfold kindF; rw [hS.kind], fun hz2 => ⟨rfl, alike_awake2 A hS (kindF_zero' hz2).1 true⟩⟩
    · rw [h1, chk_stop hz, chk_stop hz, kindF_stop hz, kindF_stop hz]
      exact ⟨rfl, fun e => absurd e hz⟩
  | port c s lb hc hs hl =>
    change sub (mMake M.S (M.S me).owns (M.S me).label c s lb).1 l = true at uM
    change sub (mMake N.S (N.S me).owns (N.S me).label c s lb).1 l = true at uN
    show mMake N.S (N.S me).owns (N.S me).label c s lb = mMake M.S (M.S me).owns (M.S me).label c s lb ∧ ((mMake M.S (M.S me).owns (M.S me).label c s lb).2 = 0 → (0 : Int) = 0 ∧ Alike l (M.put s (portT lb) []) (N.put s (portT lb) []))
    rw [hlab, hown] at uN ⊢
    obtain ⟨h1, h2⟩ := make_same A hM hN hT hT2 hc hs uM uN
    exact ⟨h1, fun hz => ⟨rfl, alike_put2 A hM hN (h2 hz).2.2 (making_zero hz).free (by simp [portT]) _⟩⟩
  | send s v hs =>
    change sub (mSend M.S (M.S me).owns (M.S me).label s (M.ws s).length).1 l = true at uM
    change sub (mSend N.S (N.S me).owns (N.S me).label s (N.ws s).length).1 l = true at uN
    show mSend N.S (N.S me).owns (N.S me).label s (N.ws s).length = mSend M.S (M.S me).owns (M.S me).label s (M.ws s).length ∧ ((mSend M.S (M.S me).owns (M.S me).label s (M.ws s).length).2 = 0 → (0 : Int) = 0 ∧ Alike l (if 4 ≤ (M.ws s).length then M else M.words s (M.ws s ++ [v])) (if 4 ≤ (N.ws s).length then N else N.words s (N.ws s ++ [v])))
    rw [hlab, hown] at uN ⊢
    unfold mSend at *
    dsimp only at *
    have fst' : ∀ {b : Prop} [Decidable b] {e : Int} {p : Nat × Int}, (if b then failed e p else p).1 = p.1 := by
      intro b _ e p; split; exact failed_used _ _; rfl
    rw [fst', kindF_used] at uM uN
    obtain ⟨h1, h2⟩ := find_same A hM hN hT hT2 hs (chk_sub uM) (chk_sub uN)
    by_cases hz : (mFind M.S (M.S me).owns (M.S me).label s).2 = 0
    · have hS := h2 hz
      refine ⟨?_, fun _ => ⟨rfl, ?_⟩⟩
      · have hk : ∀ p, kindF N.S s 4 p = kindF M.S s 4 p := fun p => by unfold kindF; rw [hS.kind]
        rw [h1, hS.label, hk]
        by_cases hb : sub (M.S s).label (M.S me).label = true
        · rw [(hS.known (sub_trans hb hT)).2]
        · rw [if_neg (fun h => hb h.2), if_neg (fun h => hb h.2)]
      · by_cases hx : sub (M.S s).label l = true
        · rw [(hS.known hx).2]
          split
          · exact A
          · exact alike_words2 A hS (fun _ => rfl)
        · have a1 : Alike l (if 4 ≤ (M.ws s).length then M else M.words s (M.ws s ++ [v])) M := by
            split
            · exact Alike.refl _ _
            · exact (alike_words_hid hx _).symm
          have a2 : Alike l N (if 4 ≤ (N.ws s).length then N else N.words s (N.ws s ++ [v])) := by
            split
            · exact Alike.refl _ _
            · exact alike_words_hid (by rw [hS.label]; exact hx) _
          exact (a1.trans A).trans a2
    · rw [h1, chk_stop hz, chk_stop hz, kindF_stop hz, kindF_stop hz, if_stop' hz, if_stop' hz]
      exact ⟨rfl, fun e => absurd e hz⟩
  | receive s hs =>
    change sub (mRecv M.S (M.S me).owns (M.S me).label s (M.ws s).length).1 l = true at uM
    change sub (mRecv N.S (N.S me).owns (N.S me).label s (N.ws s).length).1 l = true at uN
    show mRecv N.S (N.S me).owns (N.S me).label s (N.ws s).length = mRecv M.S (M.S me).owns (M.S me).label s (M.ws s).length ∧ ((mRecv M.S (M.S me).owns (M.S me).label s (M.ws s).length).2 = 0 → (N.ws s).getD 0 0 = (M.ws s).getD 0 0 ∧ Alike l (M.words s (M.ws s).tail) (N.words s (N.ws s).tail))
    rw [hlab, hown] at uN ⊢
    unfold mRecv at *
    dsimp only at *
    have fst' : ∀ {b : Prop} [Decidable b] {e : Int} {p : Nat × Int}, (if b then failed e p else p).1 = p.1 := by
      intro b _ e p; split; exact failed_used _ _; rfl
    rw [fst', kindF_used] at uM uN
    obtain ⟨h1, h2⟩ := find_same A hM hN hT hT2 hs (chk_sub (chk_sub uM)) (chk_sub (chk_sub uN))
    by_cases hz : (mFind M.S (M.S me).owns (M.S me).label s).2 = 0
    · have hS := h2 hz
      have hk : ∀ p, kindF N.S s 4 p = kindF M.S s 4 p := fun p => by unfold kindF; rw [hS.kind]
      rw [h1, hS.label, hk]
      by_cases hz2 : (chk (M.S me).owns (M.S s).label (M.S me).label (mFind M.S (M.S me).owns (M.S me).label s)).2 = 0
      · have hw := (hS.known (chk_read hM hT hT2 hs (chk_sub uM) hz2)).2
        rw [hw]
        exact ⟨rfl, fun _ => ⟨rfl, alike_words2 A hS (fun _ => rfl)⟩⟩
      · rw [chk_stop hz2, kindF_stop hz2, if_stop' hz2, if_stop' hz2]
        exact ⟨rfl, fun e => absurd e hz2⟩
    · rw [h1, chk_stop hz, chk_stop hz, chk_stop hz, chk_stop hz, kindF_stop hz, kindF_stop hz, if_stop' hz, if_stop' hz]
      exact ⟨rfl, fun e => absurd e hz⟩
end

end Go.Proofs.Ytloppmepfkkblaa
end

section
/- P10 on the plain kernel: views, who is heard, traps and ticks. Without conditions. -/
open Go Go.RowKit
namespace Go.Proofs.Ytloppmepfkkblaa

section
variable {l : Nat} {M N : MS}

/-! ### what is told -/
theorem thing_same {s : Nat} (h : Same l M N s) : thingM N l s = thingM M l s := by
  obtain ⟨c1, c2, c3, c4, c5, c6⟩ := core_eq h.core
  unfold thingM
  rw [c1, c2]
  by_cases hx : sub (M.S s).label l = true
  · obtain ⟨k1, k2⟩ := h.known hx
    have : bodyM N s = bodyM M s := by
      unfold bodyM
      rw [c1, c3, c4, c5, c6, k2]
      by_cases hk : (M.S s).kind = 2
      · rw [(k1 hk).1, (k1 hk).2]
      · simp only [if_neg hk]
    rw [this]
  · rw [if_neg hx, if_neg hx]
theorem slots_same (A : Alike l M N) {c : Nat} (hc : sub (M.S c).label l = true) (hc' : sub (N.S c).label l = true) : ∀ k, k ≤ 32 → slotsM N l c k = slotsM M l c k
  | 0, _ => rfl
  | k + 1, hk => by
    unfold slotsM
    rw [slots_same A hc hc' k (by omega)]
    by_cases h : 1 ≤ k ∧ lies M.S k = some c
    · have hS := A.same_at (by omega) h.2 hc
      rw [if_pos h, if_pos ⟨h.1, by rw [hS.lie]; exact h.2⟩, thing_same hS]
    · have h' : ¬ (1 ≤ k ∧ lies N.S k = some c) := fun h' => h ⟨h'.1, by rw [(A.symm.same_at (by omega) h'.2 hc').lie]; exact h'.2⟩
      rw [if_neg h, if_neg h']
theorem who_of (M : MS) (l q : Nat) : whoM M l q = match whoQ M l q with | none => -1 | some t => (t : Int) := by
  unfold whoM whoQ
  cases M.lq q with
  | none => rfl
  | some t =>
    dsimp only
    by_cases h : sub (M.S t).label l = true
    · rw [if_pos h, if_pos h]
    · rw [if_neg h, if_neg h]
theorem quanta_same (A : Alike l M N) {c : Nat} (hc : sub (M.S c).label l = true) (hc' : sub (N.S c).label l = true) : ∀ k, k ≤ 8 → quantaM N l c k = quantaM M l c k
  | 0, _ => rfl
  | k + 1, hk => by
    unfold quantaM
    rw [quanta_same A hc hc' k (by omega)]
    by_cases h : has M.S k = some c
    · obtain ⟨h1, _, h3⟩ := A.atq (by omega) h hc
      rw [if_pos h, if_pos h1, who_of, who_of, h3]
    · have h' : ¬ has N.S k = some c := fun h' => h (A.symm.atq (by omega) h' hc').1
      rw [if_neg h, if_neg h']
theorem kids_same (A : Alike l M N) {c : Nat} (hc : sub (M.S c).label l = true) (hc' : sub (N.S c).label l = true) {f g : Nat → List Int} (hf : ∀ k, k < 32 → (M.S k).kind = 1 → Same l M N k → g k = f k) : ∀ k, k ≤ 32 → kidsM N c g k = kidsM M c f k
  | 0, _ => rfl
  | k + 1, hk => by
    unfold kidsM
    rw [kids_same A hc hc' hf k (by omega)]
    by_cases h : 1 ≤ k ∧ (M.S k).kind = 1 ∧ lies M.S k = some c
    · have hS := A.same_at (by omega) h.2.2 hc
      rw [if_pos h, if_pos ⟨h.1, by rw [hS.kind]; exact h.2.1, by rw [hS.lie]; exact h.2.2⟩, hf k (by omega) h.2.1 hS]
    · have h' : ¬ (1 ≤ k ∧ (N.S k).kind = 1 ∧ lies N.S k = some c) := fun h' => by
        have hS := A.symm.same_at (by omega) h'.2.2 hc'
        exact h ⟨h'.1, by rw [hS.kind]; exact h'.2.1, by rw [hS.lie]; exact h'.2.2⟩
      rw [if_neg h, if_neg h']
theorem tells_same (A : Alike l M N) : ∀ (n c : Nat), c < 32 → (M.S c).kind = 1 → Same l M N c → tellsM N l n c = tellsM M l n c
  | 0, _, _, _, _ => rfl
  | n + 1, c, h32, hk, hS => by
    unfold tellsM
    rw [hS.label]
    by_cases h : sub (M.S c).label l = true
    · have h' : sub (N.S c).label l = true := by rw [hS.label]; exact h
      rw [if_pos h, if_pos h, slots_same A h h' 32 (by omega), quanta_same A h h' 8 (by omega), kids_same A h h' (fun k k1 k2 k3 => tells_same A n k k1 k2 k3) 32 (by omega)]
    · rw [if_neg h, if_neg h]
theorem view_alike (A : Alike l M N) (hM : MInv M) (hN : MInv N) : viewM M (l : Int) = viewM N (l : Int) := by
  unfold viewM
  by_cases h : (l : Int) < 0 ∨ 255 < (l : Int)
  · rw [if_pos h, if_pos h]
  · rw [if_neg h, if_neg h, A.ph, Int.toNat_natCast, tells_same A DEEP 0 (by omega) hM.tree.root.1 (Alike.same_zero hM hN)]

/-! ### who is heard -/
def heardB (M : MS) (l : Nat) : Bool := match M.cur with
  | none => false
  | some t => sub (M.S t).label l
theorem heard_cur (h : heardB M l = true) : ∃ t, M.cur = some t ∧ sub (M.S t).label l = true := by
  unfold heardB at h
  cases hc : M.cur with
  | none => rw [hc] at h; cases h
  | some t => rw [hc] at h; exact ⟨t, rfl, h⟩
theorem heard_same (A : Alike l M N) (hM : MInv M) (hN : MInv N) (tM : Tight l M) {t : Nat} (hc : M.cur = some t) (hx : sub (M.S t).label l = true) : N.cur = some t ∧ Same l M N t := by
  obtain ⟨t1, t2, t3, t4⟩ := hM.cur_some hc
  obtain ⟨c, c1, c2⟩ := tM M.ph t hM.ph t3 hx
  obtain ⟨_, _, h3⟩ := A.atq hM.ph c1 c2
  have hS := A.same_obj hM hN t1 (by omega) hx
  refine ⟨?_, hS⟩
  unfold whoQ at h3
  rw [t3] at h3
  dsimp only at h3
  rw [if_pos hx] at h3
  have hlq : N.lq M.ph = some t := by
    cases hl : N.lq M.ph with
    | none => rw [hl] at h3; cases h3
    | some u =>
      rw [hl] at h3
      dsimp only at h3
      split at h3
      · exact h3
      · cases h3
  unfold MS.cur
  rw [← A.ph, hlq]
  dsimp only
  rw [if_pos (by rw [((hS.known hx).1 t2).2]; exact t4)]
theorem heard_alike (A : Alike l M N) (hM : MInv M) (hN : MInv N) (tM : Tight l M) (tN : Tight l N) : heardB M l = heardB N l ∧ (heardB M l = true → M.now = N.now) := by
  have one : ∀ {M N : MS}, Alike l M N → MInv M → MInv N → Tight l M → heardB M l = true → heardB N l = true ∧ M.now = N.now := by
    intro M N A hM hN tM h
    obtain ⟨t, h1, h2⟩ := heard_cur h
    obtain ⟨h3, hS⟩ := heard_same A hM hN tM h1 h2
    refine ⟨?_, ?_⟩
    · unfold heardB; rw [h3]; dsimp only; rw [hS.label]; exact h2
    · unfold MS.now; rw [h1, h3]; dsimp only; rw [hS.label, A.ph]
  refine ⟨?_, fun h => (one A hM hN tM h).2⟩
  cases h : heardB M l with
  | true => exact (one A hM hN tM h).1.symm
  | false =>
    cases h' : heardB N l with
    | false => rfl
    | true => have := (one A.symm hN hM tN h').1; rw [h] at this; cases this

/-! ### traps -/
theorem trap_cases (M : MS) (n : Int) (xs : List Int) : ((M.trap n xs).2 = M ∧ (M.trap n xs).1.1 ≠ 0) ∨ ∃ me, M.cur = some me ∧ Args n xs ∧ (M.ask me n xs).2 = 0 ∧ M.trap n xs = ((0, M.val me n xs, (M.ask me n xs).1), M.next me n xs) := by
  unfold MS.trap
  cases hc : M.cur with
  | none => exact Or.inl ⟨rfl, by simp⟩
  | some me =>
    dsimp only
    by_cases h1 : n < 1 ∨ 17 ≤ n ∨ (shapeL n).length ≠ xs.length
    · rw [if_pos h1]; exact Or.inl ⟨rfl, by simp⟩
    · rw [if_neg h1]
      by_cases h2 : mayTo (shapeL n) xs xs.length = false
      · rw [if_pos h2]; exact Or.inl ⟨rfl, by simp⟩
      · rw [if_neg h2]
        by_cases h3 : (M.ask me n xs).2 = 0
        · rw [if_pos h3]
          exact Or.inr ⟨me, rfl, args_of (by omega) (by omega) (Classical.not_not.1 (fun e => h1 (Or.inr (Or.inr e)))) (by simpa using h2), h3, rfl⟩
        · rw [if_neg h3]; exact Or.inl ⟨rfl, h3⟩
theorem trap_unheard (hM : MInv M) (hh : heardB M l = false) {n : Int} {xs : List Int} (hu : sub (M.trap n xs).1.2.2 l = true) : Alike l M (M.trap n xs).2 := by
  rcases trap_cases M n xs with ⟨h, _⟩ | ⟨me, h1, h2, h3, h4⟩
  · rw [h]; exact Alike.refl _ _
  · rw [h4] at hu ⊢
    refine unheard hM h1 h2 h3 hu (fun hx => ?_)
    unfold heardB at hh
    rw [h1] at hh
    dsimp only at hh
    rw [hx] at hh
    cases hh
theorem trap_tight (hM : MInv M) (ht : Tight l M) {n : Int} {xs : List Int} (hu : sub (M.trap n xs).1.2.2 l = true) : Tight l (M.trap n xs).2 := by
  rcases trap_cases M n xs with ⟨h, _⟩ | ⟨me, h1, h2, h3, h4⟩
  · rw [h]; exact ht
  · rw [h4] at hu ⊢
    exact tight_next hM ht h1 h2 h3 hu
theorem trap_heard (A : Alike l M N) (hM : MInv M) (hN : MInv N) (tM : Tight l M) (hh : heardB M l = true) {n : Int} {xs : List Int} (uM : sub (M.trap n xs).1.2.2 l = true) (uN : sub (N.trap n xs).1.2.2 l = true) :
    (N.trap n xs).1.1 = (M.trap n xs).1.1 ∧ (N.trap n xs).1.2.1 = (M.trap n xs).1.2.1 ∧ Alike l (M.trap n xs).2 (N.trap n xs).2 := by
  obtain ⟨me, hc, hx⟩ := heard_cur hh
  obtain ⟨hc', hS⟩ := heard_same A hM hN tM hc hx
  unfold MS.trap at *
  rw [hc] at uM ⊢
  rw [hc'] at uN ⊢
  dsimp only at *
  by_cases h1 : n < 1 ∨ 17 ≤ n ∨ (shapeL n).length ≠ xs.length
  · rw [if_pos h1, if_pos h1]; exact ⟨rfl, rfl, A⟩
  · rw [if_neg h1] at uM uN
    rw [if_neg h1, if_neg h1]
    by_cases h2 : mayTo (shapeL n) xs xs.length = false
    · rw [if_pos h2, if_pos h2]; exact ⟨rfl, rfl, A⟩
    · rw [if_neg h2] at uM uN
      rw [if_neg h2, if_neg h2]
      have ha : Args n xs := args_of (by omega) (by omega) (Classical.not_not.1 (fun e => h1 (Or.inr (Or.inr e)))) (by simpa using h2)
      have fst : ∀ {K : MS}, (if (K.ask me n xs).2 = 0 then ((0, K.val me n xs, (K.ask me n xs).1), K.next me n xs) else (((K.ask me n xs).2, 0, (K.ask me n xs).1), K)).1.2.2 = (K.ask me n xs).1 := by
        intro K; split <;> rfl
      rw [fst] at uM uN
      obtain ⟨h3, h4⟩ := heard A hM hN hc hx ha uM uN
      rw [h3]
      by_cases hz : (M.ask me n xs).2 = 0
      · obtain ⟨h5, h6⟩ := h4 hz
        rw [if_pos hz, if_pos hz]
        exact ⟨rfl, h5, h6⟩
      · rw [if_neg hz, if_neg hz]
        exact ⟨rfl, rfl, A⟩

/-! ### ticks, and the start -/
theorem tick_alike (A : Alike l M N) : Alike l M.tick N.tick := ⟨by show (M.ph + 1) % 8 = (N.ph + 1) % 8; rw [A.ph], fun s hs => A.slot s hs, fun q hq => A.quan q hq⟩
theorem tick_tight (h : Tight l M) : Tight l M.tick := h
theorem boot_tight (l : Nat) : Tight l MS.boot := by
  intro q t hq hlq hx
  refine ⟨0, ?_, sub_nil l⟩
  have : ∀ q : Nat, q < 8 → has MS.boot.S q = some 0 := by decide +kernel
  exact this q hq
end

end Go.Proofs.Ytloppmepfkkblaa
end
