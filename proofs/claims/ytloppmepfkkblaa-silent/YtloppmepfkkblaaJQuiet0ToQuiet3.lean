/- What may be known under a label, slot by slot and quantum by quantum; and the way to a slot, as far as it may be known. Without conditions. -/
import Derived.Test.YtloppmepfkkblaaJMKeepsToViewM
import Derived.Test.YtloppmepfkkblaaJBaseToTreeKeeps

section
open Go Go.RowKit
namespace Go.Proofs.Ytloppmepfkkblaa

/-! ### labels -/
theorem sub_bits {a b : Nat} : sub a b = true ↔ ∀ i, a.testBit i = true → b.testBit i = true := by
  unfold sub
  rw [beq_iff_eq]
  constructor
  · intro h i hi
    rw [← h, Nat.testBit_or, hi]
    rfl
  · intro h
    apply Nat.eq_of_testBit_eq
    intro i
    rw [Nat.testBit_or]
    cases ha : a.testBit i with
    | false => rfl
    | true => rw [h i ha]; rfl
theorem mis_bits {x y : Nat} (hx : x < 256) (hy : y < 256) (i : Nat) : (mis x y).testBit i = (x.testBit i && !y.testBit i) := by
  by_cases hi : i < 64
  · have := mis_bv x y hx hy
    rw [← this, BitVec.testBit_toNat, BitVec.getLsbD_and, BitVec.getLsbD_not, ← BitVec.testBit_toNat, ← BitVec.testBit_toNat, ofInt_i64 x (by omega), ofInt_i64 y (by omega)]
    simp [hi]
  · have h1 : x.testBit i = false := Nat.testBit_lt_two_pow (Nat.lt_of_lt_of_le hx (Nat.le_trans (by decide : 256 ≤ 2 ^ 8) (Nat.pow_le_pow_right (by omega) (by omega))))
    have h2 : (mis x y).testBit i = false := Nat.testBit_lt_two_pow (Nat.lt_of_lt_of_le (mis_lt y hx) (Nat.le_trans (by decide : 256 ≤ 2 ^ 8) (Nat.pow_le_pow_right (by omega) (by omega))))
    rw [h1, h2]; rfl
theorem sub_trans {a b c : Nat} (h : sub a b = true) (k : sub b c = true) : sub a c = true := sub_bits.2 fun i hi => sub_bits.1 k i (sub_bits.1 h i hi)
theorem sub_or {a b l : Nat} : sub (a ||| b) l = true ↔ sub a l = true ∧ sub b l = true := by
  constructor
  · intro h
    exact ⟨sub_bits.2 fun i hi => sub_bits.1 h i (by rw [Nat.testBit_or, hi]; rfl), sub_bits.2 fun i hi => sub_bits.1 h i (by rw [Nat.testBit_or, hi]; simp)⟩
  · intro ⟨h, k⟩
    refine sub_bits.2 fun i hi => ?_
    rw [Nat.testBit_or, Bool.or_eq_true] at hi
    exact hi.elim (sub_bits.1 h i) (sub_bits.1 k i)
theorem sub_nil (l : Nat) : sub 0 l = true := by unfold sub; simp
/-- What a check needed and what is there cover it. -/
theorem sub_mis {x y l : Nat} (hx : x < 256) (hy : y < 256) (h : sub (mis x y) l = true) (k : sub y l = true) : sub x l = true := by
  refine sub_bits.2 fun i hi => ?_
  cases hb : y.testBit i with
  | true => exact sub_bits.1 k i hb
  | false => exact sub_bits.1 h i (by rw [mis_bits hx hy, hi, hb]; rfl)

/-! ### what may be known -/
def coreT (t : Th) : Int × Nat × Int × Int × Int × Int := (t.kind, t.label, t.A, t.B, t.G, t.H)
def innerT (l : Nat) (t : Th) (ws : List Int) : Option (Nat × Bool × List Int) :=
  if sub t.label l = true then some (if t.kind = 2 then t.owns else 0, if t.kind = 2 then t.awake else false, ws) else none
def tellS (S : Nat → Th) (l : Nat) (o : Option Nat) (x : (Int × Nat × Int × Int × Int × Int) × Option (Nat × Bool × List Int)) : Option (Nat × (Int × Nat × Int × Int × Int × Int) × Option (Nat × Bool × List Int)) :=
  match o with
  | none => none
  | some c => if sub (S c).label l = true then some (c, x) else none
def obsS (M : MS) (l s : Nat) : Option (Nat × (Int × Nat × Int × Int × Int × Int) × Option (Nat × Bool × List Int)) := tellS M.S l (lies M.S s) (coreT (M.S s), innerT l (M.S s) (M.ws s))
def whoQ (M : MS) (l q : Nat) : Option Nat := match M.lq q with
  | none => none
  | some t => if sub (M.S t).label l = true then some t else none
def obsQ (M : MS) (l q : Nat) : Option (Nat × Option Nat) := match has M.S q with
  | none => none
  | some c => if sub (M.S c).label l = true then some (c, whoQ M l q) else none

/-- Nobody under l can tell one from the other. -/
structure Alike (l : Nat) (M N : MS) : Prop where
  ph : M.ph = N.ph
  slot : ∀ s : Nat, s < 32 → obsS M l s = obsS N l s
  quan : ∀ q : Nat, q < 8 → obsQ M l q = obsQ N l q
/-- Who may be known runs in what may be known. -/
def Tight (l : Nat) (M : MS) : Prop := ∀ q t, q < 8 → M.lq q = some t → sub (M.S t).label l = true → ∃ c, has M.S q = some c ∧ sub (M.S c).label l = true

theorem Alike.refl (l : Nat) (M : MS) : Alike l M M := ⟨rfl, fun _ _ => rfl, fun _ _ => rfl⟩
theorem Alike.symm {l : Nat} {M N : MS} (h : Alike l M N) : Alike l N M := ⟨h.ph.symm, fun s hs => (h.slot s hs).symm, fun q hq => (h.quan q hq).symm⟩
theorem Alike.trans {l : Nat} {M N K : MS} (h : Alike l M N) (k : Alike l N K) : Alike l M K := ⟨h.ph.trans k.ph, fun s hs => (h.slot s hs).trans (k.slot s hs), fun q hq => (h.quan q hq).trans (k.quan q hq)⟩

theorem tellS_some {S : Nat → Th} {l c : Nat} {o : Option Nat} {x} {y} (h : tellS S l o x = some (c, y)) : o = some c ∧ sub (S c).label l = true ∧ x = y := by
  unfold tellS at h
  cases o with
  | none => cases h
  | some c' =>
    dsimp only at h
    split at h
    · rename_i hs
      injection h with h
      injection h with h1 h2
      subst h1
      exact ⟨rfl, hs, h2⟩
    · cases h
theorem tellS_seen {S : Nat → Th} {l c : Nat} {x} (h : sub (S c).label l = true) : tellS S l (some c) x = some (c, x) := if_pos h
theorem tellS_not {S : Nat → Th} {l c : Nat} {x} (h : ¬ sub (S c).label l = true) : tellS S l (some c) x = none := if_neg h

section
variable {l : Nat} {M N : MS}

/-- What lies in something that may be known is the same. -/
theorem Alike.at (A : Alike l M N) {s c : Nat} (hs : s < 32) (hl : lies M.S s = some c) (hc : sub (M.S c).label l = true) :
    lies N.S s = some c ∧ sub (N.S c).label l = true ∧ coreT (N.S s) = coreT (M.S s) ∧ innerT l (N.S s) (N.ws s) = innerT l (M.S s) (M.ws s) := by
  have h := A.slot s hs
  unfold obsS at h
  rw [hl, tellS_seen hc] at h
  obtain ⟨h1, h2, h3⟩ := tellS_some h.symm
  injection h3 with h4 h5
  exact ⟨h1, h2, h4, h5⟩
theorem Alike.atq (A : Alike l M N) {q c : Nat} (hq : q < 8) (hl : has M.S q = some c) (hc : sub (M.S c).label l = true) :
    has N.S q = some c ∧ sub (N.S c).label l = true ∧ whoQ N l q = whoQ M l q := by
  have h := A.quan q hq
  unfold obsQ at h
  rw [hl] at h
  dsimp only at h
  rw [if_pos hc] at h
  cases hn : has N.S q with
  | none => rw [hn] at h; cases h
  | some c' =>
    rw [hn] at h
    dsimp only at h
    split at h
    · rename_i h2
      injection h with h
      injection h with h1 h3
      subst h1
      exact ⟨rfl, h2, h3.symm⟩
    · cases h

theorem MInv.up (h : MInv M) {s c : Nat} (hs : s < 32) (hk : (M.S s).kind ≠ 0) (hl : lies M.S s = some c) (hx : sub (M.S s).label l = true) : sub (M.S c).label l = true := sub_trans (h.tree.lab s c hs hk hl) hx
theorem MInv.zero_core (h : MInv M) : coreT (M.S 0) = (1, 0, 1, 32, 0, 8) := by
  obtain ⟨h1, h2, h3, h4, h5, h6⟩ := h.tree.root
  unfold coreT
  rw [h1, h2, h3, h4, h5, h6]
theorem MInv.zero_inner (h : MInv M) : innerT l (M.S 0) (M.ws 0) = some (0, false, []) := by
  obtain ⟨h1, h2, h3, h4, h5, h6⟩ := h.tree.root
  unfold innerT
  rw [h6, if_pos (sub_nil l), if_neg (by omega), if_neg (by omega), h.others 0 (by omega) (by omega)]

/-- An object that may be known is the same. -/
theorem Alike.obj (A : Alike l M N) (hM : MInv M) (hN : MInv N) {s : Nat} (hs : s < 32) (hk : (M.S s).kind ≠ 0) (hx : sub (M.S s).label l = true) :
    lies N.S s = lies M.S s ∧ (∀ c, lies M.S s = some c → sub (M.S c).label l = true) ∧ coreT (N.S s) = coreT (M.S s) ∧ innerT l (N.S s) (N.ws s) = innerT l (M.S s) (M.ws s) := by
  by_cases h0 : s = 0
  · subst h0
    refine ⟨by rw [hM.tree.lies_zero, hN.tree.lies_zero], (fun c hc => by rw [hM.tree.lies_zero] at hc; cases hc), by rw [hM.zero_core, hN.zero_core], by rw [hM.zero_inner, hN.zero_inner]⟩
  · obtain ⟨c, hc⟩ := hM.tree.lies_root (s := s) (by omega) hs
    have hcl := hM.up hs hk hc hx
    obtain ⟨h1, h2, h3, h4⟩ := A.at hs hc hcl
    exact ⟨by rw [h1, hc], fun c' hc' => by rw [hc] at hc'; injection hc' with e; subst e; exact hcl, h3, h4⟩
end

/-! ### the way -/
inductive PathR (S : Nat → Th) (O T : Nat) : Int → Nat × Int → Prop
  | top {s : Int} : lies S s = none → PathR S O T s (0, 0)
  | down {s : Int} {c : Nat} {p : Nat × Int} : lies S s = some c → PathR S O T c p → PathR S O T s (chk O (S c).label T p)

theorem pathR_of {S : Nat → Th} {O T : Nat} : ∀ (n : Nat) (s : Int), deep S n s → PathR S O T s (pathF S O T n s (0, 0))
  | 0, _, h => h.elim
  | n + 1, s, h => by
    unfold deep at h
    unfold pathF
    cases hl : lies S s with
    | none => exact .top hl
    | some c =>
      rw [hl] at h
      exact .down hl (pathR_of n c h)
theorem PathR.det {S : Nat → Th} {O T : Nat} {s : Int} {p q : Nat × Int} (h : PathR S O T s p) (k : PathR S O T s q) : p = q := by
  induction h generalizing q with
  | top h1 =>
    cases k with
    | top _ => rfl
    | down h2 _ => rw [h1] at h2; cases h2
  | down h1 _ ih =>
    cases k with
    | top h2 => rw [h1] at h2; cases h2
    | down h2 k2 =>
      rw [h1] at h2
      injection h2 with h2
      subst h2
      rw [ih k2]

theorem chk_stop {O x y : Nat} {p : Nat × Int} (h : p.2 ≠ 0) : chk O x y p = p := if_pos h
theorem chk_sub {O x y l : Nat} {p : Nat × Int} (h : sub (chk O x y p).1 l = true) : sub p.1 l = true := by
  rcases chk_used (O := O) (x := x) (y := y) (p := p) with e | ⟨e, _⟩
  · rwa [e] at h
  · rw [e] at h; exact (sub_or.1 h).1
theorem chk_need {O x y l : Nat} {p : Nat × Int} (h : sub (chk O x y p).1 l = true) (k : (chk O x y p).2 = 0) : sub (mis x y) l = true := by
  obtain ⟨_, _, e⟩ := chk_zero k
  rw [e] at h
  exact (sub_or.1 h).2

section
variable {l O T : Nat} {M N : MS}

theorem path_seen (A : Alike l M N) (hM : MInv M) (hN : MInv N) {s : Int} {p : Nat × Int} (h : PathR M.S O T s p) : ∀ n : Nat, s = n → n < 32 → lies N.S n = lies M.S n → (∀ c, lies M.S n = some c → sub (M.S c).label l = true) → PathR N.S O T n p := by
  induction h with
  | @top s hl =>
    intro n hn _ he _
    subst hn
    exact .top (by rw [he, hl])
  | @down s c p hl hp ih =>
    intro n hn _ he hs
    subst hn
    have hc := hs c hl
    obtain ⟨hc32, hck, _, _⟩ := lies_spec hl
    obtain ⟨h1, h2, h3, h4⟩ := A.obj hM hN hc32 (by omega) hc
    have hlab : (N.S c).label = (M.S c).label := by
      have := congrArg (fun t => t.2.1) h3
      exact this
    rw [← hlab]
    exact .down (by rw [he, hl]) (ih c rfl hc32 h1 h2)

/-- The outermost container on the way that may not be known. -/
theorem outer {S : Nat → Th} (hT : Tree S) {c : Int} {p : Nat × Int} (h : PathR S O T c p) : ∀ n : Nat, c = n → n < 32 → (S n).kind = 1 → ¬ sub (S n).label l = true →
    ∃ d e : Nat, d < 32 ∧ (S d).kind = 1 ∧ ¬ sub (S d).label l = true ∧ lies S d = some e ∧ sub (S e).label l = true ∧ (d = n ∨ inside S n d) := by
  induction h with
  | @top s hl =>
    intro n hn h32 hk hx
    subst hn
    exfalso
    by_cases h0 : n = 0
    · subst h0; rw [hT.root.2.2.2.2.2] at hx; exact hx (sub_nil l)
    · obtain ⟨c, hc⟩ := hT.lies_root (s := n) (by omega) h32
      rw [hl] at hc; cases hc
  | @down s c p hl hp ih =>
    intro n hn h32 hk hx
    subst hn
    obtain ⟨hc32, hck, hcr, _⟩ := lies_spec hl
    by_cases hc : sub (S c).label l = true
    · exact ⟨n, c, h32, hk, hx, hl, hc, Or.inl rfl⟩
    · obtain ⟨d, e, h1, h2, h3, h4, h5, h6⟩ := ih c rfl hc32 hck hc
      have hin := hT.slot_inside h32 hk hc32 hck hcr
      refine ⟨d, e, h1, h2, h3, h4, h5, Or.inr ?_⟩
      rcases h6 with rfl | h6
      · exact hin
      · exact hin.trans h6

/-- Below it the way ends there. -/
theorem path_fail {S : Nat → Th} (hS : Tree S) (hT : sub T l = true) (hT2 : T < 256) {d : Nat} (hd : d < 32) (hk : (S d).kind = 1) (hx : ¬ sub (S d).label l = true) {pd : Nat × Int} (hpd : PathR S O T d pd) {s : Int} {p : Nat × Int} (h : PathR S O T s p) :
    (S d).inR s → sub p.1 l = true → p = chk O (S d).label T pd ∧ p.2 ≠ 0 := by
  induction h with
  | @top s hl =>
    intro hr _
    obtain ⟨c, hc⟩ := lies_some hd hk hr
    rw [hl] at hc; cases hc
  | @down s c p hl hp ih =>
    intro hr hu
    rcases hS.lies_inside hl hd hk hr with e | e
    · subst e
      have e2 := hp.det hpd
      subst e2
      refine ⟨rfl, fun hz => hx ?_⟩
      exact sub_mis (hS.wf d hd).1 hT2 (chk_need hu hz) hT
    · obtain ⟨h1, h2⟩ := ih e.slot (chk_sub hu)
      rw [chk_stop h2]
      exact ⟨h1, h2⟩

theorem core_eq {t u : Th} (h : coreT t = coreT u) : t.kind = u.kind ∧ t.label = u.label ∧ t.A = u.A ∧ t.B = u.B ∧ t.G = u.G ∧ t.H = u.H := by
  unfold coreT at h
  injection h with h1 h
  injection h with h2 h
  injection h with h3 h
  injection h with h4 h
  injection h with h5 h6
  exact ⟨h1, h2, h3, h4, h5, h6⟩

/-- The way to a slot, in both. -/
theorem path_alike (A : Alike l M N) (hM : MInv M) (hN : MInv N) (hT : sub T l = true) (hT2 : T < 256) {s : Nat} (hs : s < 32) {p q : Nat × Int} (hp : PathR M.S O T s p) (hq : PathR N.S O T s q) (up : sub p.1 l = true) (uq : sub q.1 l = true) :
    p = q ∧ (p.2 = 0 → lies N.S s = lies M.S s ∧ ∀ c, lies M.S s = some c → sub (M.S c).label l = true) := by
  cases hl : lies M.S s with
  | none =>
    have h0 : s = 0 := by
      by_cases h0 : s = 0
      · exact h0
      · obtain ⟨c, hc⟩ := hM.tree.lies_root (s := s) (by omega) hs
        rw [hl] at hc; cases hc
    have hn : lies N.S s = none := by rw [h0]; exact hN.tree.lies_zero
    have := path_seen A hM hN hp s rfl hs (by rw [hn, hl]) (fun c hc => by rw [hl] at hc; cases hc)
    exact ⟨this.det hq, fun _ => ⟨hn, fun c hc => by cases hc⟩⟩
  | some c =>
    obtain ⟨hc32, hck, hcr, _⟩ := lies_spec hl
    by_cases hc : sub (M.S c).label l = true
    · obtain ⟨h1, h2, h3, h4⟩ := A.at hs hl hc
      have := path_seen A hM hN hp s rfl hs (by rw [h1, hl]) (fun c' hc' => by rw [hl] at hc'; injection hc' with e; subst e; exact hc)
      exact ⟨this.det hq, fun _ => ⟨h1, fun c' hc' => by injection hc' with e; subst e; exact hc⟩⟩
    · have hpc : ∃ pc, PathR M.S O T c pc := ⟨_, pathR_of DEEP c (hM.tree.deep c)⟩
      obtain ⟨pc, hpc⟩ := hpc
      obtain ⟨d, e, d1, d2, d3, d4, d5, d6⟩ := outer hM.tree hpc c rfl hc32 hck hc
      have hrd : (M.S d).inR s := by
        rcases d6 with e6 | e6
        · rw [e6]; exact hcr
        · exact e6.sub _ hcr
      obtain ⟨g1, g2, g3, g4⟩ := A.at d1 d4 d5
      obtain ⟨c1, c2, c3, c4, c5, c6⟩ := core_eq g3
      have hpd : PathR M.S O T d (pathF M.S O T DEEP d (0, 0)) := pathR_of DEEP d (hM.tree.deep d)
      have hpd2 := path_seen A hM hN hpd d rfl d1 (by rw [g1, d4]) (fun c' hc' => by rw [d4] at hc'; injection hc' with e'; subst e'; exact d5)
      have r1 := path_fail hM.tree hT hT2 d1 d2 d3 hpd hp hrd up
      have r2 := path_fail hN.tree hT hT2 d1 (by rw [c1, d2]) (by rw [c2]; exact d3) hpd2 hq (by unfold Th.inR at hrd ⊢; rw [c3, c4]; exact hrd) uq
      refine ⟨?_, fun hz => absurd hz r1.2⟩
      rw [r1.1, r2.1, c2]

/-- The way to a quantum, in both. -/
theorem reach_alike (A : Alike l M N) (hM : MInv M) (hN : MInv N) (hT : sub T l = true) (hT2 : T < 256) {i c c' : Nat} (hi : i < 8) (hc : has M.S i = some c) (hc' : has N.S i = some c') {p q : Nat × Int} (hp : PathR M.S O T c p) (hq : PathR N.S O T c' q)
    (up : sub (chk O (M.S c).label T p).1 l = true) (uq : sub (chk O (N.S c').label T q).1 l = true) :
    chk O (M.S c).label T p = chk O (N.S c').label T q ∧ ((chk O (M.S c).label T p).2 = 0 → c' = c ∧ sub (M.S c).label l = true) := by
  obtain ⟨hc32, hck, hcq, _⟩ := has_spec hc
  by_cases hs : sub (M.S c).label l = true
  · obtain ⟨h1, h2, h3⟩ := A.atq hi hc hs
    rw [hc'] at h1
    injection h1 with h1
    subst h1
    obtain ⟨g1, g2, g3, g4⟩ := A.obj hM hN hc32 (by omega) hs
    have := path_seen A hM hN hp c' rfl hc32 g1 g2
    rw [this.det hq, (core_eq g3).2.1]
    exact ⟨rfl, fun _ => ⟨rfl, hs⟩⟩
  · obtain ⟨d, e, d1, d2, d3, d4, d5, d6⟩ := outer hM.tree hp c rfl hc32 hck hs
    obtain ⟨g1, g2, g3, g4⟩ := A.at d1 d4 d5
    obtain ⟨c1, c2, c3, c4, c5, c6⟩ := core_eq g3
    have hpd : PathR M.S O T d (pathF M.S O T DEEP d (0, 0)) := pathR_of DEEP d (hM.tree.deep d)
    have hpd2 := path_seen A hM hN hpd d rfl d1 (by rw [g1, d4]) (fun c' hc' => by rw [d4] at hc'; injection hc' with e'; subst e'; exact d5)
    have hqd : (N.S d).inQ i := by
      have : (M.S d).inQ i := by
        rcases d6 with e6 | e6
        · rw [e6]; exact hcq
        · exact e6.subq _ hcq
      unfold Th.inQ at this ⊢
      rw [c5, c6]; exact this
    have key : ∀ {K : MS} (hK : MInv K) {c : Nat} {p : Nat × Int} (hk : (K.S d).kind = 1) (hx : ¬ sub (K.S d).label l = true) (hpd : PathR K.S O T d (pathF M.S O T DEEP d (0, 0))) (hp : PathR K.S O T c p) (hd : d = c ∨ inside K.S c d) (up : sub (chk O (K.S c).label T p).1 l = true),
        chk O (K.S c).label T p = chk O (K.S d).label T (pathF M.S O T DEEP d (0, 0)) ∧ (chk O (K.S c).label T p).2 ≠ 0 := by
      intro K hK c p hk hx hpd hp hd up
      rcases hd with rfl | hd
      · rw [hp.det hpd] at up ⊢
        exact ⟨rfl, fun hz => hx (sub_mis (hK.tree.wf d d1).1 hT2 (chk_need up hz) hT)⟩
      · obtain ⟨r1, r2⟩ := path_fail hK.tree hT hT2 d1 hk hx hpd hp hd.slot (chk_sub up)
        rw [chk_stop r2]
        exact ⟨r1, r2⟩
    obtain ⟨r1, r2⟩ := key hM d2 d3 hpd hp (d6.imp id id) up
    obtain ⟨r3, r4⟩ := key hN (by rw [c1, d2]) (by rw [c2]; exact d3) hpd2 hq (hN.tree.has_inside hc' d1 (by rw [c1, d2]) hqd) uq
    refine ⟨?_, fun hz => absurd hz r2⟩
    rw [r1, r3, c2]
end

end Go.Proofs.Ytloppmepfkkblaa
end

section
/- What may be known behind each thing that is done. Without conditions. -/
open Go Go.RowKit
namespace Go.Proofs.Ytloppmepfkkblaa

theorem tellS_lab {S S' : Nat → Th} {l : Nat} {o : Option Nat} {x} (h : ∀ c, o = some c → (S' c).label = (S c).label) : tellS S' l o x = tellS S l o x := by
  unfold tellS
  cases o with
  | none => rfl
  | some c => dsimp only; rw [h c rfl]

section
variable {l : Nat} {M : MS}

/-! ### something new that is no container -/
theorem obsS_put (_h : MInv M) {s : Nat} (hk : (M.S s).kind = 0) {t : Th} (ht : t.kind ≠ 1) (ws : List Int) (x : Nat) :
    obsS (M.put s t ws) l x = if x = s then tellS M.S l (lies M.S s) (coreT t, innerT l t ws) else obsS M l x := by
  have hl : ∀ y : Int, lies (upd M.S s t) y = lies M.S y := lies_congr (sameC_upd (by omega) ht)
  have hlab : ∀ (y : Int) c, lies M.S y = some c → (upd M.S s t c).label = (M.S c).label := fun y c hc => by
    have := (lies_spec hc).2.1
    rw [upd_ne _ _ (fun e => by rw [e, hk] at this; omega)]
  unfold obsS MS.put
  dsimp only
  rw [hl, tellS_lab (hlab x)]
  by_cases e : x = s
  · subst e
    rw [if_pos rfl, upd_same, upd_same]
  · rw [if_neg e, upd_ne _ _ e, upd_ne _ _ e]

theorem obsQ_put (h : MInv M) {s : Nat} (hk : (M.S s).kind = 0) {t : Th} (ht : t.kind ≠ 1) (ws : List Int) (q : Nat) : obsQ (M.put s t ws) l q = obsQ M l q := by
  have hl : ∀ y : Int, has (upd M.S s t) y = has M.S y := has_congr (sameC_upd (by omega) ht)
  unfold obsQ MS.put whoQ
  dsimp only
  rw [hl]
  cases hh : has M.S q with
  | none => rfl
  | some c =>
    have := (has_spec hh).2.1
    have e1 : upd M.S s t c = M.S c := upd_ne _ _ (fun e => by rw [e, hk] at this; omega)
    cases hq : M.lq q with
    | none => simp only [e1]
    | some u =>
      have := (h.live q u hq).2
      have e2 : upd M.S s t u = M.S u := upd_ne _ _ (fun e => by rw [e, hk] at this; omega)
      simp only [e1, e2]

/-! ### words -/
theorem obsS_words (s : Nat) (ws : List Int) (x : Nat) : obsS (M.words s ws) l x = if x = s then tellS M.S l (lies M.S s) (coreT (M.S s), innerT l (M.S s) ws) else obsS M l x := by
  unfold obsS MS.words
  dsimp only
  by_cases e : x = s
  · subst e
    rw [if_pos rfl, upd_same]
  · rw [if_neg e, upd_ne _ _ e]
theorem obsQ_words (s : Nat) (ws : List Int) (q : Nat) : obsQ (M.words s ws) l q = obsQ M l q := rfl

/-! ### awake -/
theorem obsS_awake {s : Nat} (hk : (M.S s).kind = 2) (v : Bool) (x : Nat) : obsS (M.awake s v) l x = if x = s then tellS M.S l (lies M.S s) (coreT (M.S s), innerT l { M.S s with awake := v } (M.ws s)) else obsS M l x := by
  have hl : ∀ y : Int, lies (upd M.S s { M.S s with awake := v }) y = lies M.S y := lies_congr (sameC_upd (by omega) (show (M.S s).kind ≠ 1 by omega))
  have hlab : ∀ (y : Int) c, lies M.S y = some c → (upd M.S s { M.S s with awake := v } c).label = (M.S c).label := fun y c hc => by
    have := (lies_spec hc).2.1
    rw [upd_ne _ _ (fun e => by rw [e, hk] at this; omega)]
  unfold obsS MS.awake
  dsimp only
  rw [hl, tellS_lab (hlab x)]
  by_cases e : x = s
  · subst e
    rw [if_pos rfl, upd_same]
    rfl
  · rw [if_neg e, upd_ne _ _ e]
theorem obsQ_awake {s : Nat} (hk : (M.S s).kind = 2) (v : Bool) (q : Nat) : obsQ (M.awake s v) l q = obsQ M l q := by
  have hl : ∀ y : Int, has (upd M.S s { M.S s with awake := v }) y = has M.S y := has_congr (sameC_upd (by omega) (show (M.S s).kind ≠ 1 by omega))
  have hlab : ∀ c, (upd M.S s { M.S s with awake := v } c).label = (M.S c).label := fun c => by
    by_cases e : c = s
    · subst e; rw [upd_same]
    · rw [upd_ne _ _ e]
  unfold obsQ MS.awake whoQ
  dsimp only
  simp only [hl, hlab]

/-! ### turns -/
theorem obsS_turn (q : Nat) (t : Option Nat) (x : Nat) : obsS (M.turn q t) l x = obsS M l x := rfl
theorem obsQ_turn (q : Nat) (t : Option Nat) (i : Nat) : obsQ (M.turn q t) l i = if i = q then (match has M.S q with | none => none | some c => if sub (M.S c).label l = true then some (c, match t with | none => none | some u => if sub (M.S u).label l = true then some u else none) else none) else obsQ M l i := by
  unfold obsQ MS.turn whoQ
  dsimp only
  by_cases e : i = q
  · subst e
    rw [if_pos rfl, upd_same]
    all_goals rfl
  · rw [if_neg e, upd_ne _ _ e]

/-! ### a new container -/
theorem cont_lies {S : Nat → Th} {s c lb a e g k : Nat} (hT : Tree (upd S s (contT lb a e g k))) (hs : s < 32) (hk : (S s).kind = 0) (hr : Roomy S c s a e g k) (x : Nat) : lies (upd S s (contT lb a e g k)) x = if a ≤ x ∧ x < e then some s else lies S x := by
  by_cases hx : a ≤ x ∧ x < e
  · rw [if_pos hx]
    have hR : ((upd S s (contT lb a e g k)) s).inR x := by rw [upd_same]; show (a : Int) ≤ x ∧ (x : Int) < e; omega
    refine hT.lies_of hs (by rw [upd_same]; rfl) hR (fun d hd hd1 hd2 => ?_)
    by_cases ed : d = s
    · exact Or.inl ed
    · rcases hT.sib s d hs hd (by rw [upd_same]; rfl) hd1 (fun e => ed e.symm) (Or.inl ⟨x, hR, hd2⟩) with h6 | h6
      · exact Or.inr h6
      · have := h6.slot
        rw [upd_same] at this
        have this : (a : Int) ≤ d ∧ (d : Int) < e := this
        have h0 := (hr.slots d (by omega) (by omega)).1
        rw [upd_ne _ _ ed, h0] at hd1
        omega
  · rw [if_neg hx]
    exact lies_more (by omega) (fun h => hx (by have h : (a : Int) ≤ x ∧ (x : Int) < e := h; omega))
theorem cont_has {S : Nat → Th} {s c lb a e g k : Nat} (hT : Tree (upd S s (contT lb a e g k))) (hs : s < 32) (hk : (S s).kind = 0) (hr : Roomy S c s a e g k) (q : Nat) : has (upd S s (contT lb a e g k)) q = if g ≤ q ∧ q < k then some s else has S q := by
  by_cases hx : g ≤ q ∧ q < k
  · rw [if_pos hx]
    have hR : ((upd S s (contT lb a e g k)) s).inQ q := by rw [upd_same]; show (g : Int) ≤ q ∧ (q : Int) < k; omega
    refine hT.has_of hs (by rw [upd_same]; rfl) hR (fun d hd hd1 hd2 => ?_)
    by_cases ed : d = s
    · exact Or.inl ed
    · rcases hT.sib s d hs hd (by rw [upd_same]; rfl) hd1 (fun e => ed e.symm) (Or.inr (Or.inl ⟨q, hR, hd2⟩)) with h6 | h6
      · exact Or.inr h6
      · have := h6.slot
        rw [upd_same] at this
        have this : (a : Int) ≤ d ∧ (d : Int) < e := this
        have h0 := (hr.slots d (by omega) (by omega)).1
        rw [upd_ne _ _ ed, h0] at hd1
        omega
  · rw [if_neg hx]
    exact has_more (by omega) (fun h => hx (by have h : (g : Int) ≤ q ∧ (q : Int) < k := h; omega))

theorem obsS_cont (h : MInv M) {s c lb a e g k : Nat} (hT : Tree (upd M.S s (contT lb a e g k))) (hs : s < 32) (hk : (M.S s).kind = 0) (hr : Roomy M.S c s a e g k) (x : Nat) :
    obsS ((M.put s (contT lb a e g k) []).idle g k) l x = if x = s then tellS M.S l (lies M.S s) (coreT (contT lb a e g k), innerT l (contT lb a e g k) []) else if a ≤ x ∧ x < e then (if sub lb l = true then some (s, coreT fth, innerT l fth []) else none) else obsS M l x := by
  have hlab : ∀ (y : Int) c, lies M.S y = some c → (upd M.S s (contT lb a e g k) c).label = (M.S c).label := fun y c hc => by
    have := (lies_spec hc).2.1
    rw [upd_ne _ _ (fun e => by rw [e, hk] at this; omega)]
  show tellS (upd M.S s (contT lb a e g k)) l (lies (upd M.S s (contT lb a e g k)) x) (coreT (upd M.S s (contT lb a e g k) x), innerT l (upd M.S s (contT lb a e g k) x) (upd M.ws s [] x)) = _
  rw [cont_lies hT hs hk hr]
  by_cases ex : x = s
  · subst ex
    rw [if_pos rfl, if_neg hr.own, upd_same, upd_same, tellS_lab (hlab x)]
  · rw [if_neg ex, upd_ne _ _ ex, upd_ne _ _ ex]
    by_cases hx : a ≤ x ∧ x < e
    · rw [if_pos hx, if_pos hx]
      have h0 := (hr.slots x hx.1 hx.2).1
      rw [h.free x h0, h.others x (by omega) (by omega)]
      unfold tellS
      dsimp only
      rw [upd_same]
      rfl
    · rw [if_neg hx, if_neg hx, tellS_lab (hlab x)]
      rfl
theorem obsQ_cont (h : MInv M) {s c lb a e g k : Nat} (hT : Tree (upd M.S s (contT lb a e g k))) (hs : s < 32) (hk : (M.S s).kind = 0) (hr : Roomy M.S c s a e g k) (q : Nat) :
    obsQ ((M.put s (contT lb a e g k) []).idle g k) l q = if g ≤ q ∧ q < k then (if sub lb l = true then some (s, none) else none) else obsQ M l q := by
  unfold obsQ whoQ
  show (match has (upd M.S s (contT lb a e g k)) q with | none => none | some c => if sub (upd M.S s (contT lb a e g k) c).label l = true then some (c, match (if g ≤ q ∧ q < k then none else M.lq q) with | none => none | some t => if sub (upd M.S s (contT lb a e g k) t).label l = true then some t else none) else none) = _
  rw [cont_has hT hs hk hr]
  by_cases hx : g ≤ q ∧ q < k
  · rw [if_pos hx, if_pos hx, if_pos hx]
    simp only [upd_same]
    rfl
  · rw [if_neg hx, if_neg hx, if_neg hx]
    cases hh : has M.S q with
    | none => rfl
    | some c =>
      have := (has_spec hh).2.1
      have e1 : upd M.S s (contT lb a e g k) c = M.S c := upd_ne _ _ (fun e => by rw [e, hk] at this; omega)
      cases hq : M.lq q with
      | none => simp only [e1]
      | some u =>
        have := (h.live q u hq).2
        have e2 : upd M.S s (contT lb a e g k) u = M.S u := upd_ne _ _ (fun e => by rw [e, hk] at this; omega)
        simp only [e1, e2]

/-! ### what goes -/
theorem Tree.cc_stays {S : Nat → Th} (h : Tree S) {s cc : Nat} (hs : s < 32) (hl : lies S s = some cc) : ¬ goes S s cc := by
  obtain ⟨h1, h2, h3, _⟩ := lies_spec hl
  rintro (e | ⟨hk, g1, g2⟩)
  · subst e; exact h.own cc hs h2 h3
  · have i1 := h.slot_inside h1 h2 hs hk ⟨g1, g2⟩
    have := i1.sub _ h3
    exact h.own s hs hk this
theorem wiped_lies {S : Nat → Th} (h : Tree S) {s : Nat} (hs : s < 32) (hs0 : s ≠ 0) {x : Nat} (hx : ¬ goes S s x) (h32 : x < 32) : lies (wiped S s) x = lies S x := by
  have hW := h.wiped hs hs0
  by_cases h0 : x = 0
  · subst h0; rw [hW.lies_zero, h.lies_zero]
  · obtain ⟨d, hd⟩ := h.lies_root (s := x) (by omega) h32
    have hdg := h.stays hs hx hd
    obtain ⟨d1, d2, d3, _⟩ := lies_spec hd
    rw [hd]
    refine hW.lies_of d1 (by rw [wiped_in hdg]; exact d2) (by rw [wiped_in hdg]; exact d3) (fun f f1 f2 f3 => ?_)
    obtain ⟨g1, g2⟩ := wiped_kind f2
    rw [g2] at f2 f3
    rcases h.lies_inside hd f1 f2 f3 with e | e
    · exact Or.inl e
    · exact Or.inr (inside_congr (by rw [wiped_in hdg]; exact ⟨rfl, rfl, rfl, rfl⟩) (by rw [g2]; exact ⟨rfl, rfl, rfl, rfl⟩) e)
theorem wiped_lies_in {S : Nat → Th} (h : Tree S) {s cc : Nat} (hs : s < 32) (hs0 : s ≠ 0) (hl : lies S s = some cc) {x : Nat} (hx : goes S s x) : lies (wiped S s) x = some cc := by
  have hW := h.wiped hs hs0
  have hcg := h.cc_stays hs hl
  obtain ⟨c1, c2, c3, _⟩ := lies_spec hl
  have hin : ∀ d, d < 32 → (S d).kind = 1 → (S d).inR s → d = cc ∨ inside S cc d := fun d d1 d2 d3 => h.lies_inside hl d1 d2 d3
  have hcx : (S cc).inR x := by
    rcases hx with rfl | ⟨hk, g1, g2⟩
    · exact c3
    · exact (h.slot_inside hs hk c1 c2 c3).sub _ ⟨g1, g2⟩
  refine hW.lies_of c1 (by rw [wiped_in hcg]; exact c2) (by rw [wiped_in hcg]; exact hcx) (fun f f1 f2 f3 => ?_)
  obtain ⟨g1, g2⟩ := wiped_kind f2
  rw [g2] at f2 f3
  have hfs : (S f).inR s := by
    rcases hx with rfl | ⟨hk, q1, q2⟩
    · exact f3
    · have hne : s ≠ f := fun e => g1 (Or.inl e.symm)
      rcases h.sib s f hs f1 hk f2 hne (Or.inl ⟨x, ⟨q1, q2⟩, f3⟩) with h6 | h6
      · exact h6.slot
      · exact absurd (Or.inr ⟨hk, h6.slot.1, h6.slot.2⟩) g1
  rcases hin f f1 f2 hfs with e | e
  · exact Or.inl e
  · exact Or.inr (inside_congr (by rw [wiped_in hcg]; exact ⟨rfl, rfl, rfl, rfl⟩) (by rw [g2]; exact ⟨rfl, rfl, rfl, rfl⟩) e)
theorem wiped_has_in {S : Nat → Th} (h : Tree S) {s cc : Nat} (hs : s < 32) (hs0 : s ≠ 0) (hl : lies S s = some cc) (hk : (S s).kind = 1) {q : Nat} (hq : (S s).inQ q) : has (wiped S s) q = some cc := by
  have hW := h.wiped hs hs0
  have hcg := h.cc_stays hs hl
  obtain ⟨c1, c2, c3, _⟩ := lies_spec hl
  refine hW.has_of c1 (by rw [wiped_in hcg]; exact c2) (by rw [wiped_in hcg]; exact (h.slot_inside hs hk c1 c2 c3).subq _ hq) (fun f f1 f2 f3 => ?_)
  obtain ⟨g1, g2⟩ := wiped_kind f2
  rw [g2] at f2 f3
  have hfs : (S f).inR s := by
    have hne : s ≠ f := fun e => g1 (Or.inl e.symm)
    rcases h.sib s f hs f1 hk f2 hne (Or.inr (Or.inl ⟨q, hq, f3⟩)) with h6 | h6
    · exact h6.slot
    · exact absurd (Or.inr ⟨hk, h6.slot.1, h6.slot.2⟩) g1
  rcases h.lies_inside hl f1 f2 hfs with e | e
  · exact Or.inl e
  · exact Or.inr (inside_congr (by rw [wiped_in hcg]; exact ⟨rfl, rfl, rfl, rfl⟩) (by rw [g2]; exact ⟨rfl, rfl, rfl, rfl⟩) e)
theorem wiped_has {S : Nat → Th} (h : Tree S) {s : Nat} (hs : s < 32) (hs0 : s ≠ 0) {q : Nat} (h8 : q < 8) (hq : ¬ ((S s).kind = 1 ∧ (S s).inQ q)) : has (wiped S s) q = has S q ∧ ∀ c, has S q = some c → ¬ goes S s c := by
  have hW := h.wiped hs hs0
  obtain ⟨d, hd⟩ := h.has_root h8
  obtain ⟨d1, d2, d3, _⟩ := has_spec hd
  have hdg : ¬ goes S s d := by
    rintro (e | ⟨hk, g1, g2⟩)
    · subst e; exact hq ⟨d2, d3⟩
    · exact hq ⟨hk, (h.slot_inside d1 d2 hs hk ⟨g1, g2⟩).subq _ d3⟩
  refine ⟨?_, fun c hc => by rw [hd] at hc; injection hc with hc; subst hc; exact hdg⟩
  rw [hd]
  refine hW.has_of d1 (by rw [wiped_in hdg]; exact d2) (by rw [wiped_in hdg]; exact d3) (fun f f1 f2 f3 => ?_)
  obtain ⟨g1, g2⟩ := wiped_kind f2
  rw [g2] at f2 f3
  rcases h.has_inside hd f1 f2 f3 with e | e
  · exact Or.inl e
  · exact Or.inr (inside_congr (by rw [wiped_in hdg]; exact ⟨rfl, rfl, rfl, rfl⟩) (by rw [g2]; exact ⟨rfl, rfl, rfl, rfl⟩) e)

theorem obsS_gone (h : MInv M) {s cc : Nat} (hs : s < 32) (hs0 : s ≠ 0) (hl : lies M.S s = some cc) {x : Nat} (h32 : x < 32) :
    obsS (M.gone s) l x = if goes M.S s x then tellS M.S l (some cc) (coreT fth, innerT l fth []) else obsS M l x := by
  have hcg := h.tree.cc_stays hs hl
  show tellS (wiped M.S s) l (lies (wiped M.S s) x) (coreT (wiped M.S s x), innerT l (wiped M.S s x) (if goes M.S s x then [] else M.ws x)) = _
  by_cases hx : goes M.S s x
  · rw [if_pos hx, if_pos hx, wiped_lies_in h.tree hs hs0 hl hx, show wiped M.S s x = fth from if_pos hx]
    exact tellS_lab (fun c hc => by injection hc with hc; subst hc; rw [wiped_in hcg])
  · rw [if_neg hx, if_neg hx, wiped_lies h.tree hs hs0 hx h32, wiped_in hx]
    exact tellS_lab (fun c hc => by rw [wiped_in (h.tree.stays hs hx hc)])
theorem obsQ_gone (h : MInv M) {s cc : Nat} (hs : s < 32) (hs0 : s ≠ 0) (hl : lies M.S s = some cc) {q : Nat} (h8 : q < 8) :
    obsQ (M.gone s) l q = if (M.S s).kind = 1 ∧ (M.S s).G ≤ q ∧ (q : Int) < (M.S s).H then (if sub (M.S cc).label l = true then some (cc, none) else none) else (match has M.S q with | none => none | some c => if sub (M.S c).label l = true then some (c, (whoQ M l q).bind fun t => if goes M.S s t then none else some t) else none) := by
  have hcg := h.tree.cc_stays hs hl
  unfold obsQ whoQ
  show (match has (wiped M.S s) q with | none => none | some c => if sub (wiped M.S s c).label l = true then some (c, match (if (M.S s).kind = 1 ∧ (M.S s).G ≤ q ∧ (q : Int) < (M.S s).H then none else (M.lq q).bind fun t => if goes M.S s t then none else some t) with | none => none | some t => if sub (wiped M.S s t).label l = true then some t else none) else none) = _
  by_cases hx : (M.S s).kind = 1 ∧ (M.S s).G ≤ q ∧ (q : Int) < (M.S s).H
  · rw [if_pos hx, wiped_has_in h.tree hs hs0 hl hx.1 hx.2, if_pos hx]
    simp only [wiped_in hcg]
  · obtain ⟨e1, e2⟩ := wiped_has h.tree hs hs0 h8 hx
    rw [if_neg hx, e1, if_neg hx]
    cases hh : has M.S q with
    | none => rfl
    | some c =>
      have e3 := wiped_in (e2 c hh)
      cases hq : M.lq q with
      | none => simp only [e3, Option.bind]
      | some t =>
        by_cases hg : goes M.S s t
        · by_cases hx2 : sub (M.S t).label l = true
          · simp only [e3, Option.bind, if_pos hg, if_pos hx2]
          · simp only [e3, Option.bind, if_pos hg, if_neg hx2]
        · have e4 := wiped_in hg
          by_cases hx2 : sub (M.S t).label l = true
          · simp only [e3, e4, Option.bind, if_neg hg, if_pos hx2]
          · simp only [e3, e4, Option.bind, if_neg hg, if_neg hx2]
end

end Go.Proofs.Ytloppmepfkkblaa
end

section
/- What is asked by one who is not heard, and lets nothing out, changes nothing that may be known. Without conditions. -/
open Go Go.RowKit
namespace Go.Proofs.Ytloppmepfkkblaa

theorem failed_used (e : Int) (p : Nat × Int) : (failed e p).1 = p.1 := by unfold failed; split <;> rfl
theorem thereF_used (S : Nat → Th) (s : Nat) (p : Nat × Int) : (thereF S s p).1 = p.1 := by unfold thereF; split; exact failed_used _ _; rfl
theorem kindF_used (S : Nat → Th) (s : Nat) (k : Int) (p : Nat × Int) : (kindF S s k p).1 = p.1 := by unfold kindF; split; rfl; exact failed_used _ _

theorem making_full {S : Nat → Th} {O T n c s lb : Nat} {p : Nat × Int} (h : (makingF S O T n c s lb p).2 = 0) :
    Made S c s lb ∧ (pathF S O T n c p).2 = 0 ∧ (makingF S O T n c s lb p).1 = (((pathF S O T n c p).1 ||| mis (S c).label T) ||| mis T (S c).label) ||| mis T lb := by
  refine ⟨making_zero h, ?_⟩
  unfold makingF at h ⊢
  dsimp only at h ⊢
  obtain ⟨h1, _, e1⟩ := chk_zero h
  obtain ⟨h2, h3⟩ := if_zero (by decide) h1
  rw [if_pos h2] at e1
  obtain ⟨h4, h5⟩ := if_zero (by decide) h3
  rw [if_pos h4] at e1
  obtain ⟨h6, h7⟩ := if_zero (by decide) h5
  rw [if_pos h6] at e1
  obtain ⟨h8, _, e2⟩ := chk_zero h7
  obtain ⟨h9, _, e3⟩ := chk_zero h8
  obtain ⟨h10, h11⟩ := if_zero' (by decide) h9
  rw [if_neg h10] at e3
  refine ⟨h11, ?_⟩
  rw [if_pos h2, if_pos h4, if_pos h6, if_neg h10] at *
  rw [e1, e2, e3]

/-- Labels grow inwards. -/
theorem Tree.lab_in {S : Nat → Th} (h : Tree S) {O T : Nat} {d : Int} {p : Nat × Int} (hp : PathR S O T d p) : ∀ n : Nat, d = n → n < 32 → (S n).kind ≠ 0 → ∀ s : Nat, s < 32 → (S s).kind = 1 → (S s).inR n → sub (S s).label (S n).label = true := by
  induction hp with
  | @top d hl =>
    intro n hn h32 hk s hs hsk hr
    subst hn
    obtain ⟨c, hc⟩ := lies_some hs hsk hr
    rw [hl] at hc; cases hc
  | @down d c p hl _ ih =>
    intro n hn h32 hk s hs hsk hr
    subst hn
    obtain ⟨c1, c2, c3, _⟩ := lies_spec hl
    have hlab := h.lab n c h32 hk hl
    rcases h.lies_inside hl hs hsk hr with e | e
    · rw [e]; exact hlab
    · exact sub_trans (ih c rfl c1 (by omega) s hs hsk e.slot) hlab
theorem Tree.lab_in' {S : Nat → Th} (h : Tree S) {n s : Nat} (h32 : n < 32) (hk : (S n).kind ≠ 0) (hs : s < 32) (hsk : (S s).kind = 1) (hr : (S s).inR n) : sub (S s).label (S n).label = true :=
  h.lab_in (O := 0) (T := 0) (pathR_of DEEP n (h.deep n)) n rfl h32 hk s hs hsk hr

section
variable {l : Nat} {M : MS}

theorem alike_put_hid (h : MInv M) {s c : Nat} (hk : (M.S s).kind = 0) (hl : lies M.S s = some c) (hc : ¬ sub (M.S c).label l = true) {t : Th} (ht : t.kind ≠ 1) (ws : List Int) : Alike l M (M.put s t ws) := by
  refine ⟨rfl, fun x _ => ?_, fun q _ => (obsQ_put h hk ht ws q).symm⟩
  rw [obsS_put h hk ht]
  by_cases e : x = s
  · subst e
    rw [if_pos rfl]
    unfold obsS
    rw [hl, tellS_not hc, tellS_not hc]
  · rw [if_neg e]
theorem alike_words_hid {s : Nat} (hx : ¬ sub (M.S s).label l = true) (ws : List Int) : Alike l M (M.words s ws) := by
  refine ⟨rfl, fun x _ => ?_, fun q _ => rfl⟩
  rw [obsS_words]
  by_cases e : x = s
  · subst e
    rw [if_pos rfl]
    unfold obsS innerT
    rw [if_neg hx, if_neg hx]
  · rw [if_neg e]
theorem alike_awake_hid {s : Nat} (hk : (M.S s).kind = 2) (hx : ¬ sub (M.S s).label l = true) (v : Bool) : Alike l M (M.awake s v) := by
  refine ⟨rfl, fun x _ => ?_, fun q _ => (obsQ_awake hk v q).symm⟩
  rw [obsS_awake hk]
  by_cases e : x = s
  · subst e
    rw [if_pos rfl]
    unfold obsS innerT
    dsimp only
    rw [if_neg hx, if_neg hx]
  · rw [if_neg e]
theorem alike_turn_hid {q c : Nat} (hq : has M.S q = some c) (hc : ¬ sub (M.S c).label l = true) (t : Option Nat) : Alike l M (M.turn q t) := by
  refine ⟨rfl, fun x _ => rfl, fun i _ => ?_⟩
  rw [obsQ_turn]
  by_cases e : i = q
  · subst e
    rw [if_pos rfl]
    unfold obsQ
    rw [hq]
    dsimp only
    rw [if_neg hc, if_neg hc]
  · rw [if_neg e]
theorem alike_cont_hid (h : MInv M) {s c lb a e g k : Nat} (hT : Tree (upd M.S s (contT lb a e g k))) (hs : s < 32) (hk : (M.S s).kind = 0) (hl : lies M.S s = some c) (hc : ¬ sub (M.S c).label l = true) (hlb : ¬ sub lb l = true) (hr : Roomy M.S c s a e g k) :
    Alike l M ((M.put s (contT lb a e g k) []).idle g k) := by
  refine ⟨rfl, fun x _ => ?_, fun q _ => ?_⟩
  · rw [obsS_cont h hT hs hk hr]
    by_cases ex : x = s
    · subst ex
      rw [if_pos rfl]
      unfold obsS
      rw [hl, tellS_not hc, tellS_not hc]
    · rw [if_neg ex]
      by_cases hx : a ≤ x ∧ x < e
      · rw [if_pos hx, if_neg hlb]
        unfold obsS
        rw [(hr.slots x hx.1 hx.2).2, tellS_not hc]
      · rw [if_neg hx]
  · rw [obsQ_cont h hT hs hk hr]
    by_cases hx : g ≤ q ∧ q < k
    · rw [if_pos hx, if_neg hlb]
      unfold obsQ
      rw [hr.quanta q hx.1 hx.2]
      dsimp only
      rw [if_neg hc]
    · rw [if_neg hx]
theorem alike_gone_hid (h : MInv M) {s cc : Nat} (hs : s < 32) (hs0 : s ≠ 0) (hk : (M.S s).kind ≠ 0) (hl : lies M.S s = some cc) (hc : ¬ sub (M.S cc).label l = true) : Alike l M (M.gone s) := by
  have hsx : ¬ sub (M.S s).label l = true := fun e => hc (sub_trans (h.tree.lab s cc hs hk hl) e)
  have hin : ∀ d, d < 32 → (M.S d).kind = 1 → (s = d ∨ inside M.S d s) → (M.S s).kind = 1 → ¬ sub (M.S d).label l = true := fun d d1 d2 d3 sk e => by
    rcases d3 with rfl | d3
    · exact hsx e
    · exact hsx (sub_trans (h.tree.lab_in' d1 (by omega) hs sk d3.slot) e)
  refine ⟨rfl, fun x hx => ?_, fun q hq => ?_⟩
  · rw [obsS_gone h hs hs0 hl hx]
    by_cases hg : goes M.S s x
    · rw [if_pos hg, tellS_not hc]
      unfold obsS
      rcases hg with rfl | ⟨sk, g1, g2⟩
      · rw [hl, tellS_not hc]
      · obtain ⟨d, hd⟩ := lies_some (s := x) hs sk ⟨g1, g2⟩
        obtain ⟨d1, d2, _, _⟩ := lies_spec hd
        rw [hd, tellS_not (hin d d1 d2 (h.tree.lies_inside hd hs sk ⟨g1, g2⟩) sk)]
    · rw [if_neg hg]
  · rw [obsQ_gone h hs hs0 hl hq]
    by_cases hg : (M.S s).kind = 1 ∧ (M.S s).G ≤ q ∧ (q : Int) < (M.S s).H
    · rw [if_pos hg, if_neg hc]
      obtain ⟨d, hd⟩ := has_some (s := q) hs hg.1 hg.2
      obtain ⟨d1, d2, _, _⟩ := has_spec hd
      unfold obsQ
      rw [hd]
      dsimp only
      rw [if_neg (hin d d1 d2 (h.tree.has_inside hd hs hg.1 hg.2) hg.1)]
    · rw [if_neg hg]
      have hw : ((whoQ M l q).bind fun t => if goes M.S s t then none else some t) = whoQ M l q := by
        unfold whoQ
        cases hlq : M.lq q with
        | none => rfl
        | some t =>
          dsimp only
          by_cases hx : sub (M.S t).label l = true
          · rw [if_pos hx]
            obtain ⟨t1, t2⟩ := h.live q t hlq
            have : ¬ goes M.S s t := by
              rintro (e | ⟨sk, g1, g2⟩)
              · subst e; exact hsx hx
              · exact hsx (sub_trans (h.tree.lab_in' t1 (by omega) hs sk ⟨g1, g2⟩) hx)
            show (if goes M.S s t then none else some t) = some t
            rw [if_neg this]
          · rw [if_neg hx]; rfl
      rw [hw]
      rfl

/-- P10, of one who is not heard. -/
theorem unheard (h : MInv M) {me : Nat} (hc : M.cur = some me) {n : Int} {xs : List Int} (ha : Args n xs) (hz : (M.ask me n xs).2 = 0) (hu : sub (M.ask me n xs).1 l = true) (hT : ¬ sub (M.S me).label l = true) : Alike l M (M.next me n xs) := by
  obtain ⟨m1, m2, _⟩ := h.cur_some hc
  have hT2 := (h.tree.wf me m1).1
  have hid : ∀ {x : Nat}, x < 32 → sub (mis (M.S me).label (M.S x).label) l = true → ¬ sub (M.S x).label l = true := fun {x} hx hm e => hT (sub_mis hT2 (h.tree.wf x hx).1 hm e)
  have mk : ∀ {c s lb : Nat}, (mMake M.S (M.S me).owns (M.S me).label c s lb).2 = 0 → sub (mMake M.S (M.S me).owns (M.S me).label c s lb).1 l = true → Made M.S c s lb ∧ sub (mis (M.S me).label (M.S c).label) l = true ∧ sub (mis (M.S me).label lb) l = true := fun {c s lb} q1 q2 => by
    obtain ⟨r1, r2, r3⟩ := making_full q1
    unfold mMake at q2
    rw [r3] at q2
    obtain ⟨q3, q4⟩ := sub_or.1 q2
    exact ⟨r1, (sub_or.1 q3).2, q4⟩
  cases ha with
  | self => exact Alike.refl _ _
  | kind s hs => exact Alike.refl _ _
  | label s hs => exact Alike.refl _ _
  | seg c s lb hc hs hl =>
    change (mMake M.S (M.S me).owns (M.S me).label c s lb).2 = 0 at hz
    change sub (mMake M.S (M.S me).owns (M.S me).label c s lb).1 l = true at hu
    obtain ⟨q1, q2, q3⟩ := mk hz hu
    exact alike_put_hid h q1.free q1.lies (hid hc q2) (show (segT lb).kind ≠ 1 by simp [segT]) _
  | read s i hs hi => exact Alike.refl _ _
  | write s i v hs hi =>
    change (mWrite M.S (M.S me).owns (M.S me).label s).2 = 0 at hz
    change sub (mWrite M.S (M.S me).owns (M.S me).label s).1 l = true at hu
    unfold mWrite at hz hu
    rw [kindF_used] at hu
    exact alike_words_hid (hid hs (chk_need hu (kindF_zero' hz).2)) _
  | cont c s lb a e g k hc hs hl ha hae he hgk hk =>
    change (mCont M.S (M.S me).owns (M.S me).label c s lb a e g k).2 = 0 at hz
    change sub (mCont M.S (M.S me).owns (M.S me).label c s lb a e g k).1 l = true at hu
    unfold mCont at hz hu
    obtain ⟨hb, hz⟩ := if_zero' (by decide) hz
    rw [if_neg hb] at hu
    have hr : Roomy M.S c s a e g k := busyB_spec he hk (by simpa using hb)
    obtain ⟨q1, q2, q3⟩ := mk hz hu
    have hI := h.cont q1 hs hl ha hae he hgk hk hr
    exact alike_cont_hid h hI.tree hs q1.free q1.lies (hid hc q2) (fun e => hT (sub_mis hT2 hl q3 e)) hr
  | free s hs =>
    change (mFree M.S (M.S me).owns (M.S me).label s).2 = 0 at hz
    change sub (mFree M.S (M.S me).owns (M.S me).label s).1 l = true at hu
    unfold mFree at hz hu
    by_cases hs0 : s = 0
    · rw [if_pos hs0] at hz; exact absurd hz (failed_zero (by decide) _)
    · rw [if_neg hs0] at hz hu
      obtain ⟨cc, hcc⟩ := h.tree.lies_root (s := s) (by omega) hs
      rw [hcc] at hz hu
      have hk := (thereF_zero (chk_zero hz).1).1
      exact alike_gone_hid h hs hs0 hk hcc (hid (lies_spec hcc).1 (chk_need hu hz))
  | thread c s lb o hc hs hl ho =>
    change (mThread M.S (M.S me).owns (M.S me).label c s lb o).2 = 0 at hz
    change sub (mThread M.S (M.S me).owns (M.S me).label c s lb o).1 l = true at hu
    unfold mThread at hz hu
    obtain ⟨hb, hz⟩ := if_zero (by decide) hz
    rw [if_pos hb] at hu
    obtain ⟨q1, q2, q3⟩ := mk hz hu
    exact alike_put_hid h q1.free q1.lies (hid hc q2) (show (thrT lb o).kind ≠ 1 by simp [thrT]) _
  | give q s hq hs =>
    change (mGive M.S (M.S me).owns (M.S me).label q s).2 = 0 at hz
    change sub (mGive M.S (M.S me).owns (M.S me).label q s).1 l = true at hu
    obtain ⟨hc, hhc⟩ := h.tree.has_root hq
    have hw : (mDrop M.S (M.S me).owns (M.S me).label q).2 = 0 ∧ sub (mDrop M.S (M.S me).owns (M.S me).label q).1 l = true := by
      unfold mGive at hz hu
      obtain ⟨z1, _, _⟩ := chk_zero hz
      obtain ⟨_, z2⟩ := kindF_zero' z1
      obtain ⟨_, z3⟩ := thereF_zero z2
      have u1 := chk_sub hu
      rw [kindF_used, thereF_used] at u1
      have gen : ∀ n s (p : Nat × Int), (pathF M.S (M.S me).owns (M.S me).label n s p).2 = 0 → sub (pathF M.S (M.S me).owns (M.S me).label n s p).1 l = true → p.2 = 0 ∧ sub p.1 l = true := by
        intro n
        induction n with
        | zero => exact fun s p q1 q2 => ⟨q1, q2⟩
        | succ n ih =>
          intro s p q1 q2
          unfold pathF at q1 q2
          cases hl : lies M.S s with
          | none => rw [hl] at q1 q2; exact ⟨q1, q2⟩
          | some c => rw [hl] at q1 q2; exact ih c p (chk_zero q1).1 (chk_sub q2)
      exact gen _ _ _ z3 u1
    unfold mDrop at hw
    rw [hhc] at hw
    exact alike_turn_hid hhc (hid (has_spec hhc).1 (chk_need hw.2 hw.1)) _
  | drop q hq =>
    change (mDrop M.S (M.S me).owns (M.S me).label q).2 = 0 at hz
    change sub (mDrop M.S (M.S me).owns (M.S me).label q).1 l = true at hu
    obtain ⟨hc, hhc⟩ := h.tree.has_root hq
    unfold mDrop at hz hu
    rw [hhc] at hz hu
    exact alike_turn_hid hhc (hid (has_spec hhc).1 (chk_need hu hz)) _
  | sleep => exact alike_awake_hid m2 hT false
  | wake s hs =>
    change (mWake M.S (M.S me).owns (M.S me).label s).2 = 0 at hz
    change sub (mWake M.S (M.S me).owns (M.S me).label s).1 l = true at hu
    unfold mWake at hz hu
    rw [kindF_used] at hu
    obtain ⟨k1, k2⟩ := kindF_zero' hz
    exact alike_awake_hid k1 (hid hs (chk_need hu k2)) true
  | port c s lb hc hs hl =>
    change (mMake M.S (M.S me).owns (M.S me).label c s lb).2 = 0 at hz
    change sub (mMake M.S (M.S me).owns (M.S me).label c s lb).1 l = true at hu
    obtain ⟨q1, q2, q3⟩ := mk hz hu
    exact alike_put_hid h q1.free q1.lies (hid hc q2) (show (portT lb).kind ≠ 1 by simp [portT]) _
  | send s v hs =>
    change (mSend M.S (M.S me).owns (M.S me).label s (M.ws s).length).2 = 0 at hz
    change sub (mSend M.S (M.S me).owns (M.S me).label s (M.ws s).length).1 l = true at hu
    unfold mSend at hz hu
    dsimp only at hz hu
    obtain ⟨hb, hz⟩ := if_zero' (by decide) hz
    rw [if_neg hb, kindF_used] at hu
    have hx := hid hs (chk_need hu (kindF_zero' hz).2)
    show Alike l M (if 4 ≤ (M.ws s).length then M else M.words s (M.ws s ++ [v]))
    split
    · exact Alike.refl _ _
    · exact alike_words_hid hx _
  | receive s hs =>
    change (mRecv M.S (M.S me).owns (M.S me).label s (M.ws s).length).2 = 0 at hz
    change sub (mRecv M.S (M.S me).owns (M.S me).label s (M.ws s).length).1 l = true at hu
    unfold mRecv at hz hu
    dsimp only at hz hu
    obtain ⟨hb, hz⟩ := if_zero' (by decide) hz
    rw [if_neg hb, kindF_used] at hu
    exact alike_words_hid (hid hs (chk_need hu (kindF_zero' hz).2)) _
end

end Go.Proofs.Ytloppmepfkkblaa
end

section
/- Who may be known runs in what may be known; a trap of one who is heard tells the same, and leaves the same. Without conditions. -/
open Go Go.RowKit
namespace Go.Proofs.Ytloppmepfkkblaa

section
variable {l : Nat} {M : MS}

theorem tight_put (h : MInv M) (ht : Tight l M) {s : Nat} (hk : (M.S s).kind = 0) {t : Th} (h1 : t.kind ≠ 1) (ws : List Int) : Tight l (M.put s t ws) := by
  intro q u hq hlq hx
  have hlq : M.lq q = some u := hlq
  have hu := (h.live q u hlq).2
  have eu : upd M.S s t u = M.S u := upd_ne _ _ (fun e => by rw [e, hk] at hu; omega)
  have hx : sub (upd M.S s t u).label l = true := hx
  rw [eu] at hx
  obtain ⟨c, c1, c2⟩ := ht q u hq hlq hx
  have hc := (has_spec c1).2.1
  have ec : upd M.S s t c = M.S c := upd_ne _ _ (fun e => by rw [e, hk] at hc; omega)
  refine ⟨c, ?_, ?_⟩
  · show has (upd M.S s t) q = some c
    rw [has_congr (sameC_upd (by omega) h1)]
    exact c1
  · show sub (upd M.S s t c).label l = true
    rw [ec]; exact c2
theorem tight_cont (h : MInv M) (ht : Tight l M) {s c lb a e g k : Nat} (hT : Tree (upd M.S s (contT lb a e g k))) (hs : s < 32) (hk : (M.S s).kind = 0) (hr : Roomy M.S c s a e g k) : Tight l ((M.put s (contT lb a e g k) []).idle g k) := by
  intro q u hq hlq hx
  have hlq : (if g ≤ q ∧ q < k then none else M.lq q) = some u := hlq
  by_cases hg : g ≤ q ∧ q < k
  · rw [if_pos hg] at hlq; cases hlq
  · rw [if_neg hg] at hlq
    have hu := (h.live q u hlq).2
    have eu : upd M.S s (contT lb a e g k) u = M.S u := upd_ne _ _ (fun e => by rw [e, hk] at hu; omega)
    have hx : sub (upd M.S s (contT lb a e g k) u).label l = true := hx
    rw [eu] at hx
    obtain ⟨c', c1, c2⟩ := ht q u hq hlq hx
    have hc := (has_spec c1).2.1
    have ec : upd M.S s (contT lb a e g k) c' = M.S c' := upd_ne _ _ (fun e => by rw [e, hk] at hc; omega)
    refine ⟨c', ?_, ?_⟩
    · show has (upd M.S s (contT lb a e g k)) q = some c'
      rw [cont_has hT hs hk hr, if_neg hg]
      exact c1
    · show sub (upd M.S s (contT lb a e g k) c').label l = true
      rw [ec]; exact c2
theorem tight_awake (ht : Tight l M) {s : Nat} (hk : (M.S s).kind = 2) (v : Bool) : Tight l (M.awake s v) := by
  have hlab : ∀ c, (upd M.S s { M.S s with awake := v } c).label = (M.S c).label := fun c => by
    by_cases e : c = s
    · subst e; rw [upd_same]
    · rw [upd_ne _ _ e]
  intro q u hq hlq hx
  have hx : sub (upd M.S s { M.S s with awake := v } u).label l = true := hx
  rw [hlab] at hx
  obtain ⟨c, c1, c2⟩ := ht q u hq hlq hx
  refine ⟨c, ?_, ?_⟩
  · have hl : ∀ y : Int, has (upd M.S s { M.S s with awake := v }) y = has M.S y := has_congr (sameC_upd (by omega) (show (M.S s).kind ≠ 1 by omega))
    exact (hl q).trans c1
  · show sub (upd M.S s { M.S s with awake := v } c).label l = true
    rw [hlab]; exact c2
theorem tight_turn (ht : Tight l M) {q : Nat} {t : Option Nat} (h1 : ∀ u, t = some u → sub (M.S u).label l = true → ∃ c, has M.S q = some c ∧ sub (M.S c).label l = true) : Tight l (M.turn q t) := by
  intro i u hi hlq hx
  by_cases e : i = q
  · subst e
    have hlq : upd M.lq i t i = some u := hlq
    rw [upd_same] at hlq
    exact h1 u hlq hx
  · have hlq : upd M.lq q t i = some u := hlq
    rw [upd_ne _ _ e] at hlq
    exact ht i u hi hlq hx
theorem tight_gone (h : MInv M) (ht : Tight l M) {s : Nat} (hs : s < 32) (hs0 : s ≠ 0) : Tight l (M.gone s) := by
  intro q u hq hlq hx
  have hlq : (if (M.S s).kind = 1 ∧ (M.S s).G ≤ q ∧ (q : Int) < (M.S s).H then none else (M.lq q).bind fun t => if goes M.S s t then none else some t) = some u := hlq
  by_cases hg : (M.S s).kind = 1 ∧ (M.S s).G ≤ q ∧ (q : Int) < (M.S s).H
  · rw [if_pos hg] at hlq; cases hlq
  · rw [if_neg hg] at hlq
    cases hl : M.lq q with
    | none => rw [hl] at hlq; cases hlq
    | some t =>
      rw [hl] at hlq
      have hlq : (if goes M.S s t then none else some t) = some u := hlq
      by_cases hgt : goes M.S s t
      · rw [if_pos hgt] at hlq; cases hlq
      · rw [if_neg hgt] at hlq
        injection hlq with e
        subst e
        have hx : sub (wiped M.S s t).label l = true := hx
        rw [wiped_in hgt] at hx
        obtain ⟨c, c1, c2⟩ := ht q t hq hl hx
        obtain ⟨e1, e2⟩ := wiped_has h.tree hs hs0 hq hg
        refine ⟨c, ?_, ?_⟩
        · show has (wiped M.S s) q = some c
          rw [e1]; exact c1
        · show sub (wiped M.S s c).label l = true
          rw [wiped_in (e2 c c1)]; exact c2

theorem tight_next (h : MInv M) (ht : Tight l M) {me : Nat} (hc : M.cur = some me) {n : Int} {xs : List Int} (ha : Args n xs) (hz : (M.ask me n xs).2 = 0) (hu : sub (M.ask me n xs).1 l = true) : Tight l (M.next me n xs) := by
  obtain ⟨m1, m2, _⟩ := h.cur_some hc
  cases ha with
  | self => exact ht
  | kind s hs => exact ht
  | label s hs => exact ht
  | seg c s lb hc hs hl =>
    change (mMake M.S (M.S me).owns (M.S me).label c s lb).2 = 0 at hz
    exact tight_put h ht (making_zero hz).free (show (segT lb).kind ≠ 1 by simp [segT]) _
  | read s i hs hi => exact ht
  | write s i v hs hi => exact ht
  | cont c s lb a e g k hc hs hl ha hae he hgk hk =>
    change (mCont M.S (M.S me).owns (M.S me).label c s lb a e g k).2 = 0 at hz
    unfold mCont at hz
    obtain ⟨hb, hz⟩ := if_zero' (by decide) hz
    have hr : Roomy M.S c s a e g k := busyB_spec he hk (by simpa using hb)
    have q1 := making_zero hz
    have hI := h.cont q1 hs hl ha hae he hgk hk hr
    exact tight_cont h ht hI.tree hs q1.free hr
  | free s hs =>
    change (mFree M.S (M.S me).owns (M.S me).label s).2 = 0 at hz
    unfold mFree at hz
    by_cases hs0 : s = 0
    · rw [if_pos hs0] at hz; exact absurd hz (failed_zero (by decide) _)
    · exact tight_gone h ht hs hs0
  | thread c s lb o hc hs hl ho =>
    change (mThread M.S (M.S me).owns (M.S me).label c s lb o).2 = 0 at hz
    unfold mThread at hz
    obtain ⟨hb, hz⟩ := if_zero (by decide) hz
    exact tight_put h ht (making_zero hz).free (show (thrT lb o).kind ≠ 1 by simp [thrT]) _
  | give q s hq hs =>
    change (mGive M.S (M.S me).owns (M.S me).label q s).2 = 0 at hz
    change sub (mGive M.S (M.S me).owns (M.S me).label q s).1 l = true at hu
    obtain ⟨hc, hhc⟩ := h.tree.has_root hq
    unfold mGive at hz hu
    rw [hhc] at hz hu
    refine tight_turn ht (fun u e hx => ?_)
    injection e with e
    subst e
    exact ⟨hc, hhc, sub_mis (h.tree.wf hc (has_spec hhc).1).1 (h.tree.wf s hs).1 (chk_need hu hz) hx⟩
  | drop q hq => exact tight_turn ht (fun u e _ => by cases e)
  | sleep => exact tight_awake ht m2 false
  | wake s hs =>
    change (mWake M.S (M.S me).owns (M.S me).label s).2 = 0 at hz
    exact tight_awake ht (kindF_zero' hz).1 true
  | port c s lb hc hs hl =>
    change (mMake M.S (M.S me).owns (M.S me).label c s lb).2 = 0 at hz
    exact tight_put h ht (making_zero hz).free (show (portT lb).kind ≠ 1 by simp [portT]) _
  | send s v hs =>
    show Tight l (if 4 ≤ (M.ws s).length then M else M.words s (M.ws s ++ [v]))
    split
    · exact ht
    · exact ht
  | receive s hs => exact ht
end

/-! ### one who is heard -/
theorem failed_stop {e : Int} {p : Nat × Int} (h : p.2 ≠ 0) : failed e p = p := if_neg h
theorem thereF_stop {S : Nat → Th} {s : Nat} {p : Nat × Int} (h : p.2 ≠ 0) : thereF S s p = p := by unfold thereF; split; exact failed_stop h; rfl
theorem kindF_stop {S : Nat → Th} {s : Nat} {k : Int} {p : Nat × Int} (h : p.2 ≠ 0) : kindF S s k p = p := by unfold kindF; split; rfl; exact failed_stop h
theorem if_stop {b : Prop} [Decidable b] {e : Int} {p : Nat × Int} (h : p.2 ≠ 0) : (if b then p else failed e p) = p := by split; rfl; exact failed_stop h
theorem if_stop' {b : Prop} [Decidable b] {e : Int} {p : Nat × Int} (h : p.2 ≠ 0) : (if b then failed e p else p) = p := by split; exact failed_stop h; rfl
theorem path_stop {S : Nat → Th} {O T : Nat} : ∀ (n : Nat) (s : Int) (p : Nat × Int), p.2 ≠ 0 → pathF S O T n s p = p
  | 0, _, _, _ => rfl
  | n + 1, s, p, h => by
    unfold pathF
    cases lies S s with
    | none => rfl
    | some c => dsimp only; rw [path_stop n c p h, chk_stop h]
theorem chk_from {O x y u : Nat} {p : Nat × Int} : chk O x y (u ||| p.1, p.2) = (u ||| (chk O x y p).1, (chk O x y p).2) := by
  unfold chk
  dsimp only
  split
  · rfl
  · split
    · rw [Nat.or_assoc]
    · rfl
theorem path_from {S : Nat → Th} {O T u : Nat} : ∀ (n : Nat) (s : Int), pathF S O T n s (u, 0) = (u ||| (pathF S O T n s (0, 0)).1, (pathF S O T n s (0, 0)).2)
  | 0, _ => by unfold pathF; simp
  | n + 1, s => by
    unfold pathF
    cases lies S s with
    | none => simp
    | some c => dsimp only; rw [path_from n c, chk_from]

/-- A slot is the same in both, and it may be known where it lies. -/
structure Same (l : Nat) (M N : MS) (s : Nat) : Prop where
  lie : lies N.S s = lies M.S s
  seen : ∀ c, lies M.S s = some c → sub (M.S c).label l = true ∧ sub (N.S c).label l = true
  core : coreT (N.S s) = coreT (M.S s)
  inner : innerT l (N.S s) (N.ws s) = innerT l (M.S s) (M.ws s)

section
variable {l O T : Nat} {M N : MS}
theorem Same.kind {s : Nat} (h : Same l M N s) : (N.S s).kind = (M.S s).kind := (core_eq h.core).1
theorem Same.label {s : Nat} (h : Same l M N s) : (N.S s).label = (M.S s).label := (core_eq h.core).2.1
theorem Same.tell {s : Nat} (h : Same l M N s) (x) : tellS N.S l (lies N.S s) x = tellS M.S l (lies M.S s) x := by
  rw [h.lie]
  cases hl : lies M.S s with
  | none => rfl
  | some c => rw [tellS_seen (h.seen c hl).1, tellS_seen (h.seen c hl).2]
theorem Same.known {s : Nat} (h : Same l M N s) (hx : sub (M.S s).label l = true) : ((M.S s).kind = 2 → (N.S s).owns = (M.S s).owns ∧ (N.S s).awake = (M.S s).awake) ∧ N.ws s = M.ws s := by
  have h1 := h.inner
  unfold innerT at h1
  rw [h.label, h.kind, if_pos hx, if_pos hx] at h1
  injection h1 with h1
  injection h1 with h2 h3
  injection h3 with h3 h4
  refine ⟨fun hk => ?_, h4⟩
  rw [if_pos hk, if_pos hk] at h2 h3
  exact ⟨h2, h3⟩
theorem Alike.same_at (A : Alike l M N) {s c : Nat} (hs : s < 32) (hl : lies M.S s = some c) (hc : sub (M.S c).label l = true) : Same l M N s := by
  obtain ⟨h1, h2, h3, h4⟩ := A.at hs hl hc
  exact ⟨by rw [h1, hl], fun c' hc' => by rw [hl] at hc'; injection hc' with e; subst e; exact ⟨hc, h2⟩, h3, h4⟩
theorem Alike.same_zero (hM : MInv M) (hN : MInv N) : Same l M N 0 :=
  ⟨by rw [hM.tree.lies_zero, hN.tree.lies_zero], (fun c hc => by rw [hM.tree.lies_zero] at hc; cases hc), by rw [hM.zero_core, hN.zero_core], by rw [hM.zero_inner, hN.zero_inner]⟩
theorem Alike.same_obj (A : Alike l M N) (hM : MInv M) (hN : MInv N) {s : Nat} (hs : s < 32) (hk : (M.S s).kind ≠ 0) (hx : sub (M.S s).label l = true) : Same l M N s := by
  by_cases h0 : s = 0
  · subst h0; exact Alike.same_zero hM hN
  · obtain ⟨c, hc⟩ := hM.tree.lies_root (s := s) (by omega) hs
    exact A.same_at hs hc (hM.up hs hk hc hx)

theorem path_same (A : Alike l M N) (hM : MInv M) (hN : MInv N) (hT : sub T l = true) (hT2 : T < 256) {s : Nat} (hs : s < 32) (up : sub (pathF M.S O T DEEP s (0, 0)).1 l = true) (uq : sub (pathF N.S O T DEEP s (0, 0)).1 l = true) :
    pathF N.S O T DEEP s (0, 0) = pathF M.S O T DEEP s (0, 0) ∧ ((pathF M.S O T DEEP s (0, 0)).2 = 0 → Same l M N s) := by
  obtain ⟨h1, h2⟩ := path_alike A hM hN hT hT2 hs (pathR_of DEEP s (hM.tree.deep s)) (pathR_of DEEP s (hN.tree.deep s)) up uq
  refine ⟨h1.symm, fun hz => ?_⟩
  obtain ⟨h3, h4⟩ := h2 hz
  cases hl : lies M.S s with
  | none =>
    have h0 : s = 0 := by
      by_cases h0 : s = 0
      · exact h0
      · obtain ⟨c, hc⟩ := hM.tree.lies_root (s := s) (by omega) hs
        rw [hl] at hc; cases hc
    subst h0
    exact Alike.same_zero hM hN
  | some c => exact A.same_at hs hl (h4 c hl)

theorem find_same (A : Alike l M N) (hM : MInv M) (hN : MInv N) (hT : sub T l = true) (hT2 : T < 256) {s : Nat} (hs : s < 32) (up : sub (mFind M.S O T s).1 l = true) (uq : sub (mFind N.S O T s).1 l = true) :
    mFind N.S O T s = mFind M.S O T s ∧ ((mFind M.S O T s).2 = 0 → Same l M N s) := by
  unfold mFind at *
  rw [thereF_used] at up uq
  obtain ⟨h1, h2⟩ := path_same A hM hN hT hT2 hs up uq
  by_cases hz : (pathF M.S O T DEEP s (0, 0)).2 = 0
  · have hs := h2 hz
    refine ⟨?_, fun _ => hs⟩
    unfold thereF
    rw [h1, hs.kind]
  · rw [h1, thereF_stop hz, thereF_stop hz]
    exact ⟨rfl, fun e => absurd e hz⟩

/-- A read, a write of what was found. -/
theorem chk_read (hM : MInv M) (hT : sub T l = true) (hT2 : T < 256) {s : Nat} (hs : s < 32) {p : Nat × Int} (u : sub (chk O (M.S s).label T p).1 l = true) (z : (chk O (M.S s).label T p).2 = 0) : sub (M.S s).label l = true :=
  sub_mis (hM.tree.wf s hs).1 hT2 (chk_need u z) hT

theorem make_same (A : Alike l M N) (hM : MInv M) (hN : MInv N) (hT : sub T l = true) (hT2 : T < 256) {c s lb : Nat} (hc : c < 32) (hs : s < 32) (up : sub (mMake M.S O T c s lb).1 l = true) (uq : sub (mMake N.S O T c s lb).1 l = true) :
    mMake N.S O T c s lb = mMake M.S O T c s lb ∧ ((mMake M.S O T c s lb).2 = 0 → sub (M.S c).label l = true ∧ Same l M N c ∧ Same l M N s) := by
  have used : ∀ {S : Nat → Th} , sub (mMake S O T c s lb).1 l = true → sub (chk O (S c).label T (if (S c).kind = 0 then failed 5 (pathF S O T DEEP c (0, 0)) else pathF S O T DEEP c (0, 0))).1 l = true := by
    intro S h
    unfold mMake makingF at h
    dsimp only at h
    have h := chk_sub h
    have fst : ∀ {b : Prop} [Decidable b] {e : Int} {p : Nat × Int}, (if b then p else failed e p).1 = p.1 := by
      intro b _ e p; split; rfl; exact failed_used _ _
    rw [fst, fst, fst] at h
    exact chk_sub h
  have uM := used up
  have uN := used uq
  have fst' : ∀ {b : Prop} [Decidable b] {e : Int} {p : Nat × Int}, (if b then failed e p else p).1 = p.1 := by
    intro b _ e p; split; exact failed_used _ _; rfl
  have uM' := chk_sub uM
  have uN' := chk_sub uN
  rw [fst'] at uM' uN'
  obtain ⟨h1, h2⟩ := path_same A hM hN hT hT2 hc uM' uN'
  unfold mMake makingF
  dsimp only
  by_cases hz : (pathF M.S O T DEEP c (0, 0)).2 = 0
  · have hS := h2 hz
    rw [h1, hS.kind, hS.label]
    by_cases hr : (chk O (M.S c).label T (if (M.S c).kind = 0 then failed 5 (pathF M.S O T DEEP c (0, 0)) else pathF M.S O T DEEP c (0, 0))).2 = 0
    · have hcl := chk_read hM hT hT2 hc uM hr
      have hiff : ((N.S s).kind = 0 ∧ lies N.S s = some c) ↔ ((M.S s).kind = 0 ∧ lies M.S s = some c) := by
        constructor
        · intro ⟨k1, k2⟩
          have := A.symm.same_at hs k2 (by rw [hS.label]; exact hcl)
          exact ⟨by rw [this.kind]; exact k1, by rw [this.lie]; exact k2⟩
        · intro ⟨k1, k2⟩
          have := A.same_at hs k2 hcl
          exact ⟨by rw [this.kind]; exact k1, by rw [this.lie]; exact k2⟩
      refine ⟨by simp only [hiff], fun hz2 => ?_⟩
      have hm := making_zero (S := M.S) (O := O) (T := T) (n := DEEP) (c := c) (s := s) (l := lb) (p := (0, 0)) hz2
      exact ⟨hcl, hS, A.same_at hs hm.lies hcl⟩
    · rw [chk_stop hr, if_stop hr, if_stop hr, if_stop hr, if_stop hr, if_stop hr, chk_stop hr]
      exact ⟨rfl, fun e => absurd e hr⟩
  · rw [h1]
    refine ⟨by simp only [if_stop' hz, chk_stop hz, if_stop hz], fun e => ?_⟩
    simp only [if_stop' hz, chk_stop hz, if_stop hz] at e
    exact absurd e hz
end

end Go.Proofs.Ytloppmepfkkblaa
end
