/- What always holds of the kernel, and that each trap keeps it. Without conditions. -/
import Derived.Test.YtloppmepfkkblaaJBaseToTreeKeeps

section
open Go Go.RowKit
namespace Go.Proofs.Ytloppmepfkkblaa

structure MInv (M : MS) : Prop where
  tree : Tree M.S
  kinds : ∀ i, (M.S i).kind = 0 ∨ (M.S i).kind = 1 ∨ (M.S i).kind = 2 ∨ (M.S i).kind = 3 ∨ (M.S i).kind = 4
  free : ∀ i, (M.S i).kind = 0 → M.S i = fth
  clean : ∀ i, (M.S i).id = 0 ∧ (M.S i).Wa = none ∧ (M.S i).Wn = 0 ∧ (M.S i).Wc = 0
  segs : ∀ i, (M.S i).kind = 3 → (M.ws i).length = 8
  ports : ∀ i, (M.S i).kind = 4 → (M.ws i).length ≤ 4
  others : ∀ i, (M.S i).kind ≠ 3 → (M.S i).kind ≠ 4 → M.ws i = []
  live : ∀ q t, M.lq q = some t → t < 32 ∧ (M.S t).kind = 2
  ph : M.ph < 8

/-! ### what nothing wrong says -/
theorem failed_zero {e : Int} (he : e ≠ 0) (p : Nat × Int) : (failed e p).2 ≠ 0 := by
  unfold failed
  split
  · exact he
  · assumption

theorem chk_zero {O x y : Nat} {p : Nat × Int} (h : (chk O x y p).2 = 0) : p.2 = 0 ∧ sub (mis x y) O = true ∧ (chk O x y p).1 = p.1 ||| mis x y := by
  unfold chk at h ⊢
  by_cases h1 : p.2 ≠ 0
  · rw [if_pos h1] at h; exact absurd h h1
  · rw [if_neg h1] at h ⊢
    by_cases h2 : sub (mis x y) O = true
    · rw [if_pos h2]; exact ⟨Classical.not_not.1 h1, h2, rfl⟩
    · rw [if_neg h2] at h; exact absurd h (by simp)

theorem chk_used {O x y : Nat} {p : Nat × Int} : (chk O x y p).1 = p.1 ∨ (chk O x y p).1 = p.1 ||| mis x y ∧ (chk O x y p).2 = 0 := by
  unfold chk
  split
  · exact Or.inl rfl
  · split
    · exact Or.inr ⟨rfl, rfl⟩
    · exact Or.inl rfl

theorem if_zero {c : Prop} [Decidable c] {e : Int} (he : e ≠ 0) {p : Nat × Int} (h : (if c then p else failed e p).2 = 0) : c ∧ p.2 = 0 := by
  by_cases hc : c
  · rw [if_pos hc] at h; exact ⟨hc, h⟩
  · rw [if_neg hc] at h; exact absurd h (failed_zero he p)

theorem if_zero' {c : Prop} [Decidable c] {e : Int} (he : e ≠ 0) {p : Nat × Int} (h : (if c then failed e p else p).2 = 0) : ¬ c ∧ p.2 = 0 := by
  by_cases hc : c
  · rw [if_pos hc] at h; exact absurd h (failed_zero he p)
  · rw [if_neg hc] at h; exact ⟨hc, h⟩

theorem thereF_zero {S : Nat → Th} {s : Nat} {p : Nat × Int} (h : (thereF S s p).2 = 0) : (S s).kind ≠ 0 ∧ p.2 = 0 := if_zero' (by decide) h
theorem kindF_zero' {S : Nat → Th} {s : Nat} {k : Int} {p : Nat × Int} (h : (kindF S s k p).2 = 0) : (S s).kind = k ∧ p.2 = 0 := if_zero (by decide) h

structure Made (S : Nat → Th) (c s l : Nat) : Prop where
  cont : (S c).kind = 1
  free : (S s).kind = 0
  lies : lies S s = some c
  sub : sub (S c).label l = true

theorem making_zero {S : Nat → Th} {O T n c s l : Nat} {p : Nat × Int} (h : (makingF S O T n c s l p).2 = 0) : Made S c s l := by
  unfold makingF at h
  dsimp only at h
  obtain ⟨h1, _, _⟩ := chk_zero h
  obtain ⟨h2, h3⟩ := if_zero (by decide) h1
  obtain ⟨h4, h5⟩ := if_zero (by decide) h3
  obtain ⟨h6, h7⟩ := if_zero (by decide) h5
  exact ⟨h6, h4.1, h4.2, h2⟩

theorem busyB_spec {S : Nat → Th} {c s a e g h : Nat} (he : e ≤ 32) (hh : h ≤ 8) (hb : busyB S c s a e g h = false) : Roomy S c s a e g h := by
  unfold busyB at hb
  simp only [Bool.or_eq_false_iff, List.any_eq_false, List.mem_range, decide_eq_false_iff_not] at hb
  obtain ⟨⟨h1, h2⟩, h3⟩ := hb
  refine ⟨h1, fun i hi1 hi2 => ?_, fun q hq1 hq2 => ?_⟩
  · have := h2 i (by omega)
    by_cases h4 : (S i).kind = 0 ∧ lies S i = some c
    · exact h4
    · exfalso
      refine this ?_
      simp only [Bool.and_eq_true, decide_eq_true_eq, Bool.not_eq_true', decide_eq_false_iff_not]
      exact ⟨⟨hi1, hi2⟩, h4⟩
  · have := h3 q (by omega)
    simp only [Bool.and_eq_true, decide_eq_true_eq, Bool.not_eq_true', decide_eq_false_iff_not, not_and, Classical.not_not] at this
    exact this ⟨hq1, hq2⟩

/-! ### the arguments -/
theorem okS {pre x : Int} (h : okAt 115 pre x = true) : ∃ s : Nat, x = s ∧ s < 32 := by
  simp [okAt] at h; exact ⟨x.toNat, by omega, by omega⟩
theorem okQ {pre x : Int} (h : okAt 113 pre x = true) : ∃ s : Nat, x = s ∧ s < 8 := by
  simp [okAt] at h; exact ⟨x.toNat, by omega, by omega⟩
theorem okL {pre x : Int} (h : okAt 108 pre x = true) : ∃ s : Nat, x = s ∧ s < 256 := by
  simp [okAt] at h; exact ⟨x.toNat, by omega, by omega⟩
theorem okI {pre x : Int} (h : okAt 105 pre x = true) : ∃ s : Nat, x = s ∧ s < 8 := by
  simp [okAt] at h; exact ⟨x.toNat, by omega, by omega⟩

/-- The arguments of each trap. -/
inductive Args : Int → List Int → Prop
  | self : Args 1 []
  | kind (s : Nat) (hs : s < 32) : Args 2 [(s : Int)]
  | label (s : Nat) (hs : s < 32) : Args 3 [(s : Int)]
  | seg (c s l : Nat) (hc : c < 32) (hs : s < 32) (hl : l < 256) : Args 4 [(c : Int), (s : Int), (l : Int)]
  | read (s i : Nat) (hs : s < 32) (hi : i < 8) : Args 5 [(s : Int), (i : Int)]
  | write (s i : Nat) (v : Int) (hs : s < 32) (hi : i < 8) : Args 6 [(s : Int), (i : Int), v]
  | cont (c s l a e g h : Nat) (hc : c < 32) (hs : s < 32) (hl : l < 256) (ha : 1 ≤ a) (hae : a ≤ e) (he : e ≤ 32) (hgh : g ≤ h) (hh : h ≤ 8) : Args 7 [(c : Int), (s : Int), (l : Int), (a : Int), (e : Int), (g : Int), (h : Int)]
  | free (s : Nat) (hs : s < 32) : Args 8 [(s : Int)]
  | thread (c s l o : Nat) (hc : c < 32) (hs : s < 32) (hl : l < 256) (ho : o < 256) : Args 9 [(c : Int), (s : Int), (l : Int), (o : Int)]
  | give (q s : Nat) (hq : q < 8) (hs : s < 32) : Args 10 [(q : Int), (s : Int)]
  | drop (q : Nat) (hq : q < 8) : Args 11 [(q : Int)]
  | sleep : Args 12 []
  | wake (s : Nat) (hs : s < 32) : Args 13 [(s : Int)]
  | port (c s l : Nat) (hc : c < 32) (hs : s < 32) (hl : l < 256) : Args 14 [(c : Int), (s : Int), (l : Int)]
  | send (s : Nat) (v : Int) (hs : s < 32) : Args 15 [(s : Int), v]
  | receive (s : Nat) (hs : s < 32) : Args 16 [(s : Int)]

theorem may_succ {cs : List UInt8} {xs : List Int} {k : Nat} (h : mayTo cs xs (k + 1) = true) : mayTo cs xs k = true ∧ okAt (cs.getD k 0) (xs.getD (k - 1) 0) (xs.getD k 0) = true := by
  unfold mayTo at h
  simpa using h

theorem args_of {n : Int} {xs : List Int} (h1 : 1 ≤ n) (h2 : n < 17) (hl : (shapeL n).length = xs.length) (hm : mayTo (shapeL n) xs xs.length = true) : Args n xs := by
  have hn : n = 1 ∨ n = 2 ∨ n = 3 ∨ n = 4 ∨ n = 5 ∨ n = 6 ∨ n = 7 ∨ n = 8 ∨ n = 9 ∨ n = 10 ∨ n = 11 ∨ n = 12 ∨ n = 13 ∨ n = 14 ∨ n = 15 ∨ n = 16 := by omega
  rcases hn with rfl | rfl | rfl | rfl | rfl | rfl | rfl | rfl | rfl | rfl | rfl | rfl | rfl | rfl | rfl | rfl
  · match xs, hl with
    | [], _ => exact .self
  · match xs, hl with
    | [a], _ =>
      obtain ⟨_, k0⟩ := may_succ hm
      obtain ⟨s, rfl, hs⟩ := okS k0
      exact .kind s hs
  · match xs, hl with
    | [a], _ =>
      obtain ⟨_, k0⟩ := may_succ hm
      obtain ⟨s, rfl, hs⟩ := okS k0
      exact .label s hs
  · match xs, hl with
    | [a, b, c], _ =>
      obtain ⟨m2, k2⟩ := may_succ hm
      obtain ⟨m1, k1⟩ := may_succ m2
      obtain ⟨_, k0⟩ := may_succ m1
      obtain ⟨a, rfl, ha⟩ := okS k0
      obtain ⟨b, rfl, hb⟩ := okS k1
      obtain ⟨c, rfl, hc⟩ := okL k2
      exact .seg a b c ha hb hc
  · match xs, hl with
    | [a, b], _ =>
      obtain ⟨m1, k1⟩ := may_succ hm
      obtain ⟨_, k0⟩ := may_succ m1
      obtain ⟨a, rfl, ha⟩ := okS k0
      obtain ⟨b, rfl, hb⟩ := okI k1
      exact .read a b ha hb
  · match xs, hl with
    | [a, b, c], _ =>
      obtain ⟨m2, k2⟩ := may_succ hm
      obtain ⟨m1, k1⟩ := may_succ m2
      obtain ⟨_, k0⟩ := may_succ m1
      obtain ⟨a, rfl, ha⟩ := okS k0
      obtain ⟨b, rfl, hb⟩ := okI k1
      exact .write a b c ha hb
  · match xs, hl with
    | [a, b, c, d, e, f, g], _ =>
      obtain ⟨m6, k6⟩ := may_succ hm
      obtain ⟨m5, k5⟩ := may_succ m6
      obtain ⟨m4, k4⟩ := may_succ m5
      obtain ⟨m3, k3⟩ := may_succ m4
      obtain ⟨m2, k2⟩ := may_succ m3
      obtain ⟨m1, k1⟩ := may_succ m2
      obtain ⟨_, k0⟩ := may_succ m1
      obtain ⟨a, rfl, ha⟩ := okS k0
      obtain ⟨b, rfl, hb⟩ := okS k1
      obtain ⟨c, rfl, hc⟩ := okL k2
      have d1 : 1 ≤ d ∧ d ≤ 32 := by simpa [okAt, shapeL] using k3
      have e1 : d ≤ e ∧ e ≤ 32 := by simpa [okAt, shapeL] using k4
      have f1 : 0 ≤ f ∧ f ≤ 8 := by simpa [okAt, shapeL] using k5
      have g1 : f ≤ g ∧ g ≤ 8 := by simpa [okAt, shapeL] using k6
      obtain ⟨d, rfl⟩ := Int.eq_ofNat_of_zero_le (show 0 ≤ d by omega)
      obtain ⟨e, rfl⟩ := Int.eq_ofNat_of_zero_le (show 0 ≤ e by omega)
      obtain ⟨f, rfl⟩ := Int.eq_ofNat_of_zero_le (show 0 ≤ f by omega)
      obtain ⟨g, rfl⟩ := Int.eq_ofNat_of_zero_le (show 0 ≤ g by omega)
      exact .cont a b c d e f g ha hb hc (by omega) (by omega) (by omega) (by omega) (by omega)
  · match xs, hl with
    | [a], _ =>
      obtain ⟨_, k0⟩ := may_succ hm
      obtain ⟨s, rfl, hs⟩ := okS k0
      exact .free s hs
  · match xs, hl with
    | [a, b, c, d], _ =>
      obtain ⟨m3, k3⟩ := may_succ hm
      obtain ⟨m2, k2⟩ := may_succ m3
      obtain ⟨m1, k1⟩ := may_succ m2
      obtain ⟨_, k0⟩ := may_succ m1
      obtain ⟨a, rfl, ha⟩ := okS k0
      obtain ⟨b, rfl, hb⟩ := okS k1
      obtain ⟨c, rfl, hc⟩ := okL k2
      obtain ⟨d, rfl, hd⟩ := okL k3
      exact .thread a b c d ha hb hc hd
  · match xs, hl with
    | [a, b], _ =>
      obtain ⟨m1, k1⟩ := may_succ hm
      obtain ⟨_, k0⟩ := may_succ m1
      obtain ⟨a, rfl, ha⟩ := okQ k0
      obtain ⟨b, rfl, hb⟩ := okS k1
      exact .give a b ha hb
  · match xs, hl with
    | [a], _ =>
      obtain ⟨_, k0⟩ := may_succ hm
      obtain ⟨a, rfl, ha⟩ := okQ k0
      exact .drop a ha
  · match xs, hl with
    | [], _ => exact .sleep
  · match xs, hl with
    | [a], _ =>
      obtain ⟨_, k0⟩ := may_succ hm
      obtain ⟨s, rfl, hs⟩ := okS k0
      exact .wake s hs
  · match xs, hl with
    | [a, b, c], _ =>
      obtain ⟨m2, k2⟩ := may_succ hm
      obtain ⟨m1, k1⟩ := may_succ m2
      obtain ⟨_, k0⟩ := may_succ m1
      obtain ⟨a, rfl, ha⟩ := okS k0
      obtain ⟨b, rfl, hb⟩ := okS k1
      obtain ⟨c, rfl, hc⟩ := okL k2
      exact .port a b c ha hb hc
  · match xs, hl with
    | [a, b], _ =>
      obtain ⟨m1, k1⟩ := may_succ hm
      obtain ⟨_, k0⟩ := may_succ m1
      obtain ⟨a, rfl, ha⟩ := okS k0
      exact .send a b ha
  · match xs, hl with
    | [a], _ =>
      obtain ⟨_, k0⟩ := may_succ hm
      obtain ⟨s, rfl, hs⟩ := okS k0
      exact .receive s hs

/-! ### each trap keeps it -/
section
variable {M : MS} (h : MInv M)
include h

theorem MInv.cur_some {me : Nat} (hc : M.cur = some me) : me < 32 ∧ (M.S me).kind = 2 ∧ M.lq M.ph = some me ∧ (M.S me).awake = true := by
  unfold MS.cur at hc
  cases hq : M.lq M.ph with
  | none => rw [hq] at hc; cases hc
  | some s =>
    rw [hq] at hc
    dsimp only at hc
    by_cases hw : (M.S s).awake = true
    · rw [if_pos hw] at hc
      injection hc with hc
      subst hc
      exact ⟨(h.live _ _ hq).1, (h.live _ _ hq).2, rfl, hw⟩
    · rw [if_neg hw] at hc; cases hc

theorem MInv.put {c s l : Nat} (hm : Made M.S c s l) (t : Th) (ws : List Int) (ht : t.kind = 2 ∨ t.kind = 3 ∨ t.kind = 4) (hl : t.label = l) (hl2 : l < 256) (ho : t.owns < 256) (hr : t.A = 0 ∧ t.B = 0 ∧ t.G = 0 ∧ t.H = 0)
    (hcl : t.id = 0 ∧ t.Wa = none ∧ t.Wn = 0 ∧ t.Wc = 0) (h3 : t.kind = 3 → ws.length = 8) (h4 : t.kind = 4 → ws.length ≤ 4) (h5 : t.kind ≠ 3 → t.kind ≠ 4 → ws = []) : MInv (M.put s t ws) := by
  have hk0 := hm.free
  have hk1 : (M.S s).kind ≠ 1 := by omega
  have hS := sameC_upd (S := M.S) (s := s) (t := t) hk1 (by omega)
  have hlq : ∀ q t', M.lq q = some t' → t' ≠ s := fun q t' hq e => by have := (h.live q t' hq).2; rw [e] at this; omega
  refine ⟨h.tree.upd hk1 (by omega) hr ⟨by omega, ho⟩ (fun _ c' hc' => ?_), fun i => ?_, fun i => ?_, fun i => ?_, fun i => ?_, fun i => ?_, fun i => ?_, fun q t' hq => ?_, h.ph⟩
  · rw [hm.lies] at hc'
    injection hc' with hc'
    subst hc'
    rw [hl]
    exact hm.sub
  · show (upd M.S s t i).kind = 0 ∨ (upd M.S s t i).kind = 1 ∨ (upd M.S s t i).kind = 2 ∨ (upd M.S s t i).kind = 3 ∨ (upd M.S s t i).kind = 4
    unfold upd; split
    · omega
    · exact h.kinds i
  · show (upd M.S s t i).kind = 0 → upd M.S s t i = fth
    unfold upd; split
    · intro; omega
    · exact h.free i
  · show (upd M.S s t i).id = 0 ∧ (upd M.S s t i).Wa = none ∧ (upd M.S s t i).Wn = 0 ∧ (upd M.S s t i).Wc = 0
    unfold upd; split
    · exact hcl
    · exact h.clean i
  · show (upd M.S s t i).kind = 3 → (upd M.ws s ws i).length = 8
    unfold upd; split
    · exact h3
    · exact h.segs i
  · show (upd M.S s t i).kind = 4 → (upd M.ws s ws i).length ≤ 4
    unfold upd; split
    · exact h4
    · exact h.ports i
  · show (upd M.S s t i).kind ≠ 3 → (upd M.S s t i).kind ≠ 4 → upd M.ws s ws i = []
    unfold upd; split
    · exact h5
    · exact h.others i
  · show t' < 32 ∧ (upd M.S s t t').kind = 2
    rw [upd_ne _ _ (hlq q t' hq)]
    exact h.live q t' hq

theorem MInv.cont {c s l a e g k : Nat} (hm : Made M.S c s l) (hs : s < 32) (hl : l < 256) (ha : 1 ≤ a) (hae : a ≤ e) (he : e ≤ 32) (hgk : g ≤ k) (hk8 : k ≤ 8) (hr : Roomy M.S c s a e g k) :
    MInv ((M.put s (contT l a e g k) []).idle g k) := by
  have hk0 := hm.free
  have hk1 : (M.S s).kind ≠ 1 := by omega
  have hlq : ∀ q t', M.lq q = some t' → t' ≠ s := fun q t' hq e => by have := (h.live q t' hq).2; rw [e] at this; omega
  have hlq2 : ∀ q t', (if g ≤ q ∧ q < k then none else M.lq q) = some t' → ¬ (g ≤ q ∧ q < k) ∧ M.lq q = some t' := fun q t' hq => by
    by_cases h1 : g ≤ q ∧ q < k
    · rw [if_pos h1] at hq; cases hq
    · rw [if_neg h1] at hq; exact ⟨h1, hq⟩
  refine ⟨h.tree.cont hs hk0 hm.lies hr ha hae he hgk hk8 hl hm.sub, fun i => ?_, fun i => ?_, fun i => ?_, fun i => ?_, fun i => ?_, fun i => ?_, fun q t' hq => ?_, h.ph⟩
  · show (upd M.S s (contT l a e g k) i).kind = 0 ∨ (upd M.S s (contT l a e g k) i).kind = 1 ∨ (upd M.S s (contT l a e g k) i).kind = 2 ∨ (upd M.S s (contT l a e g k) i).kind = 3 ∨ (upd M.S s (contT l a e g k) i).kind = 4
    unfold upd; split
    · exact Or.inr (Or.inl rfl)
    · exact h.kinds i
  · show (upd M.S s (contT l a e g k) i).kind = 0 → upd M.S s (contT l a e g k) i = fth
    unfold upd; split
    · intro h; exact absurd h (by simp [contT])
    · exact h.free i
  · show (upd M.S s (contT l a e g k) i).id = 0 ∧ (upd M.S s (contT l a e g k) i).Wa = none ∧ (upd M.S s (contT l a e g k) i).Wn = 0 ∧ (upd M.S s (contT l a e g k) i).Wc = 0
    unfold upd; split
    · exact ⟨rfl, rfl, rfl, rfl⟩
    · exact h.clean i
  · show (upd M.S s (contT l a e g k) i).kind = 3 → (upd M.ws s [] i).length = 8
    unfold upd; split
    · intro h; exact absurd h (by simp [contT])
    · exact h.segs i
  · show (upd M.S s (contT l a e g k) i).kind = 4 → (upd M.ws s [] i).length ≤ 4
    unfold upd; split
    · intro h; exact absurd h (by simp [contT])
    · exact h.ports i
  · show (upd M.S s (contT l a e g k) i).kind ≠ 3 → (upd M.S s (contT l a e g k) i).kind ≠ 4 → upd M.ws s [] i = []
    unfold upd; split
    · intros; rfl
    · exact h.others i
  · obtain ⟨_, hq⟩ := hlq2 q t' hq
    show t' < 32 ∧ (upd M.S s (contT l a e g k) t').kind = 2
    rw [upd_ne _ _ (hlq q t' hq)]
    exact h.live q t' hq

theorem MInv.awake {s : Nat} (h32 : s < 32) (hs : (M.S s).kind = 2) (v : Bool) : MInv (M.awake s v) := by
  have hk1 : (M.S s).kind ≠ 1 := by omega
  have hS : SameC M.S (upd M.S s { M.S s with awake := v }) := sameC_upd hk1 hk1
  have hU : ∀ i, (upd M.S s { M.S s with awake := v } i).kind = (M.S i).kind ∧ (upd M.S s { M.S s with awake := v } i).label = (M.S i).label ∧ (upd M.S s { M.S s with awake := v } i).id = (M.S i).id ∧ (upd M.S s { M.S s with awake := v } i).Wa = (M.S i).Wa ∧ (upd M.S s { M.S s with awake := v } i).Wn = (M.S i).Wn ∧ (upd M.S s { M.S s with awake := v } i).Wc = (M.S i).Wc := fun i => by
    unfold upd; split
    · rename_i e; subst e; exact ⟨rfl, rfl, rfl, rfl, rfl, rfl⟩
    · exact ⟨rfl, rfl, rfl, rfl, rfl, rfl⟩
  refine ⟨h.tree.upd hk1 hk1 (h.tree.oth s h32 hk1) (h.tree.wf s h32) (fun hk c hc => h.tree.lab s c h32 hk hc), fun i => ?_, fun i hi => ?_, fun i => ?_, fun i hi => ?_, fun i hi => ?_, fun i h1 h2 => ?_, fun q t' hq => ?_, h.ph⟩
  · show (upd M.S s { M.S s with awake := v } i).kind = 0 ∨ (upd M.S s { M.S s with awake := v } i).kind = 1 ∨ (upd M.S s { M.S s with awake := v } i).kind = 2 ∨ (upd M.S s { M.S s with awake := v } i).kind = 3 ∨ (upd M.S s { M.S s with awake := v } i).kind = 4
    rw [(hU i).1]; exact h.kinds i
  · change (upd M.S s { M.S s with awake := v } i).kind = 0 at hi
    show upd M.S s { M.S s with awake := v } i = fth
    rw [(hU i).1] at hi
    have : i ≠ s := fun e => by rw [e] at hi; omega
    rw [upd_ne _ _ this]
    exact h.free i hi
  · show (upd M.S s { M.S s with awake := v } i).id = 0 ∧ (upd M.S s { M.S s with awake := v } i).Wa = none ∧ (upd M.S s { M.S s with awake := v } i).Wn = 0 ∧ (upd M.S s { M.S s with awake := v } i).Wc = 0
    obtain ⟨_, _, e1, e2, e3, e4⟩ := hU i
    rw [e1, e2, e3, e4]
    exact h.clean i
  · change (upd M.S s { M.S s with awake := v } i).kind = 3 at hi
    rw [(hU i).1] at hi; exact h.segs i hi
  · change (upd M.S s { M.S s with awake := v } i).kind = 4 at hi
    rw [(hU i).1] at hi; exact h.ports i hi
  · change (upd M.S s { M.S s with awake := v } i).kind ≠ 3 at h1
    change (upd M.S s { M.S s with awake := v } i).kind ≠ 4 at h2
    rw [(hU i).1] at h1 h2; exact h.others i h1 h2
  · show t' < 32 ∧ (upd M.S s { M.S s with awake := v } t').kind = 2
    rw [(hU t').1]; exact h.live q t' hq

theorem MInv.words {s : Nat} (l : List Int) (h3 : (M.S s).kind = 3 → l.length = 8) (h4 : (M.S s).kind = 4 → l.length ≤ 4) (h5 : (M.S s).kind = 3 ∨ (M.S s).kind = 4) : MInv (M.words s l) := by
  refine ⟨h.tree, h.kinds, h.free, h.clean, fun i => ?_, fun i => ?_, fun i => ?_, h.live, h.ph⟩
  · show (M.S i).kind = 3 → (upd M.ws s l i).length = 8
    unfold upd; split
    · rename_i e; subst e; exact h3
    · exact h.segs i
  · show (M.S i).kind = 4 → (upd M.ws s l i).length ≤ 4
    unfold upd; split
    · rename_i e; subst e; exact h4
    · exact h.ports i
  · show (M.S i).kind ≠ 3 → (M.S i).kind ≠ 4 → upd M.ws s l i = []
    unfold upd; split
    · rename_i e; subst e; intro h1 h2; omega
    · exact h.others i

theorem MInv.turn {q : Nat} (t : Option Nat) (ht : ∀ s, t = some s → s < 32 ∧ (M.S s).kind = 2) : MInv (M.turn q t) := by
  refine ⟨h.tree, h.kinds, h.free, h.clean, h.segs, h.ports, h.others, fun q' t' => ?_, h.ph⟩
  · show upd M.lq q t q' = some t' → t' < 32 ∧ (M.S t').kind = 2
    unfold upd; split
    · intro e; exact ht t' e
    · exact h.live q' t'

theorem MInv.gone {s : Nat} (hs : s < 32) (hs0 : s ≠ 0) : MInv (M.gone s) := by
  have hW : (M.gone s).S = wiped M.S s := rfl
  have hT := h.tree.wiped hs hs0
  have hlq : ∀ q t', (M.gone s).lq q = some t' → ¬ ((M.S s).kind = 1 ∧ (M.S s).G ≤ q ∧ (q : Int) < (M.S s).H) ∧ M.lq q = some t' ∧ ¬ goes M.S s t' := fun q t' hq => by
    unfold MS.gone at hq
    dsimp only at hq
    by_cases h1 : (M.S s).kind = 1 ∧ (M.S s).G ≤ q ∧ (q : Int) < (M.S s).H
    · rw [if_pos h1] at hq; cases hq
    · rw [if_neg h1] at hq
      cases h2 : M.lq q with
      | none => rw [h2] at hq; cases hq
      | some t =>
        rw [h2] at hq
        dsimp only [Option.bind] at hq
        by_cases h3 : goes M.S s t
        · rw [if_pos h3] at hq; cases hq
        · rw [if_neg h3] at hq; injection hq with hq; subst hq; exact ⟨h1, rfl, h3⟩
  refine ⟨hT, fun i => ?_, fun i => ?_, fun i => ?_, fun i => ?_, fun i => ?_, fun i => ?_, fun q t' hq => ?_, h.ph⟩
  · rw [hW]; unfold wiped; split
    · exact Or.inl rfl
    · exact h.kinds i
  · rw [hW]; unfold wiped; split
    · intro; rfl
    · exact h.free i
  · rw [hW]; unfold wiped; split
    · exact ⟨rfl, rfl, rfl, rfl⟩
    · exact h.clean i
  · show (wiped M.S s i).kind = 3 → (if goes M.S s i then [] else M.ws i).length = 8
    unfold wiped; split
    · intro h; exact absurd h (by simp [fth])
    · exact h.segs i
  · show (wiped M.S s i).kind = 4 → (if goes M.S s i then [] else M.ws i).length ≤ 4
    unfold wiped; split
    · intro h; exact absurd h (by simp [fth])
    · exact h.ports i
  · show (wiped M.S s i).kind ≠ 3 → (wiped M.S s i).kind ≠ 4 → (if goes M.S s i then [] else M.ws i) = []
    unfold wiped; split
    · intros; rfl
    · exact h.others i
  · obtain ⟨_, h2, h3⟩ := hlq q t' hq
    rw [hW, wiped_in h3]
    exact h.live q t' h2
end

/-! ### the whole trap -/
theorem MInv.next {M : MS} (h : MInv M) {me : Nat} (hc : M.cur = some me) {n : Int} {xs : List Int} (ha : Args n xs) (hz : (M.ask me n xs).2 = 0) : MInv (M.next me n xs) := by
  obtain ⟨m1, m2, _⟩ := h.cur_some hc
  cases ha with
  | self => exact h
  | kind s hs => exact h
  | label s hs => exact h
  | seg c s l hc hs hl =>
    change (mMake M.S (M.S me).owns (M.S me).label c s l).2 = 0 at hz
    exact h.put (making_zero hz) (segT l) _ (Or.inr (Or.inl rfl)) rfl hl (by simp [segT]) ⟨rfl, rfl, rfl, rfl⟩ ⟨rfl, rfl, rfl, rfl⟩ (fun _ => rfl) (fun e => absurd e (by simp [segT])) (fun e => absurd rfl e)
  | read s i hs hi => exact h
  | write s i v hs hi =>
    change (mWrite M.S (M.S me).owns (M.S me).label s).2 = 0 at hz
    have hk := (kindF_zero' hz).1
    exact h.words (s := s) _ (fun h3 => by rw [List.length_set]; exact h.segs s h3) (fun h4 => by omega) (Or.inl hk)
  | cont c s l a e g k hc hs hl ha hae he hgk hk =>
    change (mCont M.S (M.S me).owns (M.S me).label c s l a e g k).2 = 0 at hz
    unfold mCont at hz
    obtain ⟨hb, hz⟩ := if_zero' (by decide) hz
    have hr : Roomy M.S c s a e g k := busyB_spec he hk (by simpa using hb)
    exact h.cont (making_zero hz) hs hl ha hae he hgk hk hr
  | free s hs =>
    change (mFree M.S (M.S me).owns (M.S me).label s).2 = 0 at hz
    unfold mFree at hz
    by_cases hs0 : s = 0
    · rw [if_pos hs0] at hz; exact absurd hz (failed_zero (by decide) _)
    · exact h.gone hs hs0
  | thread c s l o hc hs hl ho =>
    change (mThread M.S (M.S me).owns (M.S me).label c s l o).2 = 0 at hz
    unfold mThread at hz
    obtain ⟨_, hz⟩ := if_zero (by decide) hz
    exact h.put (making_zero hz) (thrT l o) [] (Or.inl rfl) rfl hl ho ⟨rfl, rfl, rfl, rfl⟩ ⟨rfl, rfl, rfl, rfl⟩ (fun e => absurd e (by simp [thrT])) (fun e => absurd e (by simp [thrT])) (fun _ _ => rfl)
  | give q s hq hs =>
    change (mGive M.S (M.S me).owns (M.S me).label q s).2 = 0 at hz
    unfold mGive at hz
    exact h.turn (q := q) (some s) (fun s' e => by injection e with e; subst e; exact ⟨hs, (kindF_zero' (chk_zero hz).1).1⟩)
  | drop q hq => exact h.turn (q := q) none (fun s e => by cases e)
  | sleep => exact h.awake m1 m2 false
  | wake s hs =>
    change (mWake M.S (M.S me).owns (M.S me).label s).2 = 0 at hz
    exact h.awake hs (kindF_zero' hz).1 true
  | port c s l hc hs hl =>
    change (mMake M.S (M.S me).owns (M.S me).label c s l).2 = 0 at hz
    exact h.put (making_zero hz) (portT l) _ (Or.inr (Or.inr rfl)) rfl hl (by simp [portT]) ⟨rfl, rfl, rfl, rfl⟩ ⟨rfl, rfl, rfl, rfl⟩ (fun e => absurd e (by simp [portT])) (fun _ => by simp) (fun _ e => absurd rfl e)
  | send s v hs =>
    change (mSend M.S (M.S me).owns (M.S me).label s (M.ws s).length).2 = 0 at hz
    unfold mSend at hz
    obtain ⟨_, hz⟩ := if_zero' (by decide) hz
    have hk := (kindF_zero' hz).1
    show MInv (if 4 ≤ (M.ws s).length then M else M.words s (M.ws s ++ [v]))
    split
    · exact h
    · exact h.words (s := s) _ (fun h3 => by omega) (fun _ => by simp; omega) (Or.inr hk)
  | receive s hs =>
    change (mRecv M.S (M.S me).owns (M.S me).label s (M.ws s).length).2 = 0 at hz
    unfold mRecv at hz
    obtain ⟨_, hz⟩ := if_zero' (by decide) hz
    have hk := (kindF_zero' hz).1
    show MInv (M.words s (M.ws s).tail)
    exact h.words (s := s) _ (fun h3 => by omega) (fun h4 => by have := h.ports s h4; rw [List.length_tail]; omega) (Or.inr hk)

theorem MInv.trap {M : MS} (h : MInv M) (n : Int) (xs : List Int) : MInv (M.trap n xs).2 := by
  unfold MS.trap
  cases hc : M.cur with
  | none => exact h
  | some me =>
    dsimp only
    by_cases h1 : n < 1 ∨ 17 ≤ n ∨ (shapeL n).length ≠ xs.length
    · rw [if_pos h1]; exact h
    · rw [if_neg h1]
      by_cases h2 : mayTo (shapeL n) xs xs.length = false
      · rw [if_pos h2]; exact h
      · rw [if_neg h2]
        by_cases h3 : (M.ask me n xs).2 = 0
        · rw [if_pos h3]
          exact h.next hc (args_of (by omega) (by omega) (Classical.not_not.1 (fun e => h1 (Or.inr (Or.inr e)))) (by simpa using h2)) h3
        · rw [if_neg h3]; exact h

def MS.tick (M : MS) : MS := { M with ph := (M.ph + 1) % 8 }
theorem MInv.tick {M : MS} (h : MInv M) : MInv M.tick :=
  ⟨h.tree, h.kinds, h.free, h.clean, h.segs, h.ports, h.others, h.live, Nat.mod_lt _ (by omega)⟩

/-- As it is at first. -/
def MS.boot : MS where
  S := fun i => if i = 0 then ⟨1, 0, 0, none, 0, 0, 0, false, 1, 32, 0, 8⟩ else if i = 1 then ⟨2, 0, 0, none, 0, 0, 255, true, 0, 0, 0, 0⟩ else fth
  ws := fun _ => []
  lq := fun q => if q < 8 then some 1 else none
  ph := 0

theorem MInv.boot : MInv MS.boot := by
  have hk : ∀ i, (MS.boot.S i).kind = 1 → i = 0 := fun i hi => by
    unfold MS.boot at hi
    dsimp only at hi
    by_cases e : i = 0
    · exact e
    · rw [if_neg e] at hi
      by_cases e1 : i = 1
      · rw [if_pos e1] at hi; exact absurd hi (by decide)
      · rw [if_neg e1] at hi; exact absurd hi (by simp [fth])
  have hc : ∀ i, MS.boot.S i = ⟨1, 0, 0, none, 0, 0, 0, false, 1, 32, 0, 8⟩ ∧ i = 0 ∨ MS.boot.S i = ⟨2, 0, 0, none, 0, 0, 255, true, 0, 0, 0, 0⟩ ∧ i = 1 ∨ MS.boot.S i = fth ∧ i ≠ 0 ∧ i ≠ 1 := fun i => by
    unfold MS.boot
    dsimp only
    by_cases e : i = 0
    · exact Or.inl ⟨if_pos e, e⟩
    · rw [if_neg e]
      by_cases e1 : i = 1
      · exact Or.inr (Or.inl ⟨if_pos e1, e1⟩)
      · exact Or.inr (Or.inr ⟨if_neg e1, e, e1⟩)
  refine ⟨⟨⟨rfl, rfl, rfl, rfl, rfl, rfl⟩, fun c hc1 hc2 => ?_, fun c hc1 hc2 => ?_, fun c d _ _ hc1 hd1 hne => ?_, fun i _ hi => ?_, fun i _ => ?_, fun s c _ hs hl => ?_⟩, fun i => ?_, fun i hi => ?_, fun i => ?_, fun i hi => ?_, fun i hi => ?_, fun i _ _ => rfl, fun q t hq => ?_, by unfold MS.boot; decide⟩
  · rw [hk c hc2]; decide
  · rw [hk c hc2]; unfold Th.inR MS.boot; simp
  · exact absurd ((hk c hc1).trans (hk d hd1).symm) hne
  · rcases hc i with ⟨e, _⟩ | ⟨e, _⟩ | ⟨e, _⟩
    · rw [e] at hi; exact absurd rfl hi
    · rw [e]; exact ⟨rfl, rfl, rfl, rfl⟩
    · rw [e]; exact ⟨rfl, rfl, rfl, rfl⟩
  · rcases hc i with ⟨e, _⟩ | ⟨e, _⟩ | ⟨e, _⟩ <;> rw [e] <;> simp [fth]
  · have h0 := hk c (lies_spec hl).2.1
    subst h0
    show sub 0 _ = true
    unfold sub
    simp
  · rcases hc i with ⟨e, _⟩ | ⟨e, _⟩ | ⟨e, _⟩ <;> rw [e] <;> simp [fth]
  · rcases hc i with ⟨e, _⟩ | ⟨e, _⟩ | ⟨e, _⟩
    · rw [e] at hi; exact absurd hi (by decide)
    · rw [e] at hi; exact absurd hi (by decide)
    · exact e
  · rcases hc i with ⟨e, _⟩ | ⟨e, _⟩ | ⟨e, _⟩ <;> rw [e] <;> simp [fth]
  · rcases hc i with ⟨e, _⟩ | ⟨e, _⟩ | ⟨e, _⟩ <;> rw [e] at hi <;> exact absurd hi (by simp [fth])
  · rcases hc i with ⟨e, _⟩ | ⟨e, _⟩ | ⟨e, _⟩ <;> rw [e] at hi <;> exact absurd hi (by simp [fth])
  · have : t = 1 := by
      unfold MS.boot at hq
      dsimp only at hq
      split at hq
      · injection hq with hq
        exact hq.symm
      · cases hq
    subst this
    exact ⟨by omega, rfl⟩

end Go.Proofs.Ytloppmepfkkblaa
end

section
/- What may be known under a label, by the plain kernel: and that it is short. Without conditions. -/
open Go Go.RowKit
namespace Go.Proofs.Ytloppmepfkkblaa

/-- What is told of an object whose label is in l. -/
def bodyM (M : MS) (s : Nat) : List Int :=
  if (M.S s).kind = 1 then [(M.S s).A, (M.S s).B, (M.S s).G, (M.S s).H]
  else if (M.S s).kind = 2 then [((M.S s).owns : Int), if (M.S s).awake = true then 1 else 0]
  else if (M.S s).kind = 3 then M.ws s
  else if (M.S s).kind = 4 then ((M.ws s).length : Int) :: M.ws s
  else []

/-- What is told of a slot. -/
def thingM (M : MS) (l s : Nat) : List Int :=
  (s : Int) :: (M.S s).kind :: (if (M.S s).kind = 0 then [] else ((M.S s).label : Int) :: (if sub (M.S s).label l = true then bodyM M s else []))

/-- The thread of a quantum, as far as it may be known. -/
def whoM (M : MS) (l q : Nat) : Int := match M.lq q with
  | none => -1
  | some t => if sub (M.S t).label l = true then t else -1

/-- Slots ahead of k that lie in c. -/
def slotsM (M : MS) (l c : Nat) : Nat → List Int
  | 0 => []
  | k + 1 => slotsM M l c k ++ (if 1 ≤ k ∧ lies M.S k = some c then thingM M l k else [])
/-- Quanta ahead of k that lie in c. -/
def quantaM (M : MS) (l c : Nat) : Nat → List Int
  | 0 => []
  | k + 1 => quantaM M l c k ++ (if has M.S k = some c then [(k : Int), whoM M l k] else [])
/-- Containers ahead of k that lie in c. -/
def kidsM (M : MS) (c : Nat) (f : Nat → List Int) : Nat → List Int
  | 0 => []
  | k + 1 => kidsM M c f k ++ (if 1 ≤ k ∧ (M.S k).kind = 1 ∧ lies M.S k = some c then f k else [])

/-- What is told of a container. -/
def tellsM (M : MS) (l : Nat) : Nat → Nat → List Int
  | 0, _ => []
  | n + 1, c => if sub (M.S c).label l = true then slotsM M l c 32 ++ quantaM M l c 8 ++ kidsM M c (tellsM M l n) 32 else []

/-- What may be known under a label. -/
def viewM (M : MS) (l : Int) : List Int := if l < 0 ∨ 255 < l then [] else (M.ph : Int) :: tellsM M l.toNat DEEP 0

/-! ### it is short -/
theorem body_len {M : MS} (h : MInv M) (s : Nat) : (bodyM M s).length ≤ 8 := by
  unfold bodyM
  split
  · simp
  · split
    · simp
    · split
      · rename_i h3; rw [h.segs s h3]; omega
      · split
        · rename_i h4; have := h.ports s h4; simp; omega
        · simp

theorem thing_len {M : MS} (h : MInv M) (l s : Nat) : (thingM M l s).length ≤ 11 := by
  have := body_len h s
  unfold thingM
  simp only [List.length_cons]
  split
  · simp
  · simp only [List.length_cons]
    split
    · omega
    · simp

theorem slots_len {M : MS} (h : MInv M) (l c : Nat) : ∀ k, (slotsM M l c k).length ≤ 11 * k
  | 0 => by simp [slotsM]
  | k + 1 => by
    have := slots_len h l c k
    have := thing_len h l k
    unfold slotsM
    rw [List.length_append]
    split
    · omega
    · simp; omega

theorem quanta_len (M : MS) (l c : Nat) : ∀ k, (quantaM M l c k).length ≤ 2 * k
  | 0 => by simp [quantaM]
  | k + 1 => by
    have := quanta_len M l c k
    unfold quantaM
    rw [List.length_append]
    split <;> simp <;> omega

/-- Sums over numbers ahead of k. -/
def sumTo (f : Nat → Nat) : Nat → Nat
  | 0 => 0
  | k + 1 => sumTo f k + f k

theorem sumTo_le {f g : Nat → Nat} : ∀ k, (∀ i, i < k → f i ≤ g i) → sumTo f k ≤ sumTo g k
  | 0, _ => Nat.le_refl _
  | k + 1, h => by
    have := sumTo_le k (fun i hi => h i (by omega))
    have := h k (by omega)
    unfold sumTo
    omega
theorem sumTo_add (f g : Nat → Nat) : ∀ k, sumTo (fun i => f i + g i) k = sumTo f k + sumTo g k
  | 0 => rfl
  | k + 1 => by
    have := sumTo_add f g k
    unfold sumTo
    omega
theorem sumTo_zero : ∀ k, sumTo (fun _ => 0) k = 0
  | 0 => rfl
  | k + 1 => by unfold sumTo; rw [sumTo_zero k]
theorem sumTo_swap (f : Nat → Nat → Nat) (m : Nat) : ∀ k, sumTo (fun i => sumTo (f i) m) k = sumTo (fun j => sumTo (fun i => f i j) k) m
  | 0 => by show 0 = sumTo (fun _ => 0) m; rw [sumTo_zero]
  | k + 1 => by
    have := sumTo_swap f m k
    show sumTo (fun i => sumTo (f i) m) k + sumTo (f k) m = sumTo (fun j => sumTo (fun i => f i j) k + f k j) m
    rw [sumTo_add, this]
theorem sumTo_mul (a : Nat) (f : Nat → Nat) : ∀ k, sumTo (fun i => a * f i) k = a * sumTo f k
  | 0 => rfl
  | k + 1 => by
    have := sumTo_mul a f k
    unfold sumTo
    rw [this, Nat.mul_add]

/-- At most one of them is 1. -/
theorem sumTo_one {p : Nat → Prop} [DecidablePred p] : ∀ k, (∀ i j, i < k → j < k → p i → p j → i = j) → sumTo (fun i => if p i then 1 else 0) k ≤ 1 ∧ ((∀ i, i < k → ¬ p i) → sumTo (fun i => if p i then 1 else 0) k = 0)
  | 0, _ => ⟨Nat.zero_le _, fun _ => rfl⟩
  | k + 1, h => by
    obtain ⟨h1, h2⟩ := sumTo_one k (fun i j hi hj => h i j (by omega) (by omega))
    constructor
    · show sumTo (fun i => if p i then 1 else 0) k + (if p k then 1 else 0) ≤ 1
      by_cases e : p k
      · rw [if_pos e, h2 (fun i hi hp => by have := h i k (by omega) (by omega) hp e; omega)]
        exact Nat.le_refl _
      · rw [if_neg e]; omega
    · intro h3
      show sumTo (fun i => if p i then 1 else 0) k + (if p k then 1 else 0) = 0
      rw [h2 (fun i hi => h3 i (by omega)), if_neg (h3 k (by omega))]

/-- How many slots lie from a to b - 1. -/
theorem sumTo_range (a b : Int) (ha : 0 ≤ a) (hab : a ≤ b) : ∀ k : Nat, b ≤ k → ((sumTo (fun i => if a ≤ (i : Int) ∧ (i : Int) < b then 1 else 0) k : Nat) : Int) = b - a := by
  have h1 : ∀ k : Nat, ((sumTo (fun i => if a ≤ (i : Int) ∧ (i : Int) < b then 1 else 0) k : Nat) : Int) = (if (k : Int) ≤ a then 0 else if (k : Int) ≤ b then (k : Int) - a else b - a) := by
    intro k
    induction k with
    | zero => rw [if_pos (by omega)]; rfl
    | succ k ih =>
      show ((sumTo (fun i => if a ≤ (i : Int) ∧ (i : Int) < b then 1 else 0) k + (if a ≤ (k : Int) ∧ (k : Int) < b then 1 else 0) : Nat) : Int) = _
      rw [Int.natCast_add, ih]
      by_cases c1 : a ≤ (k : Int) ∧ (k : Int) < b
      · rw [if_pos c1]
        have n1 : ¬ ((k + 1 : Nat) : Int) ≤ a := by omega
        rw [if_neg n1, if_pos (show ((k + 1 : Nat) : Int) ≤ b by omega)]
        by_cases c2 : (k : Int) ≤ a
        · rw [if_pos c2]; omega
        · rw [if_neg c2, if_pos (by omega)]; omega
      · rw [if_neg c1]
        by_cases c2 : (k : Int) < a
        · rw [if_pos (show (k : Int) ≤ a by omega), if_pos (show ((k + 1 : Nat) : Int) ≤ a by omega)]; rfl
        · have c3 : b ≤ (k : Int) := by omega
          by_cases c4 : (k : Int) ≤ a
          · rw [if_pos c4, if_neg (show ¬ ((k + 1 : Nat) : Int) ≤ a by omega), if_neg (show ¬ ((k + 1 : Nat) : Int) ≤ b by omega)]
            show (0 : Int) + 0 = b - a
            omega
          · rw [if_neg c4, if_neg (show ¬ ((k + 1 : Nat) : Int) ≤ a by omega), if_neg (show ¬ ((k + 1 : Nat) : Int) ≤ b by omega)]
            by_cases c5 : (k : Int) ≤ b
            · rw [if_pos c5]
              show (k : Int) - a + 0 = b - a
              omega
            · rw [if_neg c5]
              show b - a + 0 = b - a
              omega
  intro k hk
  rw [h1 k]
  by_cases c1 : (k : Int) ≤ a
  · rw [if_pos c1]; omega
  · rw [if_neg c1]
    by_cases c2 : (k : Int) ≤ b
    · rw [if_pos c2]; omega
    · rw [if_neg c2]

theorem kids_len (M : MS) (c : Nat) (f : Nat → List Int) : ∀ k, (kidsM M c f k).length = sumTo (fun i => if 1 ≤ i ∧ (M.S i).kind = 1 ∧ lies M.S i = some c then (f i).length else 0) k
  | 0 => rfl
  | k + 1 => by
    have := kids_len M c f k
    unfold kidsM sumTo
    rw [List.length_append, this]
    split <;> simp

/-- A container that lies in c. -/
def kid (S : Nat → Th) (c k : Nat) : Prop := 1 ≤ k ∧ (S k).kind = 1 ∧ lies S k = some c
instance (S : Nat → Th) (c k : Nat) : Decidable (kid S c k) := by unfold kid; infer_instance
def spot (S : Nat → Th) (k s : Nat) : Prop := s = k ∨ (S k).A ≤ s ∧ (s : Int) < (S k).B
instance (S : Nat → Th) (k s : Nat) : Decidable (spot S k s) := by unfold spot; infer_instance

theorem Tree.kid_in {S : Nat → Th} (h : Tree S) {c k : Nat} (hk : k < 32) (hc : kid S c k) : c < 32 ∧ (S c).kind = 1 ∧ inside S k c := by
  obtain ⟨_, h1, h2⟩ := hc
  obtain ⟨h3, h4, h5, _⟩ := lies_spec h2
  exact ⟨h3, h4, h.slot_inside hk h1 h3 h4 h5⟩

theorem Tree.kid_not {S : Nat → Th} (h : Tree S) {c k j : Nat} (hj : j < 32) (h1 : kid S c k) (h2 : kid S c j) : ¬ (S j).inR k := fun h3 => by
  obtain ⟨c1, c2, c3⟩ := h.kid_in hj h2
  rcases h.lies_inside h1.2.2 hj h2.2.1 h3 with e | e
  · subst e; exact h.own j hj c2 c3.slot
  · have := h.len_lt hj h2.2.1 c1 c2 c3
    have := h.len_lt c1 c2 hj h2.2.1 e
    omega

theorem Tree.kid_one {S : Nat → Th} (h : Tree S) {c k j s : Nat} (hk : k < 32) (hj : j < 32) (h1 : kid S c k ∧ spot S k s) (h2 : kid S c j ∧ spot S j s) : k = j := by
  obtain ⟨h1, h3⟩ := h1
  obtain ⟨h2, h4⟩ := h2
  rcases h3 with e3 | e3
  · rcases h4 with e4 | e4
    · omega
    · exact absurd (show (S j).inR k from e3 ▸ e4) (h.kid_not hj h1 h2)
  · rcases h4 with e4 | e4
    · exact absurd (show (S k).inR j from e4 ▸ e3) (h.kid_not hk h2 h1)
    · by_cases e : k = j
      · exact e
      · rcases h.sib k j hk hj h1.2.1 h2.2.1 e (Or.inl ⟨s, e3, e4⟩) with h5 | h5
        · exact absurd h5.slot (h.kid_not hj h1 h2)
        · exact absurd h5.slot (h.kid_not hk h2 h1)

theorem Tree.kids_sum {S : Nat → Th} (h : Tree S) {c : Nat} (hc : c < 32) (hc1 : (S c).kind = 1) : ((sumTo (fun k => if kid S c k then 1 + (S k).len.toNat else 0) 32 : Nat) : Int) ≤ (S c).len := by
  have hr := h.rng c hc hc1
  have e1 : ∀ k, k < 32 → (if kid S c k then 1 + (S k).len.toNat else 0) ≤ sumTo (fun s => if kid S c k ∧ spot S k s then 1 else 0) 32 := fun k hk => by
    by_cases hk1 : kid S c k
    · rw [if_pos hk1]
      have hrk := h.rng k hk hk1.2.1
      have hok := h.own k hk hk1.2.1
      have a1 := sumTo_range (S k).A (S k).B (by omega) (by omega) 32 (by omega)
      have a2 := sumTo_range (k : Int) ((k : Int) + 1) (by omega) (by omega) 32 (by omega)
      have a3 : sumTo (fun s => (if (k : Int) ≤ (s : Int) ∧ (s : Int) < (k : Int) + 1 then 1 else 0) + (if (S k).A ≤ (s : Int) ∧ (s : Int) < (S k).B then 1 else 0)) 32 ≤ sumTo (fun s => if kid S c k ∧ spot S k s then 1 else 0) 32 := by
        refine sumTo_le 32 (fun s hs => ?_)
        by_cases b1 : (k : Int) ≤ (s : Int) ∧ (s : Int) < (k : Int) + 1
        · have e : s = k := by omega
          rw [if_pos b1, if_neg (fun b2 => hok (by unfold Th.inR; omega)), if_pos ⟨hk1, Or.inl e⟩]
          exact Nat.le_refl _
        · rw [if_neg b1]
          by_cases b2 : (S k).A ≤ (s : Int) ∧ (s : Int) < (S k).B
          · rw [if_pos b2, if_pos ⟨hk1, Or.inr b2⟩]
            exact Nat.le_refl _
          · rw [if_neg b2]; exact Nat.zero_le _
      rw [sumTo_add] at a3
      unfold Th.len
      omega
    · rw [if_neg hk1]; exact Nat.zero_le _
  have e2 := sumTo_le 32 e1
  rw [sumTo_swap] at e2
  have e3 : sumTo (fun s => sumTo (fun k => if kid S c k ∧ spot S k s then 1 else 0) 32) 32 ≤ sumTo (fun s => if (S c).A ≤ (s : Int) ∧ (s : Int) < (S c).B then 1 else 0) 32 := by
    refine sumTo_le 32 (fun s hs => ?_)
    obtain ⟨o1, o2⟩ := sumTo_one (p := fun k => kid S c k ∧ spot S k s) 32 (fun i j hi hj h1 h2 => h.kid_one hi hj h1 h2)
    by_cases b1 : (S c).A ≤ (s : Int) ∧ (s : Int) < (S c).B
    · rw [if_pos b1]; exact o1
    · rw [if_neg b1, o2 (fun k hk h3 => ?_)]
      · exact Nat.le_refl _
      · obtain ⟨_, _, c3⟩ := h.kid_in hk h3.1
        rcases h3.2 with e | e
        · exact b1 (by have := c3.slot; unfold Th.inR at this; omega)
        · exact b1 (c3.sub _ e)
  have e4 := sumTo_range (S c).A (S c).B (by omega) (by omega) 32 (by omega)
  have e5 := Int.ofNat_le.2 (Nat.le_trans e2 e3)
  rw [e4] at e5
  exact e5

theorem tells_len {M : MS} (h : MInv M) (l : Nat) : ∀ (n c : Nat), c < 32 → (M.S c).kind = 1 → (tellsM M l n c).length ≤ 400 * (1 + (M.S c).len.toNat)
  | 0, _, _, _ => Nat.zero_le _
  | n + 1, c, hc, hc1 => by
    have s1 := slots_len h l c 32
    have s2 := quanta_len M l c 8
    have s3 := h.tree.kids_sum hc hc1
    have s4 := h.tree.len_pos hc hc1
    unfold tellsM
    split
    · rw [List.length_append, List.length_append, kids_len]
      have s5 : sumTo (fun i => if 1 ≤ i ∧ (M.S i).kind = 1 ∧ lies M.S i = some c then (tellsM M l n i).length else 0) 32 ≤ sumTo (fun k => 400 * (if kid M.S c k then 1 + (M.S k).len.toNat else 0)) 32 := by
        refine sumTo_le 32 (fun i hi => ?_)
        by_cases e : kid M.S c i
        · rw [if_pos (c := 1 ≤ i ∧ (M.S i).kind = 1 ∧ lies M.S i = some c) e, if_pos e]
          exact tells_len h l n i hi e.2.1
        · rw [if_neg (c := 1 ≤ i ∧ (M.S i).kind = 1 ∧ lies M.S i = some c) e]
          exact Nat.zero_le _
      rw [sumTo_mul] at s5
      omega
    · exact Nat.zero_le _

theorem view_short {M : MS} (h : MInv M) (l : Int) : (viewM M l).length ≤ 13000 := by
  unfold viewM
  split
  · simp
  · have := tells_len h l.toNat DEEP 0 (by omega) h.tree.root.1
    have := (h.tree.len_pos (c := 0) (by omega) h.tree.root.1).2
    simp only [List.length_cons]
    omega

end Go.Proofs.Ytloppmepfkkblaa
end
