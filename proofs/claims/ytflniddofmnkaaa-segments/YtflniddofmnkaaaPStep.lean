/- How the program's kernel turns: a word that is written, an object that is put, the phase. -/
import Derived.Test.YtflniddofmnkaaaPBase
open Go Go.Proofs Go.RowKit
namespace Go.Proofs.Ytflniddofmnkaaa

theorem obV_kind {t : Th} {g : Nat} (h : t.kind = 0) : obV t g = .nilIface := by simp [obV, h]

theorem toArray_set (l : List Value) (n : Nat) (v : Value) : l.toArray.setIfInBounds n v = (l.set n v).toArray := by simp

section
variable {w : World} {kb : Nat} {S : Nat → Th} {ws : Nat → List Int} {lq : Nat → Option Nat} {ph : Nat} {ob : Nat → Nat} {qp : Nat → Option Nat}

theorem QOK.same {w' : World} {o l : Option Nat} (h : QOK w kb S ob o l) (e : ∀ g, o = some g → w'.heap[g]? = w.heap[g]?) : QOK w' kb S ob o l := by
  unfold QOK at *
  cases o with
  | none => exact h
  | some g =>
    obtain ⟨a1, sl, lb, ow, aw, a2, a3, a4⟩ := h
    exact ⟨a1, sl, lb, ow, aw, a2, a3.same (e g rfl), a4⟩

/-- A quantum's thread is a thread: its block is no segment's. -/
theorem PK.qne (h : PK w kb S ws lq ph ob qp) {q g i : Nat} (hq : q < 8) (hg : qp q = some g) (hi : i < 32) (hk : (S i).kind ≠ 0) (h2 : (S i).kind ≠ 2) : g ≠ ob i := by
  have hQ := h.quanta q hq
  rw [hg] at hQ
  obtain ⟨_, sl, lb, ow, aw, _, hb, _⟩ := hQ
  intro e
  have hb2 := h.obs i hi hk
  rw [← e] at hb2
  have c1 := hb.cell 1
  rw [hb2.cell 1] at c1
  unfold obCells at c1
  rcases h.kinds i hi with e | e | e | e
  · exact hk e
  · simp [e] at c1
  · exact h2 e
  · simp [e] at c1

theorem PK.putWord (h : PK w kb S ws lq ph ob qp) {s i : Nat} (hs : s < 32) (hk : (S s).kind = 3) (v : Int) :
    PK (w.setCell ⟨ob s, 3 + i, none⟩ (.int .i64 v)) kb S (upd ws s ((ws s).set i v)) lq ph ob qp := by
  have hne : (S s).kind ≠ 0 := by omega
  obtain ⟨cs, h1, h2⟩ := h.kern
  refine ⟨⟨cs, h1.apart (fun e => h.off s hs hne e.symm) _, h2⟩, fun j hj hkj => ?_, h.kinds, h.inj, h.off, fun q hq => ?_, h.ph8, fun j hj hkj => ?_, h.wf⟩
  · by_cases e : j = s
    · subst e
      rw [upd_same]
      have hb := (h.obs j hj hkj).set (3 + i) (.int .i64 v)
      have ec : (obCells j (S j) (ws j)).setIfInBounds (3 + i) (.int .i64 v) = obCells j (S j) ((ws j).set i v) := by
        unfold obCells ints
        rw [if_neg (by omega), if_neg (by omega), if_neg (by omega), if_neg (by omega), toArray_set]
        congr 1
        have e3 : 3 + i = i + 1 + 1 + 1 := by omega
        rw [e3]
        simp [List.map_set]
      rw [ec] at hb
      exact hb
    · rw [upd_ne _ _ e]
      exact (h.obs j hj hkj).apart (fun eq => e (h.inj j s hj hs hkj hne eq)) _
  · exact (h.quanta q hq).same fun g hg => Below.heap_setCell _ _ _ _ (h.qne hq hg hs hne (by omega))
  · by_cases e : j = s
    · subst e
      rw [upd_same, List.length_set]
      exact h.segs j hj hkj
    · rw [upd_ne _ _ e]
      exact h.segs j hj hkj

theorem PK.putPhase (h : PK w kb S ws lq ph ob qp) {n : Nat} (hn : n < 8) : PK (w.setCell ⟨kb, 40, none⟩ (.int .i64 n)) kb S ws lq n ob qp := by
  obtain ⟨cs, h1, h2, h3, h4, h5⟩ := h.kern
  refine ⟨⟨_, h1.set 40 _, by simpa using h2, fun i hi => ?_, fun q hq => ?_, ?_⟩, fun i hi hk => (h.obs i hi hk).apart (h.off i hi hk) _, h.kinds, h.inj, h.off, fun q hq => ?_, hn, h.segs, h.wf⟩
  · rw [Array.getElem?_setIfInBounds_ne (by omega)]; exact h3 i hi
  · rw [Array.getElem?_setIfInBounds_ne (by omega)]; exact h4 q hq
  · rw [Array.getElem?_setIfInBounds_self_of_lt (by omega)]
  · refine (h.quanta q hq).same fun g hg => Below.heap_setCell _ _ _ _ ?_
    have hQ := h.quanta q hq
    rw [hg] at hQ
    exact hQ.1

/-- An object that is put into a free slot. -/
theorem PK.putNew (h : PK w kb S ws lq ph ob qp) {s g : Nat} (hs : s < 32) (hk : (S s).kind = 0) (t : Th) (wt : List Int) (hg : Blk w g (obCells s t wt)) (hf : ¬ Foot kb S ob qp g)
    (ht : t.kind = 1 ∨ t.kind = 2 ∨ t.kind = 3) (hw : t.wf) (h3 : t.kind = 3 → wt.length = 8) :
    PK (w.setCell ⟨kb, s, none⟩ (obV t g)) kb (upd S s t) (upd ws s wt) lq ph (upd ob s g) qp := by
  have hgk : g ≠ kb := fun e => hf (Or.inl e)
  obtain ⟨cs, h1, h2, h3', h4, h5⟩ := h.kern
  refine ⟨⟨_, h1.set s _, by simpa using h2, fun i hi => ?_, fun q hq => ?_, ?_⟩, fun i hi hki => ?_, fun i hi => ?_, fun i j hi hj hki hkj he => ?_, fun i hi hki => ?_, fun q hq => ?_, h.ph8, fun i hi hki => ?_, fun i hi => ?_⟩
  · by_cases e : i = s
    · subst e; rw [Array.getElem?_setIfInBounds_self_of_lt (by omega), upd_same, upd_same]
    · rw [Array.getElem?_setIfInBounds_ne (Ne.symm e), upd_ne _ _ e, upd_ne _ _ e]; exact h3' i hi
  · rw [Array.getElem?_setIfInBounds_ne (by omega)]; exact h4 q hq
  · rw [Array.getElem?_setIfInBounds_ne (by omega)]; exact h5
  · by_cases e : i = s
    · subst e; rw [upd_same, upd_same, upd_same]; exact hg.apart hgk _
    · rw [upd_ne _ _ e] at hki
      rw [upd_ne _ _ e, upd_ne _ _ e, upd_ne _ _ e]
      exact (h.obs i hi hki).apart (h.off i hi hki) _
  · by_cases e : i = s
    · subst e; rw [upd_same]; omega
    · rw [upd_ne _ _ e]; exact h.kinds i hi
  · by_cases e : i = s
    · by_cases e' : j = s
      · omega
      · subst e
        rw [upd_same, upd_ne _ _ e'] at he
        rw [upd_ne _ _ e'] at hkj
        exact absurd (Or.inr (Or.inl ⟨j, hj, hkj, he.symm⟩)) hf
    · by_cases e' : j = s
      · subst e'
        rw [upd_same, upd_ne _ _ e] at he
        rw [upd_ne _ _ e] at hki
        exact absurd (Or.inr (Or.inl ⟨i, hi, hki, he⟩)) hf
      · rw [upd_ne _ _ e, upd_ne _ _ e'] at he
        rw [upd_ne _ _ e] at hki
        rw [upd_ne _ _ e'] at hkj
        exact h.inj i j hi hj hki hkj he
  · by_cases e : i = s
    · subst e; rw [upd_same]; exact hgk
    · rw [upd_ne _ _ e] at hki
      rw [upd_ne _ _ e]
      exact h.off i hi hki
  · have hQ := h.quanta q hq
    unfold QOK at *
    cases hqp : qp q with
    | none => rw [hqp] at hQ; exact hQ
    | some g' =>
      rw [hqp] at hQ
      obtain ⟨a1, sl, lb, ow, aw, a2, a3, a4⟩ := hQ
      refine ⟨a1, sl, lb, ow, aw, a2, a3.apart a1 _, ?_⟩
      have hgg : g ≠ g' := fun e => hf (Or.inr (Or.inr ⟨q, hq, by rw [hqp, e]⟩))
      by_cases e : sl = s
      · subst e
        rw [a4, upd_same, upd_same, if_neg (by omega), if_neg (by omega)]
      · rw [a4, upd_ne _ _ e, upd_ne _ _ e]
  · by_cases e : i = s
    · subst e; rw [upd_same] at hki; rw [upd_same]; exact h3 hki
    · rw [upd_ne _ _ e] at hki
      rw [upd_ne _ _ e]
      exact h.segs i hi hki
  · by_cases e : i = s
    · subst e; rw [upd_same]; exact hw
    · rw [upd_ne _ _ e]; exact h.wf i hi
/-- A quantum is given to the thread in a slot. -/
theorem PK.putQuant (h : PK w kb S ws lq ph ob qp) {q s : Nat} (hq : q < 8) (hs : s < 32) (hk : (S s).kind = 2) :
    PK (w.setCell ⟨kb, 32 + q, none⟩ (.pointer (some ⟨ob s, 0, none⟩))) kb S ws (upd lq q (some s)) ph ob (upd qp q (some (ob s))) := by
  obtain ⟨cs, h1, h2, h3, h4, h5⟩ := h.kern
  have hne : (S s).kind ≠ 0 := by omega
  have keep : ∀ {o l : Option Nat}, QOK w kb S ob o l → QOK (w.setCell ⟨kb, 32 + q, none⟩ (.pointer (some ⟨ob s, 0, none⟩))) kb S ob o l := fun {o l} hQ =>
    hQ.same fun g hg => Below.heap_setCell _ _ _ _ (by subst hg; exact hQ.1)
  refine ⟨⟨_, h1.set (32 + q) _, by simpa using h2, fun i hi => ?_, fun j hj => ?_, ?_⟩, fun i hi hki => (h.obs i hi hki).apart (h.off i hi hki) _, h.kinds, h.inj, h.off, fun j hj => ?_, h.ph8, h.segs, h.wf⟩
  · rw [Array.getElem?_setIfInBounds_ne (by omega)]; exact h3 i hi
  · by_cases e : j = q
    · subst e; rw [Array.getElem?_setIfInBounds_self_of_lt (by omega), upd_same]; rfl
    · rw [Array.getElem?_setIfInBounds_ne (by omega), upd_ne _ _ e]; exact h4 j hj
  · rw [Array.getElem?_setIfInBounds_ne (by omega)]; exact h5
  · by_cases e : j = q
    · subst e
      rw [upd_same, upd_same]
      refine keep ⟨h.off s hs hne, s, (S s).label, (S s).owns, (S s).awake, hs, ?_, by rw [if_pos ⟨hk, rfl⟩]⟩
      have hb := h.obs s hs hne
      unfold obCells at hb
      rw [if_neg (by omega), if_pos hk] at hb
      exact hb
    · rw [upd_ne _ _ e, upd_ne _ _ e]
      exact keep (h.quanta j hj)
end

/-- Two things that the program can't tell apart. -/
structure Alike (t t' : Th) : Prop where
  kind : t.kind = t'.kind
  label : t.label = t'.label
  owns : t.owns = t'.owns
  awake : t.awake = t'.awake
  A : t.A = t'.A
  B : t.B = t'.B
  G : t.G = t'.G
  H : t.H = t'.H

theorem Alike.refl (t : Th) : Alike t t := ⟨rfl, rfl, rfl, rfl, rfl, rfl, rfl, rfl⟩
theorem Alike.obV {t t' : Th} (h : Alike t t') (g : Nat) : Ytflniddofmnkaaa.obV t g = Ytflniddofmnkaaa.obV t' g := by unfold Ytflniddofmnkaaa.obV; rw [h.kind]
theorem Alike.cells {t t' : Th} (h : Alike t t') (i : Nat) (ws : List Int) : obCells i t ws = obCells i t' ws := by
  unfold obCells; rw [h.kind, h.label, h.owns, h.awake, h.A, h.B, h.G, h.H]
theorem Alike.wf {t t' : Th} (h : Alike t t') (hw : t.wf) : t'.wf := by
  unfold Th.wf at *; rw [← h.A, ← h.B, ← h.label, ← h.owns]; exact hw

section
variable {w : World} {kb : Nat} {S S' : Nat → Th} {ws : Nat → List Int} {lq : Nat → Option Nat} {ph : Nat} {ob : Nat → Nat} {qp : Nat → Option Nat}
theorem PK.alike (h : PK w kb S ws lq ph ob qp) (ha : ∀ i, i < 32 → Alike (S i) (S' i)) : PK w kb S' ws lq ph ob qp := by
  obtain ⟨cs, h1, h2, h3, h4, h5⟩ := h.kern
  refine ⟨⟨cs, h1, h2, fun i hi => by rw [h3 i hi, (ha i hi).obV], h4, h5⟩, fun i hi hk => ?_, fun i hi => ?_, fun i j hi hj hki hkj he => ?_, fun i hi hk => ?_, fun q hq => ?_, h.ph8, fun i hi hk => ?_, fun i hi => (ha i hi).wf (h.wf i hi)⟩
  · rw [← (ha i hi).cells]; exact h.obs i hi (by rw [(ha i hi).kind]; exact hk)
  · rw [← (ha i hi).kind]; exact h.kinds i hi
  · exact h.inj i j hi hj (by rw [(ha i hi).kind]; exact hki) (by rw [(ha j hj).kind]; exact hkj) he
  · exact h.off i hi (by rw [(ha i hi).kind]; exact hk)
  · have hQ := h.quanta q hq
    unfold QOK at *
    cases hqp : qp q with
    | none => rw [hqp] at hQ; exact hQ
    | some g =>
      rw [hqp] at hQ
      obtain ⟨a1, sl, lb, ow, aw, a2, a3, a4⟩ := hQ
      exact ⟨a1, sl, lb, ow, aw, a2, a3, by rw [a4, (ha sl a2).kind]⟩
  · exact h.segs i hi (by rw [(ha i hi).kind]; exact hk)
end

end Go.Proofs.Ytflniddofmnkaaa
