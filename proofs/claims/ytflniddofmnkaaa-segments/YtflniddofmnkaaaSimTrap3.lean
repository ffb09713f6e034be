/- One trap on both kernels: a segment made; a word written. -/
import Derived.Test.YtflniddofmnkaaaSimTrap2
open Go Go.Proofs Go.RowKit
namespace Go.Proofs.Ytflniddofmnkaaa

theorem WS.below {w w' : World} {b : Nat} {S : Nat → Th} {ws : Nat → List Int} (h : WS w b S ws) (hb : Below w.heap.size w w') : WS w' b S ws :=
  h.fr (P := fun _ => False) (Fr.of_below hb) (fun _ _ _ _ => id)

/-- The reference's thing that is a segment. -/
def segTh (l : Nat) (i : Int) (g : Nat) : Th := ⟨3, l, i, some ⟨g, 0, none⟩, 8, 8, 0, false, 0, 0, 0, 0⟩

theorem segTh_wb {l : Nat} {i : Int} {g k : Nat} : (segTh l i g).wb k ↔ k = g := by
  constructor
  · rintro ⟨o, s, h⟩
    unfold segTh at h
    injection h with h
    injection h with h
    exact h.symm
  · rintro rfl
    exact ⟨0, none, rfl⟩

section
variable {w : World} {kb b : Nat} {r : RSt} {ws : Nat → List Int} {ob : Nat → Nat} {qp : Nat → Option Nat} {pb : Nat} {la : Addr} {cap : Nat}

/-- The slot of a new segment is none of the first two. -/
theorem Sim.slot2 (h : Sim w kb b r ws ob qp) {s : Nat} (hk : (r.S s).kind = 0) : 2 ≤ s := by
  rcases Nat.lt_or_ge s 2 with h2 | h2
  · exfalso
    have : s = 0 ∨ s = 1 := by omega
    rcases this with rfl | rfl
    · rw [h.inv.root.kind] at hk; simp [rootTh] at hk
    · rw [h.inv.first.kind] at hk; simp [firstTh] at hk
  · exact h2

/-- Behind a segment made, in both. -/
theorem Sim.makes (h : Sim w kb b r ws ob qp) {s l g g2 m : Nat} (hs : s < 32) (hk : (r.S s).kind = 0) {w2 w' : World} (hm : w.heap.size ≤ m) (hg : m < g) (hg2 : w2.heap.size < g2) (_hm2 : m ≤ w2.heap.size) (hgw : g < w2.heap.size)
    (hpk : PK w2 kb (upd r.S s (segTh l (r.made + 1) g2)) (upd ws s [0, 0, 0, 0, 0, 0, 0, 0]) lq1 r.phase (upd ob s g) qp) (hws : WS w2 b r.S ws)
    (hrk : RK w' b ((r.mk1 (r.made + 1)).put s (segTh l (r.made + 1) g2))) (hB : Blk w' g2 #[.int .i64 0, .int .i64 0, .int .i64 0, .int .i64 0, .int .i64 0, .int .i64 0, .int .i64 0, .int .i64 0]) (f : Fr (fun k => k = b) w2 w') :
    ∃ r' ws' ob', Sim w' kb b r' ws' ob' qp ∧ (∀ k, SFoot kb b r'.S ob' qp k → SFoot kb b r.S ob qp k ∨ m ≤ k) ∧ r'.made ≤ r.made + 1 := by
  have hbl := h.rk.lt
  have hfoot : ∀ k, Foot kb (upd r.S s (segTh l (r.made + 1) g2)) (upd ob s g) qp k → Foot kb r.S ob qp k ∨ k = g := by
    rintro k (hk' | ⟨i, hi, hki, hk'⟩ | ⟨q, hq, hk'⟩)
    · exact Or.inl (Or.inl hk')
    · by_cases ei : i = s
      · subst ei; rw [upd_same] at hk'; exact Or.inr hk'.symm
      · rw [upd_ne _ _ ei] at hk' hki; exact Or.inl (Or.inr (Or.inl ⟨i, hi, hki, hk'⟩))
    · exact Or.inl (Or.inr (Or.inr ⟨q, hq, hk'⟩))
  have hrfoot : ∀ k, RFoot b (upd r.S s (segTh l (r.made + 1) g2)) k → RFoot b r.S k ∨ k = g2 := by
    rintro k (hk' | ⟨i, hi, hk'⟩)
    · exact Or.inl (Or.inl hk')
    · by_cases ei : i = s
      · subst ei; rw [upd_same] at hk'; exact Or.inr (segTh_wb.1 hk')
      · rw [upd_ne _ _ ei] at hk'; exact Or.inl (Or.inr ⟨i, hi, hk'⟩)
  refine ⟨(r.mk1 (r.made + 1)).put s (segTh l (r.made + 1) g2), upd ws s [0, 0, 0, 0, 0, 0, 0, 0], upd ob s g, ⟨?_, hrk, ?_, ?_, ?_⟩, ?_, Int.le_refl _⟩
  · refine hpk.fr f (fun k hk' e => ?_)
    rcases hfoot k hk' with h1 | h1
    · exact h.dis k h1 (Or.inl e)
    · omega
  · refine ⟨fun i hi => ?_, fun i j k hi hj h1 h2 => ?_, fun i k hi h1 => ?_⟩
    · by_cases ei : i = s
      · subst ei
        show Words w' (upd r.S i _ i) (upd ws i _ i)
        rw [upd_same, upd_same]
        refine ⟨rfl, Nat.le_refl _, Or.inr ⟨g2, _, rfl, hB, Nat.le_refl _, fun j hj => ?_, fun j x hx => ?_⟩⟩
        · have : j < 8 := hj
          have hj : j = 0 ∨ j = 1 ∨ j = 2 ∨ j = 3 ∨ j = 4 ∨ j = 5 ∨ j = 6 ∨ j = 7 := by omega
          rcases hj with rfl | rfl | rfl | rfl | rfl | rfl | rfl | rfl <;> exact ⟨0, rfl⟩
        · have : j < 8 := (List.getElem?_eq_some_iff.1 hx).1
          have hj : j = 0 ∨ j = 1 ∨ j = 2 ∨ j = 3 ∨ j = 4 ∨ j = 5 ∨ j = 6 ∨ j = 7 := by omega
          rcases hj with rfl | rfl | rfl | rfl | rfl | rfl | rfl | rfl <;> (injection hx with hx; subst hx; rfl)
      · show Words w' (upd r.S s _ i) (upd ws s _ i)
        rw [upd_ne _ _ ei, upd_ne _ _ ei]
        exact (hws.words i hi).same (fun k hk' => f.block k ((hws.words i hi).lt hk') (hws.off i k hi hk'))
    · change (upd r.S s (segTh l (r.made + 1) g2) i).wb k at h1
      change (upd r.S s (segTh l (r.made + 1) g2) j).wb k at h2
      by_cases ei : i = s
      · by_cases ej : j = s
        · omega
        · exfalso
          subst ei
          rw [upd_same] at h1
          rw [upd_ne _ _ ej] at h2
          have := segTh_wb.1 h1
          have := (hws.words j hj).lt h2
          omega
      · by_cases ej : j = s
        · exfalso
          subst ej
          rw [upd_same] at h2
          rw [upd_ne _ _ ei] at h1
          have := segTh_wb.1 h2
          have := (hws.words i hi).lt h1
          omega
        · rw [upd_ne _ _ ei] at h1
          rw [upd_ne _ _ ej] at h2
          exact hws.apart i j k hi hj h1 h2
    · change (upd r.S s (segTh l (r.made + 1) g2) i).wb k at h1
      by_cases ei : i = s
      · subst ei
        rw [upd_same] at h1
        have := segTh_wb.1 h1
        omega
      · rw [upd_ne _ _ ei] at h1
        exact hws.off i k hi h1
  · have h2 := h.slot2 hk
    refine ⟨?_, ?_, ?_, fun i h2 hi => ?_, fun i hi hk' => ?_, h.inv.qs, h.inv.qi, ?_, h.inv.ph⟩
    · show Alike (upd r.S s _ 0) _
      rw [upd_ne _ _ (by omega)]; exact h.inv.root
    · show Alike (upd r.S s _ 1) _
      rw [upd_ne _ _ (by omega)]; exact h.inv.first
    · show (upd r.S s _ 1).id = 2
      rw [upd_ne _ _ (by omega)]; exact h.inv.id1
    · show (upd r.S s _ i).kind = 0 ∨ (upd r.S s _ i).kind = 3
      by_cases ei : i = s
      · subst ei; rw [upd_same]; exact Or.inr rfl
      · rw [upd_ne _ _ ei]; exact h.inv.others i h2 hi
    · change (upd r.S s _ i).kind = 3 at hk'
      show (upd r.S s _ i).Wn = 8
      by_cases ei : i = s
      · subst ei; rw [upd_same]; rfl
      · rw [upd_ne _ _ ei] at hk' ⊢; exact h.inv.segs i hi hk'
    · show 2 ≤ r.made + 1
      have := h.inv.made
      omega
  · intro k h1 h2
    rcases hfoot k h1 with h3 | h3
    · rcases hrfoot k h2 with h4 | h4
      · exact h.dis k h3 h4
      · have := h.lt (Or.inl h3); omega
    · rcases hrfoot k h2 with h4 | h4
      · have := h.lt (Or.inr h4); omega
      · omega
  · rintro k (h1 | h1)
    · rcases hfoot k h1 with h3 | h3
      · exact Or.inl (Or.inl h3)
      · exact Or.inr (by omega)
    · rcases hrfoot k h1 with h3 | h3
      · exact Or.inl (Or.inr h3)
      · exact Or.inr (by omega)

theorem goes_pack {FX FY : Nat → Prop} (hX : ∀ k, FX k → SFoot kb b r.S ob qp k) (hY : ∀ k, FY k → SFoot kb b r.S ob qp k) {w' : World}
    (hR : ∃ m, w.heap.size ≤ m ∧ ∃ r' ws' ob', Sim w' kb b r' ws' ob' qp ∧ (∀ k, SFoot kb b r'.S ob' qp k → SFoot kb b r.S ob qp k ∨ m ≤ k) ∧ r'.made ≤ r.made + 1) (f : Fr (fun k => FX k ∨ FY k) w w') : Goes w kb b r ob qp w' := by
  obtain ⟨m, hm, r', ws', ob', h1, h2, h3⟩ := hR
  refine ⟨r', ws', ob', h1, fun k hk => ?_, h3, f.mono (fun k _ hk => hk.elim (hX k) (hY k))⟩
  rcases h2 k hk with h4 | h4
  · exact Or.inl h4
  · exact Or.inr (by omega)

theorem goes_keep (h : Sim w kb b r ws ob qp) (m : Nat) (w' w'' : World) (g : Nat) (hg : w.heap.size ≤ g) (hgm : g < m)
    (hR : ∃ r' ws' ob', Sim w' kb b r' ws' ob' qp ∧ (∀ k, SFoot kb b r'.S ob' qp k → SFoot kb b r.S ob qp k ∨ m ≤ k) ∧ r'.made ≤ r.made + 1) (f : Fr (fun k => k = g) w' w'') :
    ∃ r' ws' ob', Sim w'' kb b r' ws' ob' qp ∧ (∀ k, SFoot kb b r'.S ob' qp k → SFoot kb b r.S ob qp k ∨ m ≤ k) ∧ r'.made ≤ r.made + 1 := by
  obtain ⟨r', ws', ob', h1, h2, h3⟩ := hR
  refine ⟨r', ws', ob', h1.fr f (fun k hk e => ?_), h2, h3⟩
  rcases h2 k hk with h4 | h4
  · have := h.lt h4; omega
  · omega

theorem ArgS.ne {xs : List Int} (ha : ArgS w (SFoot kb b r.S ob qp) la xs) (hx : xs ≠ []) {k : Nat} (hk : SFoot kb b r.S ob qp k) : ∃ lb lo, la = ⟨lb, lo, none⟩ ∧ Arg w lb lo xs ∧ lb ≠ k := by
  rcases ha.at' with h0 | ⟨lb, lo, h1, h2, h3⟩
  · exact absurd h0 hx
  · exact ⟨lb, lo, h1, h2, fun e => h3 (e ▸ hk)⟩

theorem four_some (h : Sim w kb b r ws ob qp) (hmade : r.made < 4611686018427387904) (hp : Blk w pb #[.pointer (some ⟨kb, 0, none⟩), .pointer (some ⟨b, 0, none⟩)]) (hpb : ¬ SFoot kb b r.S ob qp pb) (c s l : Nat) (hc : c < 32) (hs : s < 32) (hl : l < 256) (ha : ArgS w (SFoot kb b r.S ob qp) la [(c : Int), (s : Int), (l : Int)]) :
    Calls Try.prog 26 #[.pointer (some ⟨pb, 0, none⟩), .int .i64 4, .slice (some la) 3 cap] w fun e w' => e = .returned (.bool true) ∧ Goes w kb b r ob qp w' := by
  by_cases hz : (makingF r.S (r.S 1).owns (r.S 1).label 2 c s l (0, 0)).2 = 0
  · have hk := making_free hz
    have hkb : SFoot kb b r.S ob qp kb := Or.inl (Or.inl rfl)
    have hbb : SFoot kb b r.S ob qp b := Or.inr (Or.inl rfl)
    have hne : b ≠ kb := fun e => h.dis kb (Or.inl rfl) (Or.inl e.symm)
    refine (pairtrap_some w pb kb b 4 0 0 (makingF r.S (r.S 1).owns (r.S 1).label 2 c s l (0, 0)).1 la cap [(c : Int), (s : Int), (l : Int)] (fun k => k = kb) (fun k => k = b)
      (fun m w' => (∃ g, m < g ∧ g < w'.heap.size ∧ ∀ (i : Int) (a : Option Addr) (m1 m2 : Nat), PK w' kb (upd r.S s ⟨3, l, i, a, m1, m2, 0, false, 0, 0, 0, 0⟩) (upd ws s [0, 0, 0, 0, 0, 0, 0, 0]) lq1 r.phase (upd ob s g) qp) ∧ RK w' b r ∧ WS w' b r.S ws)
      (fun m w' => ∃ r' ws' ob', Sim w' kb b r' ws' ob' qp ∧ (∀ k, SFoot kb b r'.S ob' qp k → SFoot kb b r.S ob qp k ∨ m ≤ k) ∧ r'.made ≤ r.made + 1)
      ha.len hp ?_ (fun w1 g c' hb _ hrow => ?_) (fun w1 w2 hb hr hf => ?_) (fun m w' w'' hr hb => ?_) (fun m w' w'' g hg hgm hr hf => goes_keep h m w' w'' g hg hgm hr hf) hp.lt (fun e => hpb (e ▸ hkb)) (fun k hk e => ?_) (fun k hk e => ?_)).mono ?_
    · obtain ⟨lb, lo, h1, h2, h3⟩ := ha.ne (by simp) hkb
      obtain ⟨lb', lo', h1', h2', h3'⟩ := ha.ne (by simp) hbb
      rw [h1] at h1'
      injection h1' with e1 e2
      exact Or.inr ⟨lb, lo, h1, h2, h3, by rw [e1]; exact h3'⟩
    · have hs1 := h.still (w' := w1) (Fr.of_below hb)
      refine (pa_4yes hs1.pk hs1.curP 2 c s l hc hs hl (deep2 h.inv hc) hz hk _ c' (Or.inr ⟨g, 0, rfl, hrow.arg⟩)).mono ?_
      rintro e w' ⟨rfl, ⟨g', hg', hpk⟩, hf⟩
      refine ⟨rfl, ⟨⟨g', hg', ?_, hpk⟩, hs1.rk.fr hf hne, hs1.wsx.fr hf (fun i k hi hk e => h.dis kb (Or.inl rfl) (Or.inr ⟨i, hi, e ▸ hk⟩))⟩, hf⟩
      have := (hpk 0 none 0 0).oblt hs (by rw [upd_same]; simp)
      rw [upd_same] at this
      exact this
    · obtain ⟨⟨g, hg, hgw, hpk⟩, hrk, hws⟩ := hr
      have hF : Fr (fun k => k = kb) w w2 := (Fr.of_below hb).trans hf
      have hsz := hb.size
      have hsz2 := hf.size
      obtain ⟨lb, lo, rfl, h2, h3⟩ := ha.ne (by simp) hbb
      obtain ⟨lb', lo', h1', h2', h3'⟩ := ha.ne (by simp) hkb
      injection h1' with e1 e2
      refine (ra_4yes hrk h.wq h.wf h.curF 2 c s l hc hs hl (deep2 h.inv hc) _ (Prod.ext rfl hz) (by have := h.inv.made; omega) hmade (some ⟨lb, lo, none⟩) cap (Or.inr ⟨lb, lo, rfl, h2.fr hF (by rw [e1]; exact h3')⟩) (fun lb2 lo2 e => ?_)).mono ?_
      · injection e with e
        injection e with e
        rw [← e]
        exact h3
      · rintro e w' ⟨rfl, ⟨g2, hg2, hrk2, hB⟩, hf2⟩
        exact ⟨rfl, h.makes hs hk hsz hg hg2 hsz2 hgw (hpk _ _ _ _) hws hrk2 hB hf2, hf2⟩
    · obtain ⟨⟨g, hg, hgw, hpk⟩, hrk, hws⟩ := hr
      exact ⟨⟨g, hg, Nat.lt_of_lt_of_le hgw hb.size, fun i a m1 m2 => (hpk i a m1 m2).below hb⟩, hrk.below hb hrk.lt, hws.below hb⟩
    · have := h.lt hkb; omega
    · have := h.lt hbb; omega
    · rintro e w' ⟨rfl, hR, hf⟩
      exact ⟨rfl, goes_pack (FX := fun k => k = kb) (FY := fun k => k = b) (fun k e => e ▸ hkb) (fun k e => e ▸ hbb) hR hf⟩
  · exact still_some h hp 4 _ 0 _ la cap [(c : Int), (s : Int), (l : Int)] ha (fun _ g c' hpk har => pa_4no hpk h.curP 2 c s l hc hs hl (deep2 h.inv hc) hz _ c' (Or.inr ⟨g, 0, rfl, har⟩))
      (fun _ hs' har => ra_4no hs'.rk hs'.wq hs'.wf hs'.curF 2 c s l hc hs hl (deep2 h.inv hc) hz _ cap (argv_y (Or.inr (by simp)) har))

theorem wb_of {t : Th} {g : Nat} (h : t.Wa = some ⟨g, 0, none⟩) : t.wb g := ⟨0, none, h⟩

theorem six_some (h : Sim w kb b r ws ob qp) (hp : Blk w pb #[.pointer (some ⟨kb, 0, none⟩), .pointer (some ⟨b, 0, none⟩)]) (hpb : ¬ SFoot kb b r.S ob qp pb) (s i : Nat) (v : Int) (hs : s < 32) (hi : i < 8) (ha : ArgS w (SFoot kb b r.S ob qp) la [(s : Int), (i : Int), v]) :
    Calls Try.prog 26 #[.pointer (some ⟨pb, 0, none⟩), .int .i64 6, .slice (some la) 3 cap] w fun e w' => e = .returned (.bool true) ∧ Goes w kb b r ob qp w' := by
  have hv : i64 v := ha.wf v (by simp)
  by_cases hz : (wrF r.S (r.S 1).owns (r.S 1).label 2 s (0, 0)).2 = 0
  · have hk : (r.S s).kind = 3 := kindF_zero hz
    have hlen := h.pk.segs s hs hk
    have hx : (ws s)[i]? = some ((ws s).getD i 0) := by rw [List.getD_eq_getElem?_getD, List.getElem?_eq_getElem (by omega)]; rfl
    obtain ⟨gs, cs, q1, q2, q3, q4, q5, q6, q7⟩ := h.seg hs hk
    have hob : SFoot kb b r.S ob qp (ob s) := Or.inl (Or.inr (Or.inl ⟨s, hs, by omega, rfl⟩))
    have hgg : RFoot b r.S gs := Or.inr ⟨s, hs, wb_of q1⟩
    have hgs : SFoot kb b r.S ob qp gs := Or.inr hgg
    have hne : gs ≠ ob s := fun e => h.dis (ob s) (Or.inr (Or.inl ⟨s, hs, by omega, rfl⟩)) (e ▸ hgg)
    have hrne : ∀ k, RFoot b r.S k → ¬ k = ob s := fun k hk' e => h.dis (ob s) (Or.inr (Or.inl ⟨s, hs, by omega, rfl⟩)) (e ▸ hk')
    have hpne : ∀ k, Foot kb r.S ob qp k → ¬ k = gs := fun k hk' e => h.dis k hk' (e ▸ hgg)
    have hgb : gs ≠ b := h.wsx.off s gs hs (wb_of q1)
    refine (pairtrap_some w pb kb b 6 0 0 (wrF r.S (r.S 1).owns (r.S 1).label 2 s (0, 0)).1 la cap [(s : Int), (i : Int), v] (fun k => k = ob s) (fun k => k = gs)
      (fun m w' => PK w' kb r.S (upd ws s ((ws s).set i v)) lq1 r.phase ob qp ∧ RK w' b r ∧ WS w' b r.S ws ∧ Blk w' gs cs)
      (fun m w' => ∃ r' ws' ob', Sim w' kb b r' ws' ob' qp ∧ (∀ k, SFoot kb b r'.S ob' qp k → SFoot kb b r.S ob qp k ∨ m ≤ k) ∧ r'.made ≤ r.made + 1)
      ha.len hp ?_ (fun w1 g c' hb _ hrow => ?_) (fun w1 w2 hb hr hf => ?_) (fun m w' w'' hr hb => ?_) (fun m w' w'' g hg hgm hr hf => goes_keep h m w' w'' g hg hgm hr hf) hp.lt (fun e => hpb (e ▸ hob)) (fun k hk e => ?_) (fun k hk e => ?_)).mono ?_
    · obtain ⟨lb, lo, h1, h2, h3⟩ := ha.ne (by simp) hob
      obtain ⟨lb', lo', h1', h2', h3'⟩ := ha.ne (by simp) hgs
      rw [h1] at h1'
      injection h1' with e1 e2
      exact Or.inr ⟨lb, lo, h1, h2, h3, by rw [e1]; exact h3'⟩
    · have hs1 := h.still (w' := w1) (Fr.of_below hb)
      refine (pa_6yes hs1.pk hs1.curP 2 s i v _ hv hs hi (deep2 h.inv hs) hx hz hk _ c' (Or.inr ⟨g, 0, rfl, hrow.arg⟩)).mono ?_
      rintro e w' ⟨rfl, hpk, hf⟩
      exact ⟨rfl, ⟨hpk, hs1.rk.fr hf (hrne b (Or.inl rfl)), hs1.wsx.fr hf (fun j k hj hk => hrne k (Or.inr ⟨j, hj, hk⟩)), (q4.below hb q4.lt).fr hf hne⟩, hf⟩
    · obtain ⟨hpk, hrk, hws, hB⟩ := hr
      have hF : Fr (fun k => k = ob s) w w2 := (Fr.of_below hb).trans hf
      have hsz := hb.size
      obtain ⟨lb, lo, rfl, h2, h3⟩ := ha.ne (by simp) hgs
      obtain ⟨lb', lo', h1', h2', h3'⟩ := ha.ne (by simp) hob
      injection h1' with e1 e2
      refine (ra_6yes hrk h.wq h.wf h.curF 2 s i gs v ((ws s).getD i 0) hs hi (deep2 h.inv hs) q1 q2 hgb hB.lt (by rw [hB.cell]; exact q7 i _ hx) (hB.frozen i) hz (some ⟨lb, lo, none⟩) cap (Or.inr ⟨lb, lo, rfl, h2.fr hF (by rw [e1]; exact h3')⟩)).mono ?_
      rintro e w' ⟨rfl, ⟨w4, hf4, hw⟩, hf2⟩
      have hB4 : Blk w' gs (cs.setIfInBounds i (.int .i64 v)) := ((hB.fr hf4 id).set i _).same hw
      refine ⟨rfl, ⟨r, upd ws s ((ws s).set i v), ob, ⟨hpk.fr hf2 hpne, hrk.fr hf2 (Ne.symm hgb), ⟨fun j hj => ?_, hws.apart, hws.off⟩, h.inv, h.dis⟩, fun _ hk => Or.inl hk, by omega⟩, hf2⟩
      by_cases ej : j = s
      · subst ej
        rw [upd_same]
        have hw0 := hws.words j hj
        refine ⟨by rw [List.length_set]; exact hw0.n, hw0.cap, Or.inr ⟨gs, _, q1, hB4, by simpa using q3, fun k hk' => ?_, fun k x hx' => ?_⟩⟩
        · rw [Array.size_setIfInBounds] at hk'
          by_cases ek : k = i
          · subst ek; exact ⟨v, by rw [Array.getElem?_setIfInBounds_self_of_lt hk']⟩
          · obtain ⟨y, hy⟩ := q6 k hk'
            exact ⟨y, by rw [Array.getElem?_setIfInBounds_ne (Ne.symm ek)]; exact hy⟩
        · have hcs : i < cs.size := by
            have := q7 i _ hx
            exact (Array.getElem?_eq_some_iff.1 this).1
          by_cases ek : k = i
          · subst ek
            rw [List.getElem?_set_self (by omega)] at hx'
            injection hx' with hx'
            subst hx'
            rw [Array.getElem?_setIfInBounds_self_of_lt hcs]
          · rw [List.getElem?_set_ne (Ne.symm ek)] at hx'
            rw [Array.getElem?_setIfInBounds_ne (Ne.symm ek)]
            exact q7 k x hx'
      · rw [upd_ne _ _ ej]
        refine (hws.words j hj).same (fun k hk' => hf2.block k ((hws.words j hj).lt hk') (fun e => ej ?_))
        exact hws.apart j s k hj hs hk' (e ▸ wb_of q1)
    · obtain ⟨hpk, hrk, hws, hB⟩ := hr
      exact ⟨hpk.below hb, hrk.below hb hrk.lt, hws.below hb, hB.below hb hB.lt⟩
    · have := h.lt hob; omega
    · have := h.lt hgs; omega
    · rintro e w' ⟨rfl, hR, hf⟩
      exact ⟨rfl, goes_pack (FX := fun k => k = ob s) (FY := fun k => k = gs) (fun k e => e ▸ hob) (fun k e => e ▸ hgs) hR hf⟩
  · exact still_some h hp 6 _ 0 _ la cap [(s : Int), (i : Int), v] ha (fun _ g c' hpk har => pa_6no hpk h.curP 2 s i v hv hs hi (deep2 h.inv hs) hz _ c' (Or.inr ⟨g, 0, rfl, har⟩))
      (fun _ hs' har => ra_6no hs'.rk hs'.wq hs'.wf hs'.curF 2 s i v hs hi (deep2 h.inv hs) hz _ cap (argv_y (Or.inr (by simp)) har))
end

end Go.Proofs.Ytflniddofmnkaaa
