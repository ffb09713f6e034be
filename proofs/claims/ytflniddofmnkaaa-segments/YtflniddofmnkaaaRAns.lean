/- What the reference's 'Trap' answers: the traps 1 to 6, by the plain functions. -/
import Derived.Test.YtflniddofmnkaaaPAns2
open Go Go.Proofs Go.RowKit
namespace Go.Proofs.Ytflniddofmnkaaa

section
variable {w : World} {b : Nat} {r : RSt} {me : Nat}

theorem shape_len (n : Int) (h1 : 1 ≤ n) (h6 : n ≤ 6) : (shapeL n).length = (bsL n).length := by
  have hn : n = 1 ∨ n = 2 ∨ n = 3 ∨ n = 4 ∨ n = 5 ∨ n = 6 := by omega
  rcases hn with rfl | rfl | rfl | rfl | rfl | rfl <;> rfl

theorem ra_bad (hr : RK w b r) (hq : r.wq) (hc : curF r = some me) (n : Int) (la : Option Addr) (ln cap : Nat) (hn : n < 1 ∨ 17 ≤ n ∨ (shapeL n).length ≠ ln) :
    Calls Try.prog 42 #[.pointer (some ⟨b, 0, none⟩), .int .i64 n, .slice la ln cap] w fun e w' => e = .returned (outV 2 0 0) ∧ Fr (fun _ => False) w w' :=
  (rtrap_bad w b r n la ln cap me hr hq hc hn).mono (fun _ _ ⟨he, hb⟩ => ⟨he, Fr.of_below hb⟩)

theorem good_shape (n : Int) (h1 : 1 ≤ n) (h6 : n ≤ 6) : goodL (shapeL n) := by
  intro k hk h
  have hn : n = 1 ∨ n = 2 ∨ n = 3 ∨ n = 4 ∨ n = 5 ∨ n = 6 := by omega
  rcases Nat.eq_zero_or_pos k with e | e
  · subst e
    rcases hn with rfl | rfl | rfl | rfl | rfl | rfl <;> simp [shapeL] at hk h
  · exact e

theorem may_argv (n : Int) (h1 : 1 ≤ n) (h6 : n ≤ 6) (la : Option Addr) (cap : Nat) (xs : List Int) (hl : (bsL n).length = xs.length) (ha : ArgV w n la xs) :
    Calls Try.prog 54 #[.string ⟨(shapeL n).toArray⟩, .slice la xs.length cap] w fun e w' => e = .returned (.bool (mayTo (shapeL n) xs xs.length)) ∧ ∃ m, w' = w.drewN m := by
  rcases ha with h | ⟨lb, lo, rfl, ha⟩
  · subst h
    have : xs = [] := List.length_eq_zero_iff.1 (by rw [← hl]; rfl)
    subst this
    exact (may_nil w _ la cap).mono (fun _ _ ⟨he, hw⟩ => ⟨he, 0, hw⟩)
  · refine may_any w (shapeL n) xs lb lo cap (by rw [shape_len n h1 h6, hl]) (good_shape n h1 h6) ?_ ha.lt ha.cell
    rw [← hl]
    unfold bsL
    repeat' split
    all_goals simp

theorem ra_arg (hr : RK w b r) (hq : r.wq) (hc : curF r = some me) (n : Int) (h1 : 1 ≤ n) (h6 : n ≤ 6) (la : Option Addr) (cap : Nat) (xs : List Int) (hl : (bsL n).length = xs.length) (ha : ArgV w n la xs) (hm : mayTo (shapeL n) xs xs.length = false) :
    Calls Try.prog 42 #[.pointer (some ⟨b, 0, none⟩), .int .i64 n, .slice la xs.length cap] w fun e w' => e = .returned (outV 3 0 0) ∧ Fr (fun _ => False) w w' := by
  refine (rtrap_arg w b r n la xs.length cap me hr hq hc h1 (by omega) (by rw [shape_len n h1 h6, hl]) (fun w2 hb => ?_)).mono (fun _ _ ⟨he, hb⟩ => ⟨he, Fr.of_below hb⟩)
  have := may_argv n h1 h6 la cap xs hl (ha.later hb)
  rw [hm] at this
  exact this

theorem ra_run (hr : RK w b r) (hq : r.wq) (hwf : r.wf) (hc : curF r = some me) (n : Int) (h1 : 1 ≤ n) (h6 : n ≤ 6) (la : Option Addr) (cap : Nat) (xs : List Int) (hl : (bsL n).length = xs.length) (ha : ArgV w n la xs) (hm : mayTo (shapeL n) xs xs.length = true)
    (F : Nat → Prop) (R : World → Int → Nat × Int → Prop)
    (hin : ∀ w1 ab, AK w1 ab b (r.S me).label (r.S me).owns (0, 0) r → Below w.heap.size w w1 → w.heap.size < ab → Calls Try.prog 55 #[.pointer (some ⟨ab, 0, none⟩), .int .i64 n, .int .i64 me, .slice la xs.length cap] w1 fun e w' =>
      ∃ v p, e = .returned (.int .i64 v) ∧ AskAt w' ab b (r.S me).label (r.S me).owns p ∧ R w' v p ∧ Fr (fun k => k = ab ∨ F k) w1 w')
    (hF : ¬ F w.heap.size) (hst : ∀ w' w'' v p, R w' v p → Fr (fun k => k = w.heap.size) w' w'' → R w'' v p) :
    Calls Try.prog 42 #[.pointer (some ⟨b, 0, none⟩), .int .i64 n, .slice la xs.length cap] w fun e w' => ∃ v p, e = .returned (outV p.2 (if p.2 = 0 then v else 0) p.1) ∧ R w' v p ∧ Fr F w w' := by
  refine rtrap_first w b r n la xs.length cap me F R hr hq hwf hc h1 h6 (by omega) (by rw [shape_len n h1 h6, hl]) (fun w2 hb => ?_) hin hF hst
  have := may_argv n h1 h6 la cap xs hl (ha.later hb)
  rw [hm] at this
  exact this

theorem ra_still (hr : RK w b r) (hq : r.wq) (hwf : r.wf) (hc : curF r = some me) (n : Int) (h1 : 1 ≤ n) (h6 : n ≤ 6) (la : Option Addr) (cap : Nat) (xs : List Int) (hl : (bsL n).length = xs.length) (ha : ArgV w n la xs) (hm : mayTo (shapeL n) xs xs.length = true) (V : Int) (p : Nat × Int)
    (hin : ∀ w1 ab, AK w1 ab b (r.S me).label (r.S me).owns (0, 0) r → ArgV w1 n la xs → Below w.heap.size w w1 → w.heap.size < ab → Calls Try.prog 55 #[.pointer (some ⟨ab, 0, none⟩), .int .i64 n, .int .i64 me, .slice la xs.length cap] w1 fun e w' =>
      e = .returned (.int .i64 V) ∧ AK w' ab b (r.S me).label (r.S me).owns p r ∧ Fr (fun k => k = ab) w1 w') :
    Calls Try.prog 42 #[.pointer (some ⟨b, 0, none⟩), .int .i64 n, .slice la xs.length cap] w fun e w' => e = .returned (outV p.2 (if p.2 = 0 then V else 0) p.1) ∧ Fr (fun _ => False) w w' := by
  refine (ra_run hr hq hwf hc n h1 h6 la cap xs hl ha hm (fun _ => False) (fun _ v q => v = V ∧ q = p) (fun w1 ab hak hb hab => ?_) id (fun _ _ _ _ hr _ => hr)).mono ?_
  · refine (hin w1 ab hak (ha.later hb) hb hab).mono ?_
    rintro e w' ⟨rfl, hak', hf⟩
    exact ⟨V, p, rfl, hak'.ask, ⟨rfl, rfl⟩, hf.mono (fun _ _ h => Or.inl h)⟩
  · rintro e w' ⟨v, q, rfl, ⟨rfl, rfl⟩, hf⟩
    exact ⟨rfl, hf⟩

theorem ra_1 (hr : RK w b r) (hq : r.wq) (hwf : r.wf) (hc : curF r = some me) (la : Option Addr) (cap : Nat) :
    Calls Try.prog 42 #[.pointer (some ⟨b, 0, none⟩), .int .i64 1, .slice la 0 cap] w fun e w' => e = .returned (outV 0 me 0) ∧ Fr (fun _ => False) w w' :=
  ra_still hr hq hwf hc 1 (by omega) (by omega) la cap [] rfl (Or.inl rfl) rfl me (0, 0) (fun w1 ab hak _ _ _ => (first_self w1 ab me _).mono (fun _ _ ⟨he, hw⟩ => by subst hw; exact ⟨he, hak, Fr.refl _ _⟩))

theorem ra_2 (hr : RK w b r) (hq : r.wq) (hwf : r.wf) (hc : curF r = some me) (m : Nat) (s : Nat) (hs : s < 32) (hd : deep r.S m s) (la : Option Addr) (cap : Nat) (ha : ArgV w 2 la [(s : Int)]) :
    Calls Try.prog 42 #[.pointer (some ⟨b, 0, none⟩), .int .i64 2, .slice la 1 cap] w fun e w' => e = .returned (outV (pathF r.S (r.S me).owns (r.S me).label m s (0, 0)).2 (if (pathF r.S (r.S me).owns (r.S me).label m s (0, 0)).2 = 0 then ((r.S s).kind) else 0) (pathF r.S (r.S me).owns (r.S me).label m s (0, 0)).1) ∧ Fr (fun _ => False) w w' := by
  have main := ra_still hr hq hwf hc 2 (by omega) (by omega) la cap [(s : Int)] rfl ha (by simp [mayTo, shapeL, okAt]; omega) ((r.S s).kind) (pathF r.S (r.S me).owns (r.S me).label m s (0, 0)) (fun w1 ab hak ha1 hb hab => by
    obtain ⟨lb, lo, rfl, ha2⟩ := ha.get (by omega)
    have hne : lb ≠ ab := by have := ha2.lt; omega
    have ha3 := ha2.below hb ha2.lt
    exact first_kind m w1 ab b _ _ me lb lo cap _ r s hak hs hd ha3 hne)
  exact main

theorem ra_3 (hr : RK w b r) (hq : r.wq) (hwf : r.wf) (hc : curF r = some me) (m : Nat) (s : Nat) (hs : s < 32) (hd : deep r.S m s) (la : Option Addr) (cap : Nat) (ha : ArgV w 3 la [(s : Int)]) :
    Calls Try.prog 42 #[.pointer (some ⟨b, 0, none⟩), .int .i64 3, .slice la 1 cap] w fun e w' => e = .returned (outV (findF r.S (r.S me).owns (r.S me).label m s (0, 0)).2 (if (findF r.S (r.S me).owns (r.S me).label m s (0, 0)).2 = 0 then ((r.S s).label) else 0) (findF r.S (r.S me).owns (r.S me).label m s (0, 0)).1) ∧ Fr (fun _ => False) w w' := by
  have main := ra_still hr hq hwf hc 3 (by omega) (by omega) la cap [(s : Int)] rfl ha (by simp [mayTo, shapeL, okAt]; omega) ((r.S s).label) (findF r.S (r.S me).owns (r.S me).label m s (0, 0)) (fun w1 ab hak ha1 hb hab => by
    obtain ⟨lb, lo, rfl, ha2⟩ := ha.get (by omega)
    have hne : lb ≠ ab := by have := ha2.lt; omega
    have ha3 := ha2.below hb ha2.lt
    exact first_label m w1 ab b _ _ me lb lo cap _ r s hak hs hd ha3 hne)
  exact main

theorem ra_4no (hr : RK w b r) (hq : r.wq) (hwf : r.wf) (hc : curF r = some me) (m : Nat) (c s l : Nat) (hcc : c < 32) (hs : s < 32) (hl : l < 256) (hd : deep r.S m c) (hp : (makingF r.S (r.S me).owns (r.S me).label m c s l (0, 0)).2 ≠ 0) (la : Option Addr) (cap : Nat) (ha : ArgV w 4 la [(c : Int), (s : Int), (l : Int)]) :
    Calls Try.prog 42 #[.pointer (some ⟨b, 0, none⟩), .int .i64 4, .slice la 3 cap] w fun e w' => e = .returned (outV (makingF r.S (r.S me).owns (r.S me).label m c s l (0, 0)).2 (0) (makingF r.S (r.S me).owns (r.S me).label m c s l (0, 0)).1) ∧ Fr (fun _ => False) w w' := by
  have main := ra_still hr hq hwf hc 4 (by omega) (by omega) la cap [(c : Int), (s : Int), (l : Int)] rfl ha (by simp [mayTo, shapeL, okAt]; omega) (0) (makingF r.S (r.S me).owns (r.S me).label m c s l (0, 0)) (fun w1 ab hak ha1 hb hab => by
    obtain ⟨lb, lo, rfl, ha2⟩ := ha.get (by omega)
    have hne : lb ≠ ab := by have := ha2.lt; omega
    have ha3 := ha2.below hb ha2.lt
    exact first_new_no m w1 ab b _ _ me lb lo cap _ r c s l hak hcc hs hl hd ha3 hne hp)
  rw [if_neg hp] at main; exact main

theorem ra_5no (hr : RK w b r) (hq : r.wq) (hwf : r.wf) (hc : curF r = some me) (m : Nat) (s i : Nat) (hs : s < 32) (hi : i < 8) (hd : deep r.S m s) (hp : (rdF r.S (r.S me).owns (r.S me).label m s (0, 0)).2 ≠ 0) (la : Option Addr) (cap : Nat) (ha : ArgV w 5 la [(s : Int), (i : Int)]) :
    Calls Try.prog 42 #[.pointer (some ⟨b, 0, none⟩), .int .i64 5, .slice la 2 cap] w fun e w' => e = .returned (outV (rdF r.S (r.S me).owns (r.S me).label m s (0, 0)).2 (0) (rdF r.S (r.S me).owns (r.S me).label m s (0, 0)).1) ∧ Fr (fun _ => False) w w' := by
  have main := ra_still hr hq hwf hc 5 (by omega) (by omega) la cap [(s : Int), (i : Int)] rfl ha (by simp [mayTo, shapeL, okAt]; omega) (0) (rdF r.S (r.S me).owns (r.S me).label m s (0, 0)) (fun w1 ab hak ha1 hb hab => by
    obtain ⟨lb, lo, rfl, ha2⟩ := ha.get (by omega)
    have hne : lb ≠ ab := by have := ha2.lt; omega
    have ha3 := ha2.below hb ha2.lt
    exact first_read_no m w1 ab b _ _ me lb lo cap _ r s i hak hs hd ha3 hne hp)
  rw [if_neg hp] at main; exact main

theorem ra_5yes (hr : RK w b r) (hq : r.wq) (hwf : r.wf) (hc : curF r = some me) (m : Nat) (s i g : Nat) (x : Int) (hs : s < 32) (hi : i < 8) (hd : deep r.S m s) (hg : (r.S s).Wa = some ⟨g, 0, none⟩) (hn : (r.S s).Wn = 8) (hgl : g < w.heap.size) (hx : w.cell? ⟨g, i, none⟩ = some (.int .i64 x)) (hp : (rdF r.S (r.S me).owns (r.S me).label m s (0, 0)).2 = 0) (la : Option Addr) (cap : Nat) (ha : ArgV w 5 la [(s : Int), (i : Int)]) :
    Calls Try.prog 42 #[.pointer (some ⟨b, 0, none⟩), .int .i64 5, .slice la 2 cap] w fun e w' => e = .returned (outV (rdF r.S (r.S me).owns (r.S me).label m s (0, 0)).2 (x) (rdF r.S (r.S me).owns (r.S me).label m s (0, 0)).1) ∧ Fr (fun _ => False) w w' := by
  have main := ra_still hr hq hwf hc 5 (by omega) (by omega) la cap [(s : Int), (i : Int)] rfl ha (by simp [mayTo, shapeL, okAt]; omega) (x) (rdF r.S (r.S me).owns (r.S me).label m s (0, 0)) (fun w1 ab hak ha1 hb hab => by
    obtain ⟨lb, lo, rfl, ha2⟩ := ha.get (by omega)
    have hne : lb ≠ ab := by have := ha2.lt; omega
    have ha3 := ha2.below hb ha2.lt
    exact first_read_yes m w1 ab b _ _ me lb lo cap _ r s i hak hs hd ha3 hne g x hg hn (by omega) (by have := hb.size; omega) ((cell_same' (hb.block g hgl) i).trans hx) hi hp)
  rw [if_pos hp] at main; exact main

theorem ra_6no (hr : RK w b r) (hq : r.wq) (hwf : r.wf) (hc : curF r = some me) (m : Nat) (s i : Nat) (v : Int) (hs : s < 32) (hi : i < 8) (hd : deep r.S m s) (hp : (wrF r.S (r.S me).owns (r.S me).label m s (0, 0)).2 ≠ 0) (la : Option Addr) (cap : Nat) (ha : ArgV w 6 la [(s : Int), (i : Int), v]) :
    Calls Try.prog 42 #[.pointer (some ⟨b, 0, none⟩), .int .i64 6, .slice la 3 cap] w fun e w' => e = .returned (outV (wrF r.S (r.S me).owns (r.S me).label m s (0, 0)).2 (0) (wrF r.S (r.S me).owns (r.S me).label m s (0, 0)).1) ∧ Fr (fun _ => False) w w' := by
  have main := ra_still hr hq hwf hc 6 (by omega) (by omega) la cap [(s : Int), (i : Int), v] rfl ha (by simp [mayTo, shapeL, okAt]; omega) (0) (wrF r.S (r.S me).owns (r.S me).label m s (0, 0)) (fun w1 ab hak ha1 hb hab => by
    obtain ⟨lb, lo, rfl, ha2⟩ := ha.get (by omega)
    have hne : lb ≠ ab := by have := ha2.lt; omega
    have ha3 := ha2.below hb ha2.lt
    exact first_write_no m w1 ab b _ _ me lb lo cap _ r s i v hak hs hd ha3 hne hp)
  rw [if_neg hp] at main; exact main

theorem ra_4yes (hr : RK w b r) (hq : r.wq) (hwf : r.wf) (hc : curF r = some me) (m c s l : Nat) (hcc : c < 32) (hs : s < 32) (hl : l < 256) (hd : deep r.S m c) (u : Nat) (hp : makingF r.S (r.S me).owns (r.S me).label m c s l (0, 0) = (u, 0)) (hm1 : 0 ≤ r.made) (hm2 : r.made < 4611686018427387904) (la : Option Addr) (cap : Nat) (ha : ArgV w 4 la [(c : Int), (s : Int), (l : Int)]) (hlb : ∀ lb lo, la = some ⟨lb, lo, none⟩ → lb ≠ b) :
    Calls Try.prog 42 #[.pointer (some ⟨b, 0, none⟩), .int .i64 4, .slice la 3 cap] w fun e w' => e = .returned (outV 0 0 u) ∧
      (∃ g, w.heap.size < g ∧ RK w' b ((r.mk1 (r.made + 1)).put s ⟨3, l, r.made + 1, some ⟨g, 0, none⟩, 8, 8, 0, false, 0, 0, 0, 0⟩) ∧ Blk w' g #[.int .i64 0, .int .i64 0, .int .i64 0, .int .i64 0, .int .i64 0, .int .i64 0, .int .i64 0, .int .i64 0]) ∧ Fr (fun k => k = b) w w' := by
  refine (ra_run hr hq hwf hc 4 (by omega) (by omega) la cap [(c : Int), (s : Int), (l : Int)] rfl ha (by simp [mayTo, shapeL, okAt]; omega) (fun k => k = b)
    (fun w' v p => v = 0 ∧ p = (u, 0) ∧ ∃ g, w.heap.size < g ∧ RK w' b ((r.mk1 (r.made + 1)).put s ⟨3, l, r.made + 1, some ⟨g, 0, none⟩, 8, 8, 0, false, 0, 0, 0, 0⟩) ∧ Blk w' g #[.int .i64 0, .int .i64 0, .int .i64 0, .int .i64 0, .int .i64 0, .int .i64 0, .int .i64 0, .int .i64 0]) (fun w1 ab hak hb hab => ?_) (by have := hr.lt; omega) ?_).mono ?_
  · obtain ⟨lb, lo, rfl, ha2⟩ := ha.get (by omega)
    have hne : lb ≠ ab := by have := ha2.lt; omega
    refine (first_new_yes m w1 ab b _ _ me lb lo cap _ r c s l hak hcc hs hl hd (ha2.below hb ha2.lt) hne (hlb lb lo rfl) u hp hm1 hm2).mono ?_
    rintro e w' ⟨rfl, g, hg, hak', hB, hf⟩
    refine ⟨0, (u, 0), rfl, hak'.ask, ⟨rfl, rfl, g, ?_, hak'.rk, hB⟩, hf⟩
    have := Blk.lt hak.ask
    omega
  · rintro w' w'' v p ⟨h1, h2, g, hg, hrk, hB⟩ hf
    refine ⟨h1, h2, g, hg, hrk.fr hf (by have := hr.lt; omega), hB.fr hf (by omega)⟩
  · rintro e w' ⟨v, p, rfl, ⟨rfl, rfl, g, hg, hrk, hB⟩, hf⟩
    exact ⟨rfl, ⟨g, hg, hrk, hB⟩, hf⟩

theorem ra_6yes (hr : RK w b r) (hq : r.wq) (hwf : r.wf) (hc : curF r = some me) (m s i g : Nat) (v x : Int) (hs : s < 32) (hi : i < 8) (hd : deep r.S m s) (hg : (r.S s).Wa = some ⟨g, 0, none⟩) (hn : (r.S s).Wn = 8) (hgb : g ≠ b) (hgl : g < w.heap.size) (hx : w.cell? ⟨g, i, none⟩ = some (.int .i64 x)) (hfz : w.frozen? ⟨g, i, none⟩ = false) (hp : (wrF r.S (r.S me).owns (r.S me).label m s (0, 0)).2 = 0) (la : Option Addr) (cap : Nat) (ha : ArgV w 6 la [(s : Int), (i : Int), v]) :
    Calls Try.prog 42 #[.pointer (some ⟨b, 0, none⟩), .int .i64 6, .slice la 3 cap] w fun e w' => e = .returned (outV 0 0 (wrF r.S (r.S me).owns (r.S me).label m s (0, 0)).1) ∧
      (∃ w4, Fr (fun _ => False) w w4 ∧ w'.heap[g]? = (w4.setCell ⟨g, i, none⟩ (.int .i64 v)).heap[g]?) ∧ Fr (fun k => k = g) w w' := by
  refine (ra_run hr hq hwf hc 6 (by omega) (by omega) la cap [(s : Int), (i : Int), v] rfl ha (by simp [mayTo, shapeL, okAt]; omega) (fun k => k = g)
    (fun w' v' p => v' = 0 ∧ p = wrF r.S (r.S me).owns (r.S me).label m s (0, 0) ∧ ∃ w4, Fr (fun k => w.heap.size ≤ k) w w4 ∧ w'.heap[g]? = (w4.setCell ⟨g, i, none⟩ (.int .i64 v)).heap[g]?) (fun w1 ab hak hb hab => ?_) (by omega) ?_).mono ?_
  · obtain ⟨lb, lo, rfl, ha2⟩ := ha.get (by omega)
    have hne : lb ≠ ab := by have := ha2.lt; omega
    refine (first_write_yes m w1 ab b _ _ me lb lo cap _ r s i v hak hs hd (ha2.below hb ha2.lt) hne g x hg hn (by omega) hgb (by have := hb.size; omega) ((cell_same' (hb.block g hgl) i).trans hx) ((frozen_same' (hb.block g hgl) i).trans hfz) hi hp).mono ?_
    rintro e w' ⟨rfl, w4, hak4, hf4, rfl⟩
    have hgab : ab ≠ g := by omega
    refine ⟨0, _, rfl, (Blk.apart hak4.ask hgab _).drew, ⟨rfl, rfl, w4, ?_, rfl⟩, ?_⟩
    · exact (Fr.of_below hb).trans (hf4.mono (fun _ _ h => by omega))
    · exact Fr.drew (Fr.setCell (S := fun k => k = ab ∨ k = g) (p := ⟨g, i, none⟩) (hf4.mono (fun _ _ h => Or.inl h)) (Or.inl (Or.inr rfl)) _)
  · rintro w' w'' v' p ⟨h1, h2, w4, hf4, hw⟩ hf
    refine ⟨h1, h2, w4, hf4, ?_⟩
    have hgl' : g < w'.heap.size := by
      rcases Nat.lt_or_ge g w'.heap.size with h | h
      · exact h
      · exfalso
        rw [Array.getElem?_eq_none h] at hw
        have h2 : g < (w4.setCell ⟨g, i, none⟩ (.int .i64 v)).heap.size := by
          have := hf4.size
          simp [World.setCell]; omega
        rw [Array.getElem?_eq_getElem h2] at hw
        cases hw
    rw [hf.block g hgl' (by omega)]
    exact hw
  · rintro e w' ⟨v', p, rfl, ⟨rfl, rfl, w4, hf4, hw⟩, hf⟩
    refine ⟨by rw [if_pos hp, hp], ⟨w4, hf4.mono (fun k hk h => by omega), hw⟩, hf⟩
end

end Go.Proofs.Ytflniddofmnkaaa
