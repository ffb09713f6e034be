/- One trap on both kernels: the same answer, and both go on alike (the traps 1 to 6). -/
import Derived.Test.YtflniddofmnkaaaSim
import Derived.Test.YtflniddofmnkaaaLawPair
open Go Go.Proofs Go.RowKit
namespace Go.Proofs.Ytflniddofmnkaaa

theorem Row.arg {w : World} {g : Nat} {xs : List Int} (h : Row w g (padded xs)) : Arg w g 0 xs := by
  refine ⟨h.lt, fun i x hx => ?_⟩
  have hi := (List.getElem?_eq_some_iff.1 hx).1
  have := h.cell (padded_lo hi)
  rw [Nat.zero_add, this]
  rw [List.getD_eq_getElem?_getD, hx]; rfl

section
variable {w : World} {kb b : Nat} {r : RSt} {ws : Nat → List Int} {ob : Nat → Nat} {qp : Nat → Option Nat}

/-- What is asked behind one trap on both. -/
def Goes (w : World) (kb b : Nat) (r : RSt) (ob : Nat → Nat) (qp : Nat → Option Nat) (w' : World) : Prop :=
  ∃ r' ws' ob', Sim w' kb b r' ws' ob' qp ∧ (∀ k, SFoot kb b r'.S ob' qp k → SFoot kb b r.S ob qp k ∨ w.heap.size ≤ k) ∧ r'.made ≤ r.made + 1 ∧ Fr (SFoot kb b r.S ob qp) w w'

theorem goes_still (h : Sim w kb b r ws ob qp) {w' : World} (f : Fr (fun _ => False) w w') : Goes w kb b r ob qp w' :=
  ⟨r, ws, ob, h.still f, fun _ hk => Or.inl hk, by omega, f.mono (fun _ _ h => h.elim)⟩

/-- The arguments: none at all. -/
theorem still_nil (h : Sim w kb b r ws ob qp) {pb : Nat} (hp : Blk w pb #[.pointer (some ⟨kb, 0, none⟩), .pointer (some ⟨b, 0, none⟩)]) (n E V : Int) (U : Nat)
    (hX : Calls Try.prog 19 #[.pointer (some ⟨kb, 0, none⟩), .int .i64 n, .slice none 0 0] w fun e w' => e = .returned (outV E V U) ∧ Fr (fun _ => False) w w')
    (hY : ∀ w2, RK w2 b r → Calls Try.prog 42 #[.pointer (some ⟨b, 0, none⟩), .int .i64 n, .slice none 0 0] w2 fun e w' => e = .returned (outV E V U) ∧ Fr (fun _ => False) w2 w') :
    Calls Try.prog 26 #[.pointer (some ⟨pb, 0, none⟩), .int .i64 n, .slice none 0 0] w fun e w' => e = .returned (.bool true) ∧ Goes w kb b r ob qp w' := by
  refine (pairtrap_nil w pb kb b n E V U (fun _ => False) (fun _ => False) (fun _ _ => True) (fun _ _ => True) hp (hX.mono (fun _ _ ⟨he, hf⟩ => ⟨he, trivial, hf⟩)) (fun w2 _ hf => (hY w2 (h.rk.fr hf id)).mono (fun _ _ ⟨he, hf⟩ => ⟨he, trivial, hf⟩)) (fun _ _ _ _ => trivial) (fun _ _ _ _ => trivial) id (fun _ h _ => h.elim) (fun _ _ h => h)).mono ?_
  rintro e w' ⟨rfl, _, hf⟩
  exact ⟨rfl, goes_still h (hf.mono (fun _ _ h => h.elim id id))⟩

/-- The arguments: a list, perhaps an empty one. -/
structure ArgS (w : World) (F : Nat → Prop) (la : Addr) (xs : List Int) : Prop where
  len : xs.length ≤ 17592186043904
  at' : xs = [] ∨ ∃ lb lo, la = ⟨lb, lo, none⟩ ∧ Arg w lb lo xs ∧ ¬ F lb
  wf : ∀ x, x ∈ xs → i64 x

theorem still_some (h : Sim w kb b r ws ob qp) {pb : Nat} (hp : Blk w pb #[.pointer (some ⟨kb, 0, none⟩), .pointer (some ⟨b, 0, none⟩)]) (n E V : Int) (U : Nat) (la : Addr) (cap : Nat) (xs : List Int) (ha : ArgS w (SFoot kb b r.S ob qp) la xs)
    (hX : ∀ w1 g c, PK w1 kb r.S ws lq1 r.phase ob qp → Arg w1 g 0 xs → Calls Try.prog 19 #[.pointer (some ⟨kb, 0, none⟩), .int .i64 n, .slice (some ⟨g, 0, none⟩) xs.length c] w1 fun e w' => e = .returned (outV E V U) ∧ Fr (fun _ => False) w1 w')
    (hY : ∀ w2, Sim w2 kb b r ws ob qp → (xs = [] ∨ ∃ lb lo, la = ⟨lb, lo, none⟩ ∧ Arg w2 lb lo xs) → Calls Try.prog 42 #[.pointer (some ⟨b, 0, none⟩), .int .i64 n, .slice (some la) xs.length cap] w2 fun e w' => e = .returned (outV E V U) ∧ Fr (fun _ => False) w2 w') :
    Calls Try.prog 26 #[.pointer (some ⟨pb, 0, none⟩), .int .i64 n, .slice (some la) xs.length cap] w fun e w' => e = .returned (.bool true) ∧ Goes w kb b r ob qp w' := by
  refine (pairtrap_some w pb kb b n E V U la cap xs (fun _ => False) (fun _ => False) (fun _ _ => True) (fun _ _ => True) ha.len hp ?_ (fun w1 g c hb _ hrow => (hX w1 g c (h.pk.below hb) hrow.arg).mono (fun _ _ ⟨he, hf⟩ => ⟨he, trivial, hf⟩))
    (fun w1 w2 hb _ hf => ?_) (fun _ _ _ _ _ => trivial) (fun _ _ _ _ _ _ _ _ => trivial) hp.lt id (fun _ _ h => h) (fun _ _ h => h)).mono ?_
  · rcases ha.at' with h0 | ⟨lb, lo, h1, h2, _⟩
    · exact Or.inl h0
    · exact Or.inr ⟨lb, lo, h1, h2, id, id⟩
  · have hF : Fr (fun _ => False) w w2 := (Fr.of_below hb).trans hf
    refine (hY w2 (h.still hF) ?_).mono (fun _ _ ⟨he, hf⟩ => ⟨he, trivial, hf⟩)
    rcases ha.at' with h0 | ⟨lb, lo, h1, h2, _⟩
    · exact Or.inl h0
    · exact Or.inr ⟨lb, lo, h1, h2.fr hF id⟩
  · rintro e w' ⟨rfl, _, hf⟩
    exact ⟨rfl, goes_still h (hf.mono (fun _ _ h => h.elim id id))⟩

theorem argv_y {w2 : World} {n : Int} {la : Addr} {xs : List Int} (hx : n = 1 ∨ xs ≠ []) (h : xs = [] ∨ ∃ lb lo, la = ⟨lb, lo, none⟩ ∧ Arg w2 lb lo xs) : ArgV w2 n (some la) xs := by
  rcases hx with h1 | h1
  · exact Or.inl h1
  · rcases h with h2 | ⟨lb, lo, rfl, h2⟩
    · exact absurd h2 h1
    · exact Or.inr ⟨lb, lo, rfl, h2⟩

/-- Another number of arguments, or no trap. -/
theorem bad_some (h : Sim w kb b r ws ob qp) {pb : Nat} (hp : Blk w pb #[.pointer (some ⟨kb, 0, none⟩), .pointer (some ⟨b, 0, none⟩)]) (n : Int) (la : Addr) (cap : Nat) (xs : List Int) (ha : ArgS w (SFoot kb b r.S ob qp) la xs)
    (hn : n < 1 ∨ 17 ≤ n ∨ (1 ≤ n ∧ n ≤ 6 ∧ (bsL n).length ≠ xs.length)) :
    Calls Try.prog 26 #[.pointer (some ⟨pb, 0, none⟩), .int .i64 n, .slice (some la) xs.length cap] w fun e w' => e = .returned (.bool true) ∧ Goes w kb b r ob qp w' := by
  refine still_some h hp n 2 0 0 la cap xs ha (fun w1 g c hpk _ => pa_bad hpk h.curP n _ _ _ ?_) (fun w2 hs _ => ra_bad hs.rk hs.wq hs.curF n _ _ _ ?_)
  · rcases hn with h | h | h
    · exact Or.inl h
    · exact Or.inr (Or.inl (by omega))
    · exact Or.inr (Or.inr h.2.2)
  · rcases hn with h | h | h
    · exact Or.inl h
    · exact Or.inr (Or.inl h)
    · exact Or.inr (Or.inr (by rw [shape_len n h.1 h.2.1]; exact h.2.2))

theorem bad_nil (h : Sim w kb b r ws ob qp) {pb : Nat} (hp : Blk w pb #[.pointer (some ⟨kb, 0, none⟩), .pointer (some ⟨b, 0, none⟩)]) (n : Int) (hn : n < 1 ∨ 17 ≤ n ∨ (1 ≤ n ∧ n ≤ 6 ∧ (bsL n).length ≠ 0)) :
    Calls Try.prog 26 #[.pointer (some ⟨pb, 0, none⟩), .int .i64 n, .slice none 0 0] w fun e w' => e = .returned (.bool true) ∧ Goes w kb b r ob qp w' := by
  refine still_nil h hp n 2 0 0 (pa_bad h.pk h.curP n _ _ _ ?_) (fun w2 hs => ra_bad hs h.wq h.curF n _ _ _ ?_)
  · rcases hn with h | h | h
    · exact Or.inl h
    · exact Or.inr (Or.inl (by omega))
    · exact Or.inr (Or.inr h.2.2)
  · rcases hn with h | h | h
    · exact Or.inl h
    · exact Or.inr (Or.inl h)
    · exact Or.inr (Or.inr (by rw [shape_len n h.1 h.2.1]; exact h.2.2))

theorem one_nil (h : Sim w kb b r ws ob qp) {pb : Nat} (hp : Blk w pb #[.pointer (some ⟨kb, 0, none⟩), .pointer (some ⟨b, 0, none⟩)]) :
    Calls Try.prog 26 #[.pointer (some ⟨pb, 0, none⟩), .int .i64 1, .slice none 0 0] w fun e w' => e = .returned (.bool true) ∧ Goes w kb b r ob qp w' :=
  still_nil h hp 1 0 1 0 (pa_1 h.pk h.curP none 0) (fun _ hs => ra_1 hs h.wq h.wf h.curF none 0)

theorem arg_some (h : Sim w kb b r ws ob qp) {pb : Nat} (hp : Blk w pb #[.pointer (some ⟨kb, 0, none⟩), .pointer (some ⟨b, 0, none⟩)]) (n : Int) (h1 : 1 ≤ n) (h6 : n ≤ 6) (la : Addr) (cap : Nat) (xs : List Int) (ha : ArgS w (SFoot kb b r.S ob qp) la xs)
    (hl : (bsL n).length = xs.length) (hadm : admTo (bsL n) xs xs.length = false) :
    Calls Try.prog 26 #[.pointer (some ⟨pb, 0, none⟩), .int .i64 n, .slice (some la) xs.length cap] w fun e w' => e = .returned (.bool true) ∧ Goes w kb b r ob qp w' := by
  have hx : n = 1 ∨ xs ≠ [] := by
    by_cases e : n = 1
    · exact Or.inl e
    · refine Or.inr (fun h0 => ?_)
      subst h0
      have hn : n = 2 ∨ n = 3 ∨ n = 4 ∨ n = 5 ∨ n = 6 := by omega
      rcases hn with rfl | rfl | rfl | rfl | rfl <;> simp [bsL] at hl
  refine still_some h hp n 3 0 0 la cap xs ha (fun w1 g c hpk har => pa_arg hpk h.curP n h1 h6 _ c xs hl (Or.inr ⟨g, 0, rfl, har⟩) hadm) (fun w2 hs har => ra_arg hs.rk hs.wq hs.curF n h1 h6 _ cap xs hl (argv_y hx har) ?_)
  rw [← adm_may n h1 h6 xs hl ha.wf]
  exact hadm
end

end Go.Proofs.Ytflniddofmnkaaa
