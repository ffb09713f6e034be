/- What the program's 'Trap' answers, trap by trap (1 to 6). -/
import Derived.Test.YtflniddofmnkaaaPAns0
open Go Go.Proofs Go.RowKit
namespace Go.Proofs.Ytflniddofmnkaaa

def i64 (x : Int) : Prop := -9223372036854775808 ≤ x ∧ x ≤ 9223372036854775807

theorem adm_may (n : Int) (h1 : 1 ≤ n) (h6 : n ≤ 6) (xs : List Int) (hl : (bsL n).length = xs.length) (hw : ∀ x, x ∈ xs → i64 x) : admTo (bsL n) xs xs.length = mayTo (shapeL n) xs xs.length := by
  have hn : n = 1 ∨ n = 2 ∨ n = 3 ∨ n = 4 ∨ n = 5 ∨ n = 6 := by omega
  rcases hn with rfl | rfl | rfl | rfl | rfl | rfl
  · have : xs = [] := List.length_eq_zero_iff.1 (by rw [← hl]; rfl)
    subst this; rfl
  · match xs, hl with
    | [a], _ => simp [admTo, mayTo, bsL, shapeL, okAt]
  · match xs, hl with
    | [a], _ => simp [admTo, mayTo, bsL, shapeL, okAt]
  · match xs, hl with
    | [a, b, c], _ => simp [admTo, mayTo, bsL, shapeL, okAt]
  · match xs, hl with
    | [a, b], _ => simp [admTo, mayTo, bsL, shapeL, okAt]
  · match xs, hl with
    | [a, b, c], _ =>
      have := hw c (by simp)
      unfold i64 at this
      simp [admTo, mayTo, bsL, shapeL, okAt, this.1, this.2]

theorem callF_1 (args : Array Value) (w : World) : (callFunc 45 args).run Try.prog w = .ok (.enter 45 args) w := by kernel_rfl
theorem callF_2 (args : Array Value) (w : World) : (callFunc 46 args).run Try.prog w = .ok (.enter 46 args) w := by kernel_rfl
theorem callF_3 (args : Array Value) (w : World) : (callFunc 47 args).run Try.prog w = .ok (.enter 47 args) w := by kernel_rfl
theorem callF_4 (args : Array Value) (w : World) : (callFunc 48 args).run Try.prog w = .ok (.enter 48 args) w := by kernel_rfl
theorem callF_5 (args : Array Value) (w : World) : (callFunc 49 args).run Try.prog w = .ok (.enter 49 args) w := by kernel_rfl
theorem callF_6 (args : Array Value) (w : World) : (callFunc 50 args).run Try.prog w = .ok (.enter 50 args) w := by kernel_rfl
theorem callF (n : Int) (h1 : 1 ≤ n) (h6 : n ≤ 6) (args : Array Value) (w : World) : (callFunc (doesF n) args).run Try.prog w = .ok (.enter (doesF n) args) w := by
  have hn : n = 1 ∨ n = 2 ∨ n = 3 ∨ n = 4 ∨ n = 5 ∨ n = 6 := by omega
  rcases hn with rfl | rfl | rfl | rfl | rfl | rfl
  · exact callF_1 args w
  · exact callF_2 args w
  · exact callF_3 args w
  · exact callF_4 args w
  · exact callF_5 args w
  · exact callF_6 args w

section
variable {w : World} {kb : Nat} {S : Nat → Th} {ws : Nat → List Int} {lq : Nat → Option Nat} {ph : Nat} {ob : Nat → Nat} {qp : Nat → Option Nat} {me : Nat}

theorem Fr.of_below' {w w' : World} (h : Below w.heap.size w w') : Fr (fun _ => False) w w' := Fr.of_below h

theorem pa_bad (h : PK w kb S ws lq ph ob qp) (hc : curP S lq ph = some me) (n : Int) (la : Option Addr) (ln cap : Nat) (hn : n < 1 ∨ 7 ≤ n ∨ (bsL n).length ≠ ln) :
    Calls Try.prog 19 #[.pointer (some ⟨kb, 0, none⟩), .int .i64 n, .slice la ln cap] w fun e w' => e = .returned (outV 2 0 0) ∧ Fr (fun _ => False) w w' := by
  by_cases h1 : n < 1
  · refine (ptrap_none h hc n _ ?_).mono (fun e w' ⟨he, hb⟩ => ⟨he, Fr.of_below hb⟩)
    intro w1
    by_cases h0 : n < 0
    · exact trapOf_low w1 n h0
    · have : n = 0 := by omega
      subst this
      exact trapOf_zero w1
  · by_cases h7 : 7 ≤ n
    · exact (ptrap_none h hc n _ (fun w1 => trapOf_high w1 n h7)).mono (fun e w' ⟨he, hb⟩ => ⟨he, Fr.of_below hb⟩)
    · have hne : (bsL n).length ≠ ln := by
        rcases hn with h | h | h
        · exact absurd h h1
        · exact absurd h h7
        · exact h
      refine (ptrap_len h hc n la ln cap (bsL n).length (doesF n) (Ne.symm hne) (fun w1 => ?_)).mono (fun e w' ⟨he, hb⟩ => ⟨he, Fr.of_below hb⟩)
      exact (trapOf_pack n (by omega) (by omega) w1).mono (fun e w' ⟨ta, he, hb, _⟩ => ⟨ta, he, hb⟩)

/-- The arguments, as a trap gets them. -/
def ArgV (w : World) (n : Int) (la : Option Addr) (xs : List Int) : Prop := n = 1 ∨ ∃ lb lo, la = some ⟨lb, lo, none⟩ ∧ Arg w lb lo xs

theorem ArgV.later {n : Int} {la : Option Addr} {xs : List Int} {w' : World} (h : ArgV w n la xs) (hb : Below w.heap.size w w') : ArgV w' n la xs := by
  rcases h with h | ⟨lb, lo, h1, h2⟩
  · exact Or.inl h
  · exact Or.inr ⟨lb, lo, h1, h2.below hb h2.lt⟩

theorem admits_argv (n : Int) (h1 : 1 ≤ n) (ta la : Option Addr) (f : Value) (cap : Nat) (xs : List Int) (hl : (bsL n).length = xs.length) (hk : TK n w ta) (ha : ArgV w n la xs) :
    Calls Try.prog 32 #[.agg #[.slice ta xs.length xs.length, f], .slice la xs.length cap] w fun e w' => e = .returned (.bool (admTo (bsL n) xs xs.length)) ∧ Below w.heap.size w w' := by
  rcases ha with h | ⟨lb, lo, h, ha⟩
  · exact admits_pack n h1 w ta f 0 0 cap xs hl hk (Or.inl h) la (fun hne => absurd h hne)
  · exact admits_pack n h1 w ta f lb lo cap xs hl hk (Or.inr ha) la (fun _ => h)

theorem pa_arg (h : PK w kb S ws lq ph ob qp) (hc : curP S lq ph = some me) (n : Int) (h1 : 1 ≤ n) (h6 : n ≤ 6) (la : Option Addr) (cap : Nat) (xs : List Int) (hl : (bsL n).length = xs.length) (ha : ArgV w n la xs) (hadm : admTo (bsL n) xs xs.length = false) :
    Calls Try.prog 19 #[.pointer (some ⟨kb, 0, none⟩), .int .i64 n, .slice la xs.length cap] w fun e w' => e = .returned (outV 3 0 0) ∧ Fr (fun _ => False) w w' := by
  refine (ptrap_arg h hc n la xs.length cap (doesF n) (TK n) (fun w1 => ?_) (fun w1 w' ta hk hb => hk.later hb) (fun w1 ta hk hb => ?_)).mono (fun e w' ⟨he, hb⟩ => ⟨he, Fr.of_below hb⟩)
  · have := trapOf_pack n h1 h6 w1
    rw [hl] at this
    exact this
  · have := admits_argv n h1 ta la (.func (Fn.func (doesF n)) #[] #[]) cap xs hl hk (ha.later hb)
    rw [hadm] at this
    exact this

theorem pa_run (h : PK w kb S ws lq ph ob qp) (hc : curP S lq ph = some me) (n : Int) (h1 : 1 ≤ n) (h6 : n ≤ 6) (la : Option Addr) (cap : Nat) (xs : List Int) (hl : (bsL n).length = xs.length) (ha : ArgV w n la xs) (hadm : admTo (bsL n) xs xs.length = true)
    (F : Nat → Prop) (R : World → Int → Int → Nat → Prop)
    (hD : ∀ w1 rb, QK w1 rb kb S ws lq ph ob qp me 0 → Below w.heap.size w w1 → w.heap.size < rb → Calls Try.prog (doesF n) #[.pointer (some ⟨rb, 0, none⟩), .slice la xs.length cap] w1 fun e w' =>
      ∃ v er u, e = .returned (.tuple #[.int .i64 v, .int .i64 er]) ∧ ReqAt w' rb kb (ob me) u ∧ R w' v er u ∧ Fr (fun k => k = rb ∨ F k) w1 w')
    (hF : ¬ F w.heap.size)
    (hst : ∀ w' w'' v er u, R w' v er u → Fr (fun k => k = w.heap.size) w' w'' → R w'' v er u) :
    Calls Try.prog 19 #[.pointer (some ⟨kb, 0, none⟩), .int .i64 n, .slice la xs.length cap] w fun e w' => ∃ v er u, e = .returned (outV er v u) ∧ R w' v er u ∧ Fr F w w' := by
  refine ptrap_ok h hc n la xs.length cap (doesF n) (TK n) F R (fun w1 => ?_) (fun w1 w' ta hk hb => hk.later hb) (fun w1 ta hk hb => ?_) (callF n h1 h6) hD hF hst
  · have := trapOf_pack n h1 h6 w1
    rw [hl] at this
    exact this
  · have := admits_argv n h1 ta la (.func (Fn.func (doesF n)) #[] #[]) cap xs hl hk (ha.later hb)
    rw [hadm] at this
    exact this

/-- A trap that turns nothing. -/
theorem pa_still (h : PK w kb S ws lq ph ob qp) (hc : curP S lq ph = some me) (n : Int) (h1 : 1 ≤ n) (h6 : n ≤ 6) (la : Option Addr) (cap : Nat) (xs : List Int) (hl : (bsL n).length = xs.length) (ha : ArgV w n la xs) (hadm : admTo (bsL n) xs xs.length = true) (V E : Int) (U : Nat)
    (hD : ∀ w1 rb, QK w1 rb kb S ws lq ph ob qp me 0 → ArgV w1 n la xs → Below w.heap.size w w1 → w.heap.size < rb → Calls Try.prog (doesF n) #[.pointer (some ⟨rb, 0, none⟩), .slice la xs.length cap] w1 fun e w' =>
      e = .returned (.tuple #[.int .i64 V, .int .i64 E]) ∧ QK w' rb kb S ws lq ph ob qp me U ∧ Fr (fun k => k = rb) w1 w') :
    Calls Try.prog 19 #[.pointer (some ⟨kb, 0, none⟩), .int .i64 n, .slice la xs.length cap] w fun e w' => e = .returned (outV E V U) ∧ Fr (fun _ => False) w w' := by
  refine (pa_run h hc n h1 h6 la cap xs hl ha hadm (fun _ => False) (fun _ v er u => v = V ∧ er = E ∧ u = U) (fun w1 rb hq hb hrb => ?_) id (fun _ _ _ _ _ hr _ => hr)).mono ?_
  · refine (hD w1 rb hq (ha.later hb) hb hrb).mono ?_
    rintro e w' ⟨rfl, hq', hf⟩
    exact ⟨V, E, U, rfl, hq'.req, ⟨rfl, rfl, rfl⟩, hf.mono (fun _ _ h => Or.inl h)⟩
  · rintro e w' ⟨v, er, u, rfl, ⟨rfl, rfl, rfl⟩, hf⟩
    exact ⟨rfl, hf⟩
end

end Go.Proofs.Ytflniddofmnkaaa
