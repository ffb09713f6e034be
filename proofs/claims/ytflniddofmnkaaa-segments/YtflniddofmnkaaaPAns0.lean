/- The program's table, packed; its bounds against the reference's letters. -/
import Derived.Test.YtflniddofmnkaaaPTrap
open Go Go.Proofs Go.RowKit
namespace Go.Proofs.Ytflniddofmnkaaa

/-- The bounds of a trap's arguments. -/
def bsL (n : Int) : List (Int × Int) :=
  if n = 2 then [(0, 31)] else if n = 3 then [(0, 31)] else if n = 4 then [(0, 31), (0, 31), (0, 255)] else if n = 5 then [(0, 31), (0, 7)]
  else if n = 6 then [(0, 31), (0, 7), (-9223372036854775808, 9223372036854775807)] else []

/-- The bounds lie in memory. -/
def TK (n : Int) (w : World) (ta : Option Addr) : Prop :=
  (n = 1 ∧ ta = none) ∨ n ≠ 1 ∧ ∃ g, ta = some ⟨g, 0, none⟩ ∧ g < w.heap.size ∧ ∀ i b, (bsL n)[i]? = some b → w.cell? ⟨g, i * 2, none⟩ = some (.int .i64 b.1) ∧ w.cell? ⟨g, i * 2 + 1, none⟩ = some (.int .i64 b.2)

theorem TK.later {n : Int} {w w' : World} {ta : Option Addr} (h : TK n w ta) (hb : Below w.heap.size w w') : TK n w' ta := by
  rcases h with h | ⟨h0, g, h1, h2, h3⟩
  · exact Or.inl h
  · refine Or.inr ⟨h0, g, h1, Nat.lt_of_lt_of_le h2 hb.size, fun i b hi => ?_⟩
    obtain ⟨q1, q2⟩ := h3 i b hi
    exact ⟨(cell_same' (hb.block g h2) _).trans q1, (cell_same' (hb.block g h2) _).trans q2⟩

theorem trapOf_pack (n : Int) (h1 : 1 ≤ n) (h6 : n ≤ 6) (w : World) :
    Calls Try.prog 31 #[.int .i64 n] w fun e w' => ∃ ta, e = .returned (.tuple #[.agg #[.slice ta (bsL n).length (bsL n).length, .func (Fn.func (doesF n)) #[] #[]], .bool true]) ∧ Below w.heap.size w w' ∧ TK n w' ta := by
  have hn : n = 1 ∨ n = 2 ∨ n = 3 ∨ n = 4 ∨ n = 5 ∨ n = 6 := by omega
  rcases hn with rfl | rfl | rfl | rfl | rfl | rfl
  · refine (trapOf_1 w).mono ?_
    rintro e w' ⟨rfl, hb⟩
    exact ⟨none, rfl, hb, Or.inl ⟨rfl, rfl⟩⟩
  · refine (trapOf_2 w).mono ?_
    rintro e w' ⟨g, rfl, hg, hB, hb⟩
    refine ⟨_, rfl, hb, Or.inr ⟨by omega, g, rfl, hB.lt, fun i b hi => ?_⟩⟩
    rw [hB.cell, hB.cell]
    have : i = 0 := by
      have := (List.getElem?_eq_some_iff.1 hi).1
      simp [bsL] at this; omega
    subst this; simp [bsL] at hi; subst hi; exact ⟨rfl, rfl⟩
  · refine (trapOf_3 w).mono ?_
    rintro e w' ⟨g, rfl, hg, hB, hb⟩
    refine ⟨_, rfl, hb, Or.inr ⟨by omega, g, rfl, hB.lt, fun i b hi => ?_⟩⟩
    rw [hB.cell, hB.cell]
    have : i = 0 := by
      have := (List.getElem?_eq_some_iff.1 hi).1
      simp [bsL] at this; omega
    subst this; simp [bsL] at hi; subst hi; exact ⟨rfl, rfl⟩
  · refine (trapOf_4 w).mono ?_
    rintro e w' ⟨g, rfl, hg, hB, hb⟩
    refine ⟨_, rfl, hb, Or.inr ⟨by omega, g, rfl, hB.lt, fun i b hi => ?_⟩⟩
    rw [hB.cell, hB.cell]
    have : i = 0 ∨ i = 1 ∨ i = 2 := by
      have := (List.getElem?_eq_some_iff.1 hi).1
      simp [bsL] at this; omega
    rcases this with rfl | rfl | rfl <;> (simp [bsL] at hi; subst hi; exact ⟨rfl, rfl⟩)
  · refine (trapOf_5 w).mono ?_
    rintro e w' ⟨g, rfl, hg, hB, hb⟩
    refine ⟨_, rfl, hb, Or.inr ⟨by omega, g, rfl, hB.lt, fun i b hi => ?_⟩⟩
    rw [hB.cell, hB.cell]
    have : i = 0 ∨ i = 1 := by
      have := (List.getElem?_eq_some_iff.1 hi).1
      simp [bsL] at this; omega
    rcases this with rfl | rfl <;> (simp [bsL] at hi; subst hi; exact ⟨rfl, rfl⟩)
  · refine (trapOf_6 w).mono ?_
    rintro e w' ⟨g, rfl, hg, hB, hb⟩
    refine ⟨_, rfl, hb, Or.inr ⟨by omega, g, rfl, hB.lt, fun i b hi => ?_⟩⟩
    rw [hB.cell, hB.cell]
    have : i = 0 ∨ i = 1 ∨ i = 2 := by
      have := (List.getElem?_eq_some_iff.1 hi).1
      simp [bsL] at this; omega
    rcases this with rfl | rfl | rfl <;> (simp [bsL] at hi; subst hi; exact ⟨rfl, rfl⟩)

theorem admits_pack (n : Int) (h1 : 1 ≤ n) (w : World) (ta : Option Addr) (f : Value) (lb lo cap : Nat) (xs : List Int) (hl : (bsL n).length = xs.length) (hk : TK n w ta) (ha : n = 1 ∨ Arg w lb lo xs) (la : Option Addr) (hla : n ≠ 1 → la = some ⟨lb, lo, none⟩) :
    Calls Try.prog 32 #[.agg #[.slice ta xs.length xs.length, f], .slice la xs.length cap] w fun e w' => e = .returned (.bool (admTo (bsL n) xs xs.length)) ∧ Below w.heap.size w w' := by
  rcases hk with ⟨rfl, rfl⟩ | ⟨hne, g, rfl, hg, hb⟩
  · have : xs = [] := List.length_eq_zero_iff.1 (by rw [← hl]; rfl)
    subst this
    exact admits_nil w f _
  · have e : n ≠ 1 := hne
    · rw [hla e]
      rcases ha with h | ha
      · exact absurd h e
      · refine admits_any w f g lb lo cap (bsL n) xs hl ?_ hg hb ha
        rw [← hl]
        unfold bsL
        repeat' split
        all_goals simp

end Go.Proofs.Ytflniddofmnkaaa
