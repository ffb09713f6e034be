/- Arguments in memory; what a trap's words are in memory. -/
import Derived.Test.YtflniddofmnkaaaRefPath
import Derived.Test.YtflniddofmnkaaaRefMaking
import Derived.Test.YtflniddofmnkaaaRefPut
open Go Go.Proofs Go.RowKit
namespace Go.Proofs.Ytflniddofmnkaaa

theorem cell_same {w w' : World} {b : Nat} (e : w'.heap[b]? = w.heap[b]?) (n : Nat) : w'.cell? ⟨b, n, none⟩ = w.cell? ⟨b, n, none⟩ := by
  simp only [World.cell?, e]

/-- Numbers lie in block lb, from lo on. -/
structure Arg (w : World) (lb lo : Nat) (xs : List Int) : Prop where
  lt : lb < w.heap.size
  cell : ∀ i x, xs[i]? = some x → w.cell? ⟨lb, lo + i, none⟩ = some (.int .i64 x)

theorem Arg.fr {S : Nat → Prop} {w w' : World} {lb lo : Nat} {xs : List Int} (h : Arg w lb lo xs) (f : Fr S w w') (hs : ¬ S lb) : Arg w' lb lo xs :=
  ⟨Nat.lt_of_lt_of_le h.lt f.size, fun i x hx => by rw [cell_same (f.block lb h.lt hs)]; exact h.cell i x hx⟩
theorem Arg.below {w w' : World} {lb lo B : Nat} {xs : List Int} (h : Arg w lb lo xs) (f : Below B w w') (hs : lb < B) : Arg w' lb lo xs :=
  ⟨Nat.lt_of_lt_of_le h.lt f.size, fun i x hx => by rw [cell_same (f.block lb hs)]; exact h.cell i x hx⟩

section
variable {w : World} {lb lo : Nat} {x0 x1 x2 x3 x4 x5 x6 : Int} {xs : List Int}
theorem Arg.c0 (h : Arg w lb lo (x0 :: xs)) : w.cell? ⟨lb, lo, none⟩ = some (.int .i64 x0) := h.cell 0 x0 rfl
theorem Arg.c1 (h : Arg w lb lo (x0 :: x1 :: xs)) : w.cell? ⟨lb, lo + 1, none⟩ = some (.int .i64 x1) := h.cell 1 x1 rfl
theorem Arg.c2 (h : Arg w lb lo (x0 :: x1 :: x2 :: xs)) : w.cell? ⟨lb, lo + 2, none⟩ = some (.int .i64 x2) := h.cell 2 x2 rfl
theorem Arg.c3 (h : Arg w lb lo (x0 :: x1 :: x2 :: x3 :: xs)) : w.cell? ⟨lb, lo + 3, none⟩ = some (.int .i64 x3) := h.cell 3 x3 rfl
theorem Arg.c4 (h : Arg w lb lo (x0 :: x1 :: x2 :: x3 :: x4 :: xs)) : w.cell? ⟨lb, lo + 4, none⟩ = some (.int .i64 x4) := h.cell 4 x4 rfl
theorem Arg.c5 (h : Arg w lb lo (x0 :: x1 :: x2 :: x3 :: x4 :: x5 :: xs)) : w.cell? ⟨lb, lo + 5, none⟩ = some (.int .i64 x5) := h.cell 5 x5 rfl
theorem Arg.c6 (h : Arg w lb lo (x0 :: x1 :: x2 :: x3 :: x4 :: x5 :: x6 :: xs)) : w.cell? ⟨lb, lo + 6, none⟩ = some (.int .i64 x6) := h.cell 6 x6 rfl
end

/-- The words of a thing: its slice's block g, in which they lie from the first cell on. -/
structure Words (w : World) (t : Th) (ws : List Int) : Prop where
  n : t.Wn = ws.length
  cap : t.Wn ≤ t.Wc
  at' : (t.Wa = none ∧ t.Wc = 0) ∨ ∃ (g : Nat) (cs : Array Value), t.Wa = some ⟨g, 0, none⟩ ∧ Blk w g cs ∧ t.Wc ≤ cs.size ∧ (∀ i, i < cs.size → ∃ y : Int, cs[i]? = some (Value.int .i64 y)) ∧ ∀ (i : Nat) (x : Int), ws[i]? = some x → cs[i]? = some (Value.int .i64 x)

/-- The block of a thing's words. -/
def Th.wb (t : Th) (g : Nat) : Prop := ∃ o s, t.Wa = some ⟨g, o, s⟩

/-- All words of the reference's kernel in block b; no two things' words share a block; none lies in the kernel's. -/
structure WS (w : World) (b : Nat) (S : Nat → Th) (ws : Nat → List Int) : Prop where
  words : ∀ i, i < 32 → Words w (S i) (ws i)
  apart : ∀ i j g, i < 32 → j < 32 → (S i).wb g → (S j).wb g → i = j
  off : ∀ i g, i < 32 → (S i).wb g → g ≠ b

theorem Words.lt {w : World} {t : Th} {ws : List Int} (h : Words w t ws) {g : Nat} (hg : t.wb g) : g < w.heap.size := by
  obtain ⟨o, s, hg⟩ := hg
  rcases h.at' with ⟨h1, _⟩ | ⟨g', cs, h1, h2, _⟩
  · rw [h1] at hg; cases hg
  · rw [h1] at hg; injection hg with hg; injection hg with hg; rw [← hg]; exact h2.lt

theorem Words.same {w w' : World} {t : Th} {ws : List Int} (h : Words w t ws) (e : ∀ g, t.wb g → w'.heap[g]? = w.heap[g]?) : Words w' t ws := by
  refine ⟨h.n, h.cap, ?_⟩
  rcases h.at' with h1 | ⟨g, cs, h1, h2, h3⟩
  · exact Or.inl h1
  · exact Or.inr ⟨g, cs, h1, h2.same (e g ⟨0, none, h1⟩), h3⟩

theorem WS.fr {P : Nat → Prop} {w w' : World} {b : Nat} {S : Nat → Th} {ws : Nat → List Int} (h : WS w b S ws) (f : Fr P w w') (hp : ∀ i g, i < 32 → (S i).wb g → ¬ P g) : WS w' b S ws :=
  ⟨fun i hi => (h.words i hi).same fun g hg => f.block g ((h.words i hi).lt hg) (hp i g hi hg), h.apart, h.off⟩

end Go.Proofs.Ytflniddofmnkaaa
