/- What the reference's 'Shape' does. -/
import Derived.Test.YtflniddofmnkaaaProg
import Derived.Test.YtflniddofmnkaaaRefBase
import Derived.BigRegion
open Go Go.Proofs Go.RowKit
namespace Go.Proofs.Ytflniddofmnkaaa

/-- The letters of a trap's arguments. -/
def shapeL (n : Int) : List UInt8 :=
  if n = 2 then [115] else
  if n = 3 then [115] else
  if n = 4 then [115, 115, 108] else
  if n = 5 then [115, 105] else
  if n = 6 then [115, 105, 118] else
  if n = 7 then [115, 115, 108, 97, 98, 103, 104] else
  if n = 8 then [115] else
  if n = 9 then [115, 115, 108, 108] else
  if n = 10 then [113, 115] else
  if n = 11 then [113] else
  if n = 13 then [115] else
  if n = 14 then [115, 115, 108] else
  if n = 15 then [115, 118] else
  if n = 16 then [115] else
  []

theorem shape_not (w : World) (n : Int) (h : n < 1 ∨ 17 ≤ n) :
    Calls Try.prog 53 #[.int .i64 n] w fun e w' => e = .returned (.tuple #[.string ⟨#[]⟩, .bool false]) ∧ Below w.heap.size w w' := by
  rcases h with h | h
  · go_enter Try.func53, Try.ntmps53
    go_wp2_with fail
    go_ret2
    exact ⟨rfl, by (repeat (first | exact Below.refl _ _ | refine Below.drew ?_ | refine below_drewN ?_ _ | refine Below.alloc ?_ (by simp <;> omega) _))⟩
  · have h1 : ¬ n < 1 := by omega
    go_enter Try.func53, Try.ntmps53
    go_wp2_with fail
    go_ret2
    exact ⟨rfl, by (repeat (first | exact Below.refl _ _ | refine Below.drew ?_ | refine below_drewN ?_ _ | refine Below.alloc ?_ (by simp <;> omega) _))⟩

set_option maxHeartbeats 4000000 in
theorem shape_yes (w : World) (n : Int) (h1 : 1 ≤ n) (h2 : n < 17) :
    Calls Try.prog 53 #[.int .i64 n] w fun e w' => e = .returned (.tuple #[.string ⟨(shapeL n).toArray⟩, .bool true]) ∧ Below w.heap.size w w' := by
  have hn : n = 1 ∨ n = 2 ∨ n = 3 ∨ n = 4 ∨ n = 5 ∨ n = 6 ∨ n = 7 ∨ n = 8 ∨ n = 9 ∨ n = 10 ∨ n = 11 ∨ n = 12 ∨ n = 13 ∨ n = 14 ∨ n = 15 ∨ n = 16 := by omega
  clear h1 h2
  rcases hn with rfl | rfl | rfl | rfl | rfl | rfl | rfl | rfl | rfl | rfl | rfl | rfl | rfl | rfl | rfl | rfl
  all_goals
    go_enter Try.func53, Try.ntmps53
    go_wp2_with fail
    go_ret2
    exact ⟨rfl, by (repeat (first | exact Below.refl _ _ | refine Below.drew ?_ | refine below_drewN ?_ _ | refine Below.alloc ?_ (by simp <;> omega) _))⟩

end Go.Proofs.Ytflniddofmnkaaa
