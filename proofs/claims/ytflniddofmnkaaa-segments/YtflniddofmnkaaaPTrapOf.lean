/- What the program's 'trapOf' does. -/
import Derived.Test.YtflniddofmnkaaaBase
import Derived.Test.YtflniddofmnkaaaProg
import Derived.Laws.EntriesVeiled
open Go Go.Proofs Go.RowKit
namespace Go.Proofs.Ytflniddofmnkaaa

/-- What each argument of a trap may be, as the program has it. -/
def takesL (n : Int) : List Int :=
  if n = 2 then [0, 31] else if n = 3 then [0, 31] else if n = 4 then [0, 31, 0, 31, 0, 255] else if n = 5 then [0, 31, 0, 7]
  else if n = 6 then [0, 31, 0, 7, -9223372036854775808, 9223372036854775807] else []

/-- The function of a trap. -/
def doesF (n : Int) : Nat := if n = 1 then 45 else if n = 2 then 46 else if n = 3 then 47 else if n = 4 then 48 else if n = 5 then 49 else 50

theorem feq_func (w : World) (f : FuncId) : (binOp .eql 86 (.func (Fn.func f) #[] #[]) .nilFunc).run Try.prog w = .ok (.bool false) w := by kernel_rfl
theorem feq_nil (w : World) : (binOp .eql 86 .nilFunc .nilFunc).run Try.prog w = .ok (.bool true) w := by kernel_rfl

set_option maxRecDepth 100000 in
set_option maxHeartbeats 8000000 in
theorem trapOf_1 (w : World) :
    Calls Try.prog 31 #[.int .i64 1] w fun e w' => e = .returned (.tuple #[.agg #[.slice none 0 0, .func (Fn.func 45) #[] #[]], .bool true]) ∧ Below w.heap.size w w' := by
  have hfq := fun w => feq_func w 45
  go_enter Try.func31, Try.ntmps31
  go_wp2_with fail
  refine bodyPost_ret (v := .tuple #[.agg #[.slice none 0 0, .func (Fn.func 45) #[] #[]], .bool true]) (by simp [results, Try.results31, go_sem]) rfl ⟨rfl, by (repeat (first | exact Below.refl _ _ | refine Below.drew ?_ | refine below_drewN ?_ _ | refine Below.alloc ?_ (by simp <;> omega) _))⟩

set_option maxRecDepth 100000 in
set_option maxHeartbeats 8000000 in
theorem trapOf_2 (w : World) :
    Calls Try.prog 31 #[.int .i64 2] w fun e w' => ∃ g, e = .returned (.tuple #[.agg #[.slice (some ⟨g, 0, none⟩) 1 1, .func (Fn.func 46) #[] #[]], .bool true]) ∧ w.heap.size ≤ g ∧ Blk w' g #[.int .i64 0, .int .i64 31] ∧ Below w.heap.size w w' := by
  have hfq := fun w => feq_func w 46
  go_enter Try.func31, Try.ntmps31
  go_wp2_with fail
  refine bodyPost_ret (v := .tuple #[.agg #[.slice (some ⟨w.heap.size + 1 + 1 + 1 + 1 + 1, 0, none⟩) 1 1, .func (Fn.func 46) #[] #[]], .bool true]) (by simp [results, Try.results31, go_sem]) rfl ⟨w.heap.size + 1 + 1 + 1 + 1 + 1, rfl, by omega, ?_, by (repeat (first | exact Below.refl _ _ | refine Below.drew ?_ | refine below_drewN ?_ _ | refine Below.alloc ?_ (by simp <;> omega) _))⟩
  repeat (first | (refine Blk.new' ?_; simp; done) | refine Blk.alloc ?_ _)

set_option maxRecDepth 100000 in
set_option maxHeartbeats 8000000 in
theorem trapOf_3 (w : World) :
    Calls Try.prog 31 #[.int .i64 3] w fun e w' => ∃ g, e = .returned (.tuple #[.agg #[.slice (some ⟨g, 0, none⟩) 1 1, .func (Fn.func 47) #[] #[]], .bool true]) ∧ w.heap.size ≤ g ∧ Blk w' g #[.int .i64 0, .int .i64 31] ∧ Below w.heap.size w w' := by
  have hfq := fun w => feq_func w 47
  go_enter Try.func31, Try.ntmps31
  go_wp2_with fail
  refine bodyPost_ret (v := .tuple #[.agg #[.slice (some ⟨w.heap.size + 1 + 1 + 1 + 1 + 1 + 1, 0, none⟩) 1 1, .func (Fn.func 47) #[] #[]], .bool true]) (by simp [results, Try.results31, go_sem]) rfl ⟨w.heap.size + 1 + 1 + 1 + 1 + 1 + 1, rfl, by omega, ?_, by (repeat (first | exact Below.refl _ _ | refine Below.drew ?_ | refine below_drewN ?_ _ | refine Below.alloc ?_ (by simp <;> omega) _))⟩
  repeat (first | (refine Blk.new' ?_; simp; done) | refine Blk.alloc ?_ _)

set_option maxRecDepth 100000 in
set_option maxHeartbeats 8000000 in
theorem trapOf_4 (w : World) :
    Calls Try.prog 31 #[.int .i64 4] w fun e w' => ∃ g, e = .returned (.tuple #[.agg #[.slice (some ⟨g, 0, none⟩) 3 3, .func (Fn.func 48) #[] #[]], .bool true]) ∧ w.heap.size ≤ g ∧ Blk w' g #[.int .i64 0, .int .i64 31, .int .i64 0, .int .i64 31, .int .i64 0, .int .i64 255] ∧ Below w.heap.size w w' := by
  have hfq := fun w => feq_func w 48
  go_enter Try.func31, Try.ntmps31
  go_wp2_with fail
  refine bodyPost_ret (v := .tuple #[.agg #[.slice (some ⟨w.heap.size + 1 + 1 + 1 + 1 + 1 + 1 + 1, 0, none⟩) 3 3, .func (Fn.func 48) #[] #[]], .bool true]) (by simp [results, Try.results31, go_sem]) rfl ⟨w.heap.size + 1 + 1 + 1 + 1 + 1 + 1 + 1, rfl, by omega, ?_, by (repeat (first | exact Below.refl _ _ | refine Below.drew ?_ | refine below_drewN ?_ _ | refine Below.alloc ?_ (by simp <;> omega) _))⟩
  repeat (first | (refine Blk.new' ?_; simp; done) | refine Blk.alloc ?_ _)

set_option maxRecDepth 100000 in
set_option maxHeartbeats 8000000 in
theorem trapOf_5 (w : World) :
    Calls Try.prog 31 #[.int .i64 5] w fun e w' => ∃ g, e = .returned (.tuple #[.agg #[.slice (some ⟨g, 0, none⟩) 2 2, .func (Fn.func 49) #[] #[]], .bool true]) ∧ w.heap.size ≤ g ∧ Blk w' g #[.int .i64 0, .int .i64 31, .int .i64 0, .int .i64 7] ∧ Below w.heap.size w w' := by
  have hfq := fun w => feq_func w 49
  go_enter Try.func31, Try.ntmps31
  go_wp2_with fail
  refine bodyPost_ret (v := .tuple #[.agg #[.slice (some ⟨w.heap.size + 1 + 1 + 1 + 1 + 1 + 1 + 1 + 1, 0, none⟩) 2 2, .func (Fn.func 49) #[] #[]], .bool true]) (by simp [results, Try.results31, go_sem]) rfl ⟨w.heap.size + 1 + 1 + 1 + 1 + 1 + 1 + 1 + 1, rfl, by omega, ?_, by (repeat (first | exact Below.refl _ _ | refine Below.drew ?_ | refine below_drewN ?_ _ | refine Below.alloc ?_ (by simp <;> omega) _))⟩
  repeat (first | (refine Blk.new' ?_; simp; done) | refine Blk.alloc ?_ _)

set_option maxRecDepth 100000 in
set_option maxHeartbeats 8000000 in
theorem trapOf_6 (w : World) :
    Calls Try.prog 31 #[.int .i64 6] w fun e w' => ∃ g, e = .returned (.tuple #[.agg #[.slice (some ⟨g, 0, none⟩) 3 3, .func (Fn.func 50) #[] #[]], .bool true]) ∧ w.heap.size ≤ g ∧ Blk w' g #[.int .i64 0, .int .i64 31, .int .i64 0, .int .i64 7, .int .i64 (-9223372036854775808), .int .i64 9223372036854775807] ∧ Below w.heap.size w w' := by
  have hfq := fun w => feq_func w 50
  go_enter Try.func31, Try.ntmps31
  go_wp2_with fail
  refine bodyPost_ret (v := .tuple #[.agg #[.slice (some ⟨w.heap.size + 1 + 1 + 1 + 1 + 1 + 1 + 1 + 1 + 1, 0, none⟩) 3 3, .func (Fn.func 50) #[] #[]], .bool true]) (by simp [results, Try.results31, go_sem]) rfl ⟨w.heap.size + 1 + 1 + 1 + 1 + 1 + 1 + 1 + 1 + 1, rfl, by omega, ?_, by (repeat (first | exact Below.refl _ _ | refine Below.drew ?_ | refine below_drewN ?_ _ | refine Below.alloc ?_ (by simp <;> omega) _))⟩
  repeat (first | (refine Blk.new' ?_; simp; done) | refine Blk.alloc ?_ _)

set_option maxRecDepth 100000 in
set_option maxHeartbeats 8000000 in
theorem trapOf_low (w : World) (n : Int) (h : n < 0) :
    Calls Try.prog 31 #[.int .i64 n] w fun e w' => e = .returned (.tuple #[.agg #[.slice none 0 0, .nilFunc], .bool false]) ∧ Below w.heap.size w w' := by
  have hfq := feq_nil
  go_enter Try.func31, Try.ntmps31
  go_wp2_with fail
  refine bodyPost_ret (v := .tuple #[.agg #[.slice none 0 0, .nilFunc], .bool false]) (by simp [results, Try.results31, go_sem]) rfl ⟨rfl, by (repeat (first | exact Below.refl _ _ | refine Below.drew ?_ | refine below_drewN ?_ _ | refine Below.alloc ?_ (by simp <;> omega) _))⟩

set_option maxRecDepth 100000 in
set_option maxHeartbeats 8000000 in
theorem trapOf_zero (w : World) :
    Calls Try.prog 31 #[.int .i64 0] w fun e w' => e = .returned (.tuple #[.agg #[.slice none 0 0, .nilFunc], .bool false]) ∧ Below w.heap.size w w' := by
  have hfq := feq_nil
  go_enter Try.func31, Try.ntmps31
  go_wp2_with fail
  refine bodyPost_ret (v := .tuple #[.agg #[.slice none 0 0, .nilFunc], .bool false]) (by simp [results, Try.results31, go_sem]) rfl ⟨rfl, by (repeat (first | exact Below.refl _ _ | refine Below.drew ?_ | refine below_drewN ?_ _ | refine Below.alloc ?_ (by simp <;> omega) _))⟩

set_option maxRecDepth 100000 in
set_option maxHeartbeats 8000000 in
theorem trapOf_high (w : World) (n : Int) (h : 7 ≤ n) :
    Calls Try.prog 31 #[.int .i64 n] w fun e w' => e = .returned (.tuple #[.agg #[.slice none 0 0, .nilFunc], .bool false]) ∧ Below w.heap.size w w' := by
  have h0 : ¬ n < 0 := by omega
  have hfq := feq_nil
  go_enter Try.func31, Try.ntmps31
  go_wp2_with fail
  refine bodyPost_ret (v := .tuple #[.agg #[.slice none 0 0, .nilFunc], .bool false]) (by simp [results, Try.results31, go_sem]) rfl ⟨rfl, by (repeat (first | exact Below.refl _ _ | refine Below.drew ?_ | refine below_drewN ?_ _ | refine Below.alloc ?_ (by simp <;> omega) _))⟩

end Go.Proofs.Ytflniddofmnkaaa
