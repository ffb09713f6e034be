/- What the program's small methods do. -/
import Derived.Test.YtflniddofmnkaaaBase
import Derived.Test.YtflniddofmnkaaaProg
import Derived.BigRegion
import Derived.LaidEql
open Go Go.Proofs Go.RowKit
namespace Go.Proofs.Ytflniddofmnkaaa

theorem place_any (w : World) (s k l : Int) :
    Calls Try.prog 29 #[.agg #[.int .i64 s, .int .i64 k, .int .i64 l]] w fun e w' => e = .returned (.int .i64 s) ∧ Below w.heap.size w w' := by
  go_enter Try.func29, Try.ntmps29
  go_wp2
  go_ret
  exact ⟨rfl, by (repeat (first | exact Below.refl _ _ | refine Below.drew ?_ | refine below_drewN ?_ _ | refine Below.alloc ?_ (by simp <;> omega) _))⟩

theorem kindOf_any (w : World) (s k l : Int) :
    Calls Try.prog 99 #[.agg #[.int .i64 s, .int .i64 k, .int .i64 l]] w fun e w' => e = .returned (.int .i64 k) ∧ Below w.heap.size w w' := by
  go_enter Try.func99, Try.ntmps99
  go_wp2
  go_ret
  exact ⟨rfl, by (repeat (first | exact Below.refl _ _ | refine Below.drew ?_ | refine below_drewN ?_ _ | refine Below.alloc ?_ (by simp <;> omega) _))⟩

theorem labelOf_any (w : World) (s k l : Int) :
    Calls Try.prog 30 #[.agg #[.int .i64 s, .int .i64 k, .int .i64 l]] w fun e w' => e = .returned (.int .i64 l) ∧ Below w.heap.size w w' := by
  go_enter Try.func30, Try.ntmps30
  go_wp2
  go_ret
  exact ⟨rfl, by (repeat (first | exact Below.refl _ _ | refine Below.drew ?_ | refine below_drewN ?_ _ | refine Below.alloc ?_ (by simp <;> omega) _))⟩

theorem size_any (w : World) (a b : Int) (ha : 0 ≤ a) (ha2 : a ≤ 64) (hb : 0 ≤ b) (hb2 : b ≤ 64) :
    Calls Try.prog 83 #[.agg #[.int .i64 a, .int .i64 b]] w fun e w' => e = .returned (.int .i64 (b - a)) ∧ Below w.heap.size w w' := by
  go_enter Try.func83, Try.ntmps83
  go_wp2
  go_ret
  exact ⟨rfl, by (repeat (first | exact Below.refl _ _ | refine Below.drew ?_ | refine below_drewN ?_ _ | refine Below.alloc ?_ (by simp <;> omega) _))⟩

theorem has_yes (w : World) (a b n : Int) (h1 : a ≤ n) (h2 : n < b) :
    Calls Try.prog 82 #[.agg #[.int .i64 a, .int .i64 b], .int .i64 n] w fun e w' => e = .returned (.bool true) ∧ Below w.heap.size w w' := by
  go_enter Try.func82, Try.ntmps82
  go_wp2
  go_ret
  exact ⟨rfl, by (repeat (first | exact Below.refl _ _ | refine Below.drew ?_ | refine below_drewN ?_ _ | refine Below.alloc ?_ (by simp <;> omega) _))⟩

theorem has_no (w : World) (a b n : Int) (h : n < a ∨ b ≤ n) :
    Calls Try.prog 82 #[.agg #[.int .i64 a, .int .i64 b], .int .i64 n] w fun e w' => e = .returned (.bool false) ∧ Below w.heap.size w w' := by
  by_cases h1 : a ≤ n
  · have h2 : ¬ n < b := by omega
    clear h
    go_enter Try.func82, Try.ntmps82
    go_wp2
    go_ret
    exact ⟨rfl, by (repeat (first | exact Below.refl _ _ | refine Below.drew ?_ | refine below_drewN ?_ _ | refine Below.alloc ?_ (by simp <;> omega) _))⟩
  · clear h
    go_enter Try.func82, Try.ntmps82
    go_wp2
    go_ret
    exact ⟨rfl, by (repeat (first | exact Below.refl _ _ | refine Below.drew ?_ | refine below_drewN ?_ _ | refine Below.alloc ?_ (by simp <;> omega) _))⟩

set_option maxRecDepth 10000 in
theorem method_place_container (w : World) (g : Nat) (s k l : Int) (h0 : w.cell? ⟨g, 0, none⟩ = some (.int .i64 s)) (h1 : w.cell? ⟨g, 1, none⟩ = some (.int .i64 k)) (h2 : w.cell? ⟨g, 2, none⟩ = some (.int .i64 l)) :
    (method 270 116 (.pointer (some ⟨g, 0, none⟩)) "cloister/cloister.place").run Try.prog w = .ok (29, .agg #[.int .i64 s, .int .i64 k, .int .i64 l]) w := by
  rw [show (270 : Nat) = 269 + 1 from rfl, method]
  simp [go_sem, Try.t116, follow, receiverAt, Place.get, h0, h1, h2]
set_option maxRecDepth 10000 in
theorem method_kindOf_container (w : World) (g : Nat) (s k l : Int) (h0 : w.cell? ⟨g, 0, none⟩ = some (.int .i64 s)) (h1 : w.cell? ⟨g, 1, none⟩ = some (.int .i64 k)) (h2 : w.cell? ⟨g, 2, none⟩ = some (.int .i64 l)) :
    (method 270 116 (.pointer (some ⟨g, 0, none⟩)) "cloister/cloister.kindOf").run Try.prog w = .ok (99, .agg #[.int .i64 s, .int .i64 k, .int .i64 l]) w := by
  rw [show (270 : Nat) = 269 + 1 from rfl, method]
  simp [go_sem, Try.t116, follow, receiverAt, Place.get, h0, h1, h2]
set_option maxRecDepth 10000 in
theorem method_labelOf_container (w : World) (g : Nat) (s k l : Int) (h0 : w.cell? ⟨g, 0, none⟩ = some (.int .i64 s)) (h1 : w.cell? ⟨g, 1, none⟩ = some (.int .i64 k)) (h2 : w.cell? ⟨g, 2, none⟩ = some (.int .i64 l)) :
    (method 270 116 (.pointer (some ⟨g, 0, none⟩)) "cloister/cloister.labelOf").run Try.prog w = .ok (30, .agg #[.int .i64 s, .int .i64 k, .int .i64 l]) w := by
  rw [show (270 : Nat) = 269 + 1 from rfl, method]
  simp [go_sem, Try.t116, follow, receiverAt, Place.get, h0, h1, h2]
set_option maxRecDepth 10000 in
theorem method_place_thread (w : World) (g : Nat) (s k l : Int) (h0 : w.cell? ⟨g, 0, none⟩ = some (.int .i64 s)) (h1 : w.cell? ⟨g, 1, none⟩ = some (.int .i64 k)) (h2 : w.cell? ⟨g, 2, none⟩ = some (.int .i64 l)) :
    (method 270 75 (.pointer (some ⟨g, 0, none⟩)) "cloister/cloister.place").run Try.prog w = .ok (29, .agg #[.int .i64 s, .int .i64 k, .int .i64 l]) w := by
  rw [show (270 : Nat) = 269 + 1 from rfl, method]
  simp [go_sem, Try.t75, follow, receiverAt, Place.get, h0, h1, h2]
set_option maxRecDepth 10000 in
theorem method_kindOf_thread (w : World) (g : Nat) (s k l : Int) (h0 : w.cell? ⟨g, 0, none⟩ = some (.int .i64 s)) (h1 : w.cell? ⟨g, 1, none⟩ = some (.int .i64 k)) (h2 : w.cell? ⟨g, 2, none⟩ = some (.int .i64 l)) :
    (method 270 75 (.pointer (some ⟨g, 0, none⟩)) "cloister/cloister.kindOf").run Try.prog w = .ok (99, .agg #[.int .i64 s, .int .i64 k, .int .i64 l]) w := by
  rw [show (270 : Nat) = 269 + 1 from rfl, method]
  simp [go_sem, Try.t75, follow, receiverAt, Place.get, h0, h1, h2]
set_option maxRecDepth 10000 in
theorem method_labelOf_thread (w : World) (g : Nat) (s k l : Int) (h0 : w.cell? ⟨g, 0, none⟩ = some (.int .i64 s)) (h1 : w.cell? ⟨g, 1, none⟩ = some (.int .i64 k)) (h2 : w.cell? ⟨g, 2, none⟩ = some (.int .i64 l)) :
    (method 270 75 (.pointer (some ⟨g, 0, none⟩)) "cloister/cloister.labelOf").run Try.prog w = .ok (30, .agg #[.int .i64 s, .int .i64 k, .int .i64 l]) w := by
  rw [show (270 : Nat) = 269 + 1 from rfl, method]
  simp [go_sem, Try.t75, follow, receiverAt, Place.get, h0, h1, h2]
set_option maxRecDepth 10000 in
theorem method_place_segment (w : World) (g : Nat) (s k l : Int) (h0 : w.cell? ⟨g, 0, none⟩ = some (.int .i64 s)) (h1 : w.cell? ⟨g, 1, none⟩ = some (.int .i64 k)) (h2 : w.cell? ⟨g, 2, none⟩ = some (.int .i64 l)) :
    (method 270 136 (.pointer (some ⟨g, 0, none⟩)) "cloister/cloister.place").run Try.prog w = .ok (29, .agg #[.int .i64 s, .int .i64 k, .int .i64 l]) w := by
  rw [show (270 : Nat) = 269 + 1 from rfl, method]
  simp [go_sem, Try.t136, follow, receiverAt, Place.get, h0, h1, h2]
set_option maxRecDepth 10000 in
theorem method_kindOf_segment (w : World) (g : Nat) (s k l : Int) (h0 : w.cell? ⟨g, 0, none⟩ = some (.int .i64 s)) (h1 : w.cell? ⟨g, 1, none⟩ = some (.int .i64 k)) (h2 : w.cell? ⟨g, 2, none⟩ = some (.int .i64 l)) :
    (method 270 136 (.pointer (some ⟨g, 0, none⟩)) "cloister/cloister.kindOf").run Try.prog w = .ok (99, .agg #[.int .i64 s, .int .i64 k, .int .i64 l]) w := by
  rw [show (270 : Nat) = 269 + 1 from rfl, method]
  simp [go_sem, Try.t136, follow, receiverAt, Place.get, h0, h1, h2]
set_option maxRecDepth 10000 in
theorem method_labelOf_segment (w : World) (g : Nat) (s k l : Int) (h0 : w.cell? ⟨g, 0, none⟩ = some (.int .i64 s)) (h1 : w.cell? ⟨g, 1, none⟩ = some (.int .i64 k)) (h2 : w.cell? ⟨g, 2, none⟩ = some (.int .i64 l)) :
    (method 270 136 (.pointer (some ⟨g, 0, none⟩)) "cloister/cloister.labelOf").run Try.prog w = .ok (30, .agg #[.int .i64 s, .int .i64 k, .int .i64 l]) w := by
  rw [show (270 : Nat) = 269 + 1 from rfl, method]
  simp [go_sem, Try.t136, follow, receiverAt, Place.get, h0, h1, h2]

/-! ### type assertions -/
theorem ta_container_container (w : World) (g : Nat) : (Instr.typeAssert (.iface 116 (.pointer (some ⟨g, 0, none⟩))) 73 116 true).run Try.prog w = .ok (.tuple #[.pointer (some ⟨g, 0, none⟩), .bool true]) w := by kernel_rfl
theorem ta_container_thread (w : World) (g : Nat) : (Instr.typeAssert (.iface 75 (.pointer (some ⟨g, 0, none⟩))) 73 116 true).run Try.prog w = .ok (.tuple #[.pointer none, .bool false]) w := by kernel_rfl
theorem ta_container_segment (w : World) (g : Nat) : (Instr.typeAssert (.iface 136 (.pointer (some ⟨g, 0, none⟩))) 73 116 true).run Try.prog w = .ok (.tuple #[.pointer none, .bool false]) w := by kernel_rfl
theorem ta_container_nil (w : World) : (Instr.typeAssert .nilIface 73 116 true).run Try.prog w = .ok (.tuple #[.pointer none, .bool false]) w := by kernel_rfl
theorem ta_segment_container (w : World) (g : Nat) : (Instr.typeAssert (.iface 116 (.pointer (some ⟨g, 0, none⟩))) 73 136 true).run Try.prog w = .ok (.tuple #[.pointer none, .bool false]) w := by kernel_rfl
theorem ta_segment_thread (w : World) (g : Nat) : (Instr.typeAssert (.iface 75 (.pointer (some ⟨g, 0, none⟩))) 73 136 true).run Try.prog w = .ok (.tuple #[.pointer none, .bool false]) w := by kernel_rfl
theorem ta_segment_segment (w : World) (g : Nat) : (Instr.typeAssert (.iface 136 (.pointer (some ⟨g, 0, none⟩))) 73 136 true).run Try.prog w = .ok (.tuple #[.pointer (some ⟨g, 0, none⟩), .bool true]) w := by kernel_rfl
theorem ta_segment_nil (w : World) : (Instr.typeAssert .nilIface 73 136 true).run Try.prog w = .ok (.tuple #[.pointer none, .bool false]) w := by kernel_rfl
theorem ta_thread_container (w : World) (g : Nat) : (Instr.typeAssert (.iface 116 (.pointer (some ⟨g, 0, none⟩))) 73 75 true).run Try.prog w = .ok (.tuple #[.pointer none, .bool false]) w := by kernel_rfl
theorem ta_thread_thread (w : World) (g : Nat) : (Instr.typeAssert (.iface 75 (.pointer (some ⟨g, 0, none⟩))) 73 75 true).run Try.prog w = .ok (.tuple #[.pointer (some ⟨g, 0, none⟩), .bool true]) w := by kernel_rfl
theorem ta_thread_segment (w : World) (g : Nat) : (Instr.typeAssert (.iface 136 (.pointer (some ⟨g, 0, none⟩))) 73 75 true).run Try.prog w = .ok (.tuple #[.pointer none, .bool false]) w := by kernel_rfl
theorem ta_thread_nil (w : World) : (Instr.typeAssert .nilIface 73 75 true).run Try.prog w = .ok (.tuple #[.pointer none, .bool false]) w := by kernel_rfl

/-! ### against nil -/
theorem eql_nil_container (w : World) (g : Nat) : (binOp .eql 73 (.iface 116 (.pointer (some ⟨g, 0, none⟩))) .nilIface).run Try.prog w = .ok (.bool false) w := by kernel_rfl
theorem neq_nil_container (w : World) (g : Nat) : (binOp .neq 73 (.iface 116 (.pointer (some ⟨g, 0, none⟩))) .nilIface).run Try.prog w = .ok (.bool true) w := by kernel_rfl
theorem eql_nil_thread (w : World) (g : Nat) : (binOp .eql 73 (.iface 75 (.pointer (some ⟨g, 0, none⟩))) .nilIface).run Try.prog w = .ok (.bool false) w := by kernel_rfl
theorem neq_nil_thread (w : World) (g : Nat) : (binOp .neq 73 (.iface 75 (.pointer (some ⟨g, 0, none⟩))) .nilIface).run Try.prog w = .ok (.bool true) w := by kernel_rfl
theorem eql_nil_segment (w : World) (g : Nat) : (binOp .eql 73 (.iface 136 (.pointer (some ⟨g, 0, none⟩))) .nilIface).run Try.prog w = .ok (.bool false) w := by kernel_rfl
theorem neq_nil_segment (w : World) (g : Nat) : (binOp .neq 73 (.iface 136 (.pointer (some ⟨g, 0, none⟩))) .nilIface).run Try.prog w = .ok (.bool true) w := by kernel_rfl

/-! ### pointers to containers -/
theorem eqIn_ptr_same (d : Nat) (w : World) (g : Nat) : (Op.equalIn (d + 1) 116 (.pointer (some ⟨g, 0, none⟩)) (.pointer (some ⟨g, 0, none⟩))).run Try.prog w = .ok true w := by
  simp [Op.equalIn, run_underlying Try.underlying116, Go.sizeOf, run_sameAddr_same, go_sem]
theorem neq_ptr_same (w : World) (g : Nat) : (binOp .neq 116 (.pointer (some ⟨g, 0, none⟩)) (.pointer (some ⟨g, 0, none⟩))).run Try.prog w = .ok (.bool false) w := by
  simp only [binOp]
  simp [Op.equal, Op.maxDepth, eqIn_ptr_same 9999]
theorem eqIn_ptr_other (d : Nat) (w : World) (a b : Nat) (ca cb : Array Value) (h : a ≠ b) (ha : Blk w a ca) (hb : Blk w b cb) : (Op.equalIn (d + 1) 116 (.pointer (some ⟨a, 0, none⟩)) (.pointer (some ⟨b, 0, none⟩))).run Try.prog w = .ok false w := by
  obtain ⟨Ta, ha⟩ := ha
  obtain ⟨Tb, hb⟩ := hb
  have h2 : (⟨a, 0, none⟩ : Addr) ≠ ⟨b, 0, none⟩ := fun e => h (by injection e)
  have := run_sameAddr_other (P := Try.prog) w (a := ⟨a, 0, none⟩) (b := ⟨b, 0, none⟩) h2 ha hb
  simp [Op.equalIn, run_underlying Try.underlying116, Go.sizeOf, this, go_sem]
  intro h0
  exact absurd h0 (by decide)
theorem neq_ptr_other (w : World) (a b : Nat) (ca cb : Array Value) (h : a ≠ b) (ha : Blk w a ca) (hb : Blk w b cb) : (binOp .neq 116 (.pointer (some ⟨a, 0, none⟩)) (.pointer (some ⟨b, 0, none⟩))).run Try.prog w = .ok (.bool true) w := by
  simp only [binOp]
  simp [Op.equal, Op.maxDepth, eqIn_ptr_other 9999 w a b ca cb h ha hb]
theorem eqIn_nil_ptr (d : Nat) (w : World) (g : Nat) : (Op.equalIn (d + 1) 116 (.pointer none) (.pointer (some ⟨g, 0, none⟩))).run Try.prog w = .ok false w := by
  simp [Op.equalIn, run_underlying Try.underlying116, go_sem]
theorem neq_nil_ptr (w : World) (g : Nat) : (binOp .neq 116 (.pointer none) (.pointer (some ⟨g, 0, none⟩))).run Try.prog w = .ok (.bool true) w := by
  simp only [binOp]
  simp [Op.equal, Op.maxDepth, eqIn_nil_ptr 9999]

end Go.Proofs.Ytflniddofmnkaaa
