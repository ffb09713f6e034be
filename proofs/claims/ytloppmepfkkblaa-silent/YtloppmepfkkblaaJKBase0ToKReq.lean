/- What the program's small methods do; methods, assertions and comparisons of objects of all kinds. -/
import Derived.Test.YtloppmepfkkblaaProg
import Derived.BigRegion
import Derived.LaidEql
import Derived.Deep.MidRow
import Derived.Deep.RegionHeld3
import Derived.Test.YtloppmepfkkblaaJBaseToTreeKeeps
import Derived.Test.YtloppmepfkkblaaJMKeepsToViewM

section
open Go Go.Proofs Go.RowKit
namespace Go.Proofs.Ytloppmepfkkblaa

theorem place_any (w : World) (s k l : Int) :
    Calls Try.prog 25 #[.agg #[.int .i64 s, .int .i64 k, .int .i64 l]] w fun e w' => e = .returned (.int .i64 s) ∧ Below w.heap.size w w' := by
  go_enter Try.func25, Try.ntmps25
  go_wp2
  go_ret
  exact ⟨rfl, by (repeat (first | exact Below.refl _ _ | refine Below.drew ?_ | refine below_drewN ?_ _ | refine Below.alloc ?_ (by simp <;> omega) _))⟩

theorem kindOf_any (w : World) (s k l : Int) :
    Calls Try.prog 93 #[.agg #[.int .i64 s, .int .i64 k, .int .i64 l]] w fun e w' => e = .returned (.int .i64 k) ∧ Below w.heap.size w w' := by
  go_enter Try.func93, Try.ntmps93
  go_wp2
  go_ret
  exact ⟨rfl, by (repeat (first | exact Below.refl _ _ | refine Below.drew ?_ | refine below_drewN ?_ _ | refine Below.alloc ?_ (by simp <;> omega) _))⟩

theorem labelOf_any (w : World) (s k l : Int) :
    Calls Try.prog 26 #[.agg #[.int .i64 s, .int .i64 k, .int .i64 l]] w fun e w' => e = .returned (.int .i64 l) ∧ Below w.heap.size w w' := by
  go_enter Try.func26, Try.ntmps26
  go_wp2
  go_ret
  exact ⟨rfl, by (repeat (first | exact Below.refl _ _ | refine Below.drew ?_ | refine below_drewN ?_ _ | refine Below.alloc ?_ (by simp <;> omega) _))⟩

theorem size_any (w : World) (a b : Int) (ha : 0 ≤ a) (ha2 : a ≤ 64) (hb : 0 ≤ b) (hb2 : b ≤ 64) :
    Calls Try.prog 76 #[.agg #[.int .i64 a, .int .i64 b]] w fun e w' => e = .returned (.int .i64 (b - a)) ∧ Below w.heap.size w w' := by
  go_enter Try.func76, Try.ntmps76
  go_wp2
  go_ret
  exact ⟨rfl, by (repeat (first | exact Below.refl _ _ | refine Below.drew ?_ | refine below_drewN ?_ _ | refine Below.alloc ?_ (by simp <;> omega) _))⟩

theorem has_yes (w : World) (a b n : Int) (h1 : a ≤ n) (h2 : n < b) :
    Calls Try.prog 71 #[.agg #[.int .i64 a, .int .i64 b], .int .i64 n] w fun e w' => e = .returned (.bool true) ∧ Below w.heap.size w w' := by
  go_enter Try.func71, Try.ntmps71
  go_wp2
  go_ret
  exact ⟨rfl, by (repeat (first | exact Below.refl _ _ | refine Below.drew ?_ | refine below_drewN ?_ _ | refine Below.alloc ?_ (by simp <;> omega) _))⟩

theorem has_no (w : World) (a b n : Int) (h : n < a ∨ b ≤ n) :
    Calls Try.prog 71 #[.agg #[.int .i64 a, .int .i64 b], .int .i64 n] w fun e w' => e = .returned (.bool false) ∧ Below w.heap.size w w' := by
  by_cases h1 : a ≤ n
  · have h2 : ¬ n < b := by omega
    clear h
    go_enter Try.func71, Try.ntmps71
    go_wp2
    go_ret
    exact ⟨rfl, by (repeat (first | exact Below.refl _ _ | refine Below.drew ?_ | refine below_drewN ?_ _ | refine Below.alloc ?_ (by simp <;> omega) _))⟩
  · clear h
    go_enter Try.func71, Try.ntmps71
    go_wp2
    go_ret
    exact ⟨rfl, by (repeat (first | exact Below.refl _ _ | refine Below.drew ?_ | refine below_drewN ?_ _ | refine Below.alloc ?_ (by simp <;> omega) _))⟩
set_option maxRecDepth 10000 in
theorem method_place_container (w : World) (g : Nat) (s k l : Int) (h0 : w.cell? ⟨g, 0, none⟩ = some (.int .i64 s)) (h1 : w.cell? ⟨g, 1, none⟩ = some (.int .i64 k)) (h2 : w.cell? ⟨g, 2, none⟩ = some (.int .i64 l)) :
    (method 244 84 (.pointer (some ⟨g, 0, none⟩)) "cloister/cloister.place").run Try.prog w = .ok (25, .agg #[.int .i64 s, .int .i64 k, .int .i64 l]) w := by
  rw [show (244 : Nat) = 243 + 1 from rfl, method]
  simp [go_sem, Try.t84, follow, receiverAt, Place.get, h0, h1, h2]
set_option maxRecDepth 10000 in
theorem method_kindOf_container (w : World) (g : Nat) (s k l : Int) (h0 : w.cell? ⟨g, 0, none⟩ = some (.int .i64 s)) (h1 : w.cell? ⟨g, 1, none⟩ = some (.int .i64 k)) (h2 : w.cell? ⟨g, 2, none⟩ = some (.int .i64 l)) :
    (method 244 84 (.pointer (some ⟨g, 0, none⟩)) "cloister/cloister.kindOf").run Try.prog w = .ok (93, .agg #[.int .i64 s, .int .i64 k, .int .i64 l]) w := by
  rw [show (244 : Nat) = 243 + 1 from rfl, method]
  simp [go_sem, Try.t84, follow, receiverAt, Place.get, h0, h1, h2]
set_option maxRecDepth 10000 in
theorem method_labelOf_container (w : World) (g : Nat) (s k l : Int) (h0 : w.cell? ⟨g, 0, none⟩ = some (.int .i64 s)) (h1 : w.cell? ⟨g, 1, none⟩ = some (.int .i64 k)) (h2 : w.cell? ⟨g, 2, none⟩ = some (.int .i64 l)) :
    (method 244 84 (.pointer (some ⟨g, 0, none⟩)) "cloister/cloister.labelOf").run Try.prog w = .ok (26, .agg #[.int .i64 s, .int .i64 k, .int .i64 l]) w := by
  rw [show (244 : Nat) = 243 + 1 from rfl, method]
  simp [go_sem, Try.t84, follow, receiverAt, Place.get, h0, h1, h2]
set_option maxRecDepth 10000 in
theorem method_inside_container (w : World) (g : Nat) :
    (method 244 84 (.pointer (some ⟨g, 0, none⟩)) "cloister/cloister.inside").run Try.prog w = .ok (94, .pointer (some ⟨g, 0, none⟩)) w := by
  rw [show (244 : Nat) = 243 + 1 from rfl, method]
  simp [go_sem, Try.t84, follow, receiverAt, Place.get]
set_option maxRecDepth 10000 in
theorem method_place_thread (w : World) (g : Nat) (s k l : Int) (h0 : w.cell? ⟨g, 0, none⟩ = some (.int .i64 s)) (h1 : w.cell? ⟨g, 1, none⟩ = some (.int .i64 k)) (h2 : w.cell? ⟨g, 2, none⟩ = some (.int .i64 l)) :
    (method 244 63 (.pointer (some ⟨g, 0, none⟩)) "cloister/cloister.place").run Try.prog w = .ok (25, .agg #[.int .i64 s, .int .i64 k, .int .i64 l]) w := by
  rw [show (244 : Nat) = 243 + 1 from rfl, method]
  simp [go_sem, Try.t63, follow, receiverAt, Place.get, h0, h1, h2]
set_option maxRecDepth 10000 in
theorem method_kindOf_thread (w : World) (g : Nat) (s k l : Int) (h0 : w.cell? ⟨g, 0, none⟩ = some (.int .i64 s)) (h1 : w.cell? ⟨g, 1, none⟩ = some (.int .i64 k)) (h2 : w.cell? ⟨g, 2, none⟩ = some (.int .i64 l)) :
    (method 244 63 (.pointer (some ⟨g, 0, none⟩)) "cloister/cloister.kindOf").run Try.prog w = .ok (93, .agg #[.int .i64 s, .int .i64 k, .int .i64 l]) w := by
  rw [show (244 : Nat) = 243 + 1 from rfl, method]
  simp [go_sem, Try.t63, follow, receiverAt, Place.get, h0, h1, h2]
set_option maxRecDepth 10000 in
theorem method_labelOf_thread (w : World) (g : Nat) (s k l : Int) (h0 : w.cell? ⟨g, 0, none⟩ = some (.int .i64 s)) (h1 : w.cell? ⟨g, 1, none⟩ = some (.int .i64 k)) (h2 : w.cell? ⟨g, 2, none⟩ = some (.int .i64 l)) :
    (method 244 63 (.pointer (some ⟨g, 0, none⟩)) "cloister/cloister.labelOf").run Try.prog w = .ok (26, .agg #[.int .i64 s, .int .i64 k, .int .i64 l]) w := by
  rw [show (244 : Nat) = 243 + 1 from rfl, method]
  simp [go_sem, Try.t63, follow, receiverAt, Place.get, h0, h1, h2]
set_option maxRecDepth 10000 in
theorem method_inside_thread (w : World) (g : Nat) :
    (method 244 63 (.pointer (some ⟨g, 0, none⟩)) "cloister/cloister.inside").run Try.prog w = .ok (92, .pointer (some ⟨g, 0, none⟩)) w := by
  rw [show (244 : Nat) = 243 + 1 from rfl, method]
  simp [go_sem, Try.t63, follow, receiverAt, Place.get]
set_option maxRecDepth 10000 in
theorem method_place_segment (w : World) (g : Nat) (s k l : Int) (h0 : w.cell? ⟨g, 0, none⟩ = some (.int .i64 s)) (h1 : w.cell? ⟨g, 1, none⟩ = some (.int .i64 k)) (h2 : w.cell? ⟨g, 2, none⟩ = some (.int .i64 l)) :
    (method 244 106 (.pointer (some ⟨g, 0, none⟩)) "cloister/cloister.place").run Try.prog w = .ok (25, .agg #[.int .i64 s, .int .i64 k, .int .i64 l]) w := by
  rw [show (244 : Nat) = 243 + 1 from rfl, method]
  simp [go_sem, Try.t106, follow, receiverAt, Place.get, h0, h1, h2]
set_option maxRecDepth 10000 in
theorem method_kindOf_segment (w : World) (g : Nat) (s k l : Int) (h0 : w.cell? ⟨g, 0, none⟩ = some (.int .i64 s)) (h1 : w.cell? ⟨g, 1, none⟩ = some (.int .i64 k)) (h2 : w.cell? ⟨g, 2, none⟩ = some (.int .i64 l)) :
    (method 244 106 (.pointer (some ⟨g, 0, none⟩)) "cloister/cloister.kindOf").run Try.prog w = .ok (93, .agg #[.int .i64 s, .int .i64 k, .int .i64 l]) w := by
  rw [show (244 : Nat) = 243 + 1 from rfl, method]
  simp [go_sem, Try.t106, follow, receiverAt, Place.get, h0, h1, h2]
set_option maxRecDepth 10000 in
theorem method_labelOf_segment (w : World) (g : Nat) (s k l : Int) (h0 : w.cell? ⟨g, 0, none⟩ = some (.int .i64 s)) (h1 : w.cell? ⟨g, 1, none⟩ = some (.int .i64 k)) (h2 : w.cell? ⟨g, 2, none⟩ = some (.int .i64 l)) :
    (method 244 106 (.pointer (some ⟨g, 0, none⟩)) "cloister/cloister.labelOf").run Try.prog w = .ok (26, .agg #[.int .i64 s, .int .i64 k, .int .i64 l]) w := by
  rw [show (244 : Nat) = 243 + 1 from rfl, method]
  simp [go_sem, Try.t106, follow, receiverAt, Place.get, h0, h1, h2]
set_option maxRecDepth 10000 in
theorem method_inside_segment (w : World) (g : Nat) :
    (method 244 106 (.pointer (some ⟨g, 0, none⟩)) "cloister/cloister.inside").run Try.prog w = .ok (95, .pointer (some ⟨g, 0, none⟩)) w := by
  rw [show (244 : Nat) = 243 + 1 from rfl, method]
  simp [go_sem, Try.t106, follow, receiverAt, Place.get]
set_option maxRecDepth 10000 in
theorem method_place_port (w : World) (g : Nat) (s k l : Int) (h0 : w.cell? ⟨g, 0, none⟩ = some (.int .i64 s)) (h1 : w.cell? ⟨g, 1, none⟩ = some (.int .i64 k)) (h2 : w.cell? ⟨g, 2, none⟩ = some (.int .i64 l)) :
    (method 244 118 (.pointer (some ⟨g, 0, none⟩)) "cloister/cloister.place").run Try.prog w = .ok (25, .agg #[.int .i64 s, .int .i64 k, .int .i64 l]) w := by
  rw [show (244 : Nat) = 243 + 1 from rfl, method]
  simp [go_sem, Try.t118, follow, receiverAt, Place.get, h0, h1, h2]
set_option maxRecDepth 10000 in
theorem method_kindOf_port (w : World) (g : Nat) (s k l : Int) (h0 : w.cell? ⟨g, 0, none⟩ = some (.int .i64 s)) (h1 : w.cell? ⟨g, 1, none⟩ = some (.int .i64 k)) (h2 : w.cell? ⟨g, 2, none⟩ = some (.int .i64 l)) :
    (method 244 118 (.pointer (some ⟨g, 0, none⟩)) "cloister/cloister.kindOf").run Try.prog w = .ok (93, .agg #[.int .i64 s, .int .i64 k, .int .i64 l]) w := by
  rw [show (244 : Nat) = 243 + 1 from rfl, method]
  simp [go_sem, Try.t118, follow, receiverAt, Place.get, h0, h1, h2]
set_option maxRecDepth 10000 in
theorem method_labelOf_port (w : World) (g : Nat) (s k l : Int) (h0 : w.cell? ⟨g, 0, none⟩ = some (.int .i64 s)) (h1 : w.cell? ⟨g, 1, none⟩ = some (.int .i64 k)) (h2 : w.cell? ⟨g, 2, none⟩ = some (.int .i64 l)) :
    (method 244 118 (.pointer (some ⟨g, 0, none⟩)) "cloister/cloister.labelOf").run Try.prog w = .ok (26, .agg #[.int .i64 s, .int .i64 k, .int .i64 l]) w := by
  rw [show (244 : Nat) = 243 + 1 from rfl, method]
  simp [go_sem, Try.t118, follow, receiverAt, Place.get, h0, h1, h2]
set_option maxRecDepth 10000 in
theorem method_inside_port (w : World) (g : Nat) :
    (method 244 118 (.pointer (some ⟨g, 0, none⟩)) "cloister/cloister.inside").run Try.prog w = .ok (96, .pointer (some ⟨g, 0, none⟩)) w := by
  rw [show (244 : Nat) = 243 + 1 from rfl, method]
  simp [go_sem, Try.t118, follow, receiverAt, Place.get]
/-! ### objects of all kinds -/
/-- The type of a kind. -/
def tyOf (k : Int) : TypeId := if k = 1 then 84 else if k = 2 then 63 else if k = 3 then 106 else 118
theorem tyOf1 : tyOf 1 = 84 := rfl
theorem tyOf2 : tyOf 2 = 63 := rfl
theorem tyOf3 : tyOf 3 = 106 := rfl
theorem tyOf4 : tyOf 4 = 118 := rfl
theorem method_place (w : World) (g : Nat) (s k l : Int) (hk : k = 1 ∨ k = 2 ∨ k = 3 ∨ k = 4) (h0 : w.cell? ⟨g, 0, none⟩ = some (.int .i64 s)) (h1 : w.cell? ⟨g, 1, none⟩ = some (.int .i64 k)) (h2 : w.cell? ⟨g, 2, none⟩ = some (.int .i64 l)) :
    (method 244 (tyOf k) (.pointer (some ⟨g, 0, none⟩)) "cloister/cloister.place").run Try.prog w = .ok (25, .agg #[.int .i64 s, .int .i64 k, .int .i64 l]) w := by
  rcases hk with rfl | rfl | rfl | rfl
  · exact method_place_container w g s 1 l h0 h1 h2
  · exact method_place_thread w g s 2 l h0 h1 h2
  · exact method_place_segment w g s 3 l h0 h1 h2
  · exact method_place_port w g s 4 l h0 h1 h2
theorem method_kindOf (w : World) (g : Nat) (s k l : Int) (hk : k = 1 ∨ k = 2 ∨ k = 3 ∨ k = 4) (h0 : w.cell? ⟨g, 0, none⟩ = some (.int .i64 s)) (h1 : w.cell? ⟨g, 1, none⟩ = some (.int .i64 k)) (h2 : w.cell? ⟨g, 2, none⟩ = some (.int .i64 l)) :
    (method 244 (tyOf k) (.pointer (some ⟨g, 0, none⟩)) "cloister/cloister.kindOf").run Try.prog w = .ok (93, .agg #[.int .i64 s, .int .i64 k, .int .i64 l]) w := by
  rcases hk with rfl | rfl | rfl | rfl
  · exact method_kindOf_container w g s 1 l h0 h1 h2
  · exact method_kindOf_thread w g s 2 l h0 h1 h2
  · exact method_kindOf_segment w g s 3 l h0 h1 h2
  · exact method_kindOf_port w g s 4 l h0 h1 h2
theorem method_labelOf (w : World) (g : Nat) (s k l : Int) (hk : k = 1 ∨ k = 2 ∨ k = 3 ∨ k = 4) (h0 : w.cell? ⟨g, 0, none⟩ = some (.int .i64 s)) (h1 : w.cell? ⟨g, 1, none⟩ = some (.int .i64 k)) (h2 : w.cell? ⟨g, 2, none⟩ = some (.int .i64 l)) :
    (method 244 (tyOf k) (.pointer (some ⟨g, 0, none⟩)) "cloister/cloister.labelOf").run Try.prog w = .ok (26, .agg #[.int .i64 s, .int .i64 k, .int .i64 l]) w := by
  rcases hk with rfl | rfl | rfl | rfl
  · exact method_labelOf_container w g s 1 l h0 h1 h2
  · exact method_labelOf_thread w g s 2 l h0 h1 h2
  · exact method_labelOf_segment w g s 3 l h0 h1 h2
  · exact method_labelOf_port w g s 4 l h0 h1 h2
/-! ### type assertions -/
theorem ta_container_container (w : World) (g : Nat) : (Instr.typeAssert (.iface 84 (.pointer (some ⟨g, 0, none⟩))) 61 84 true).run Try.prog w = .ok (.tuple #[.pointer (some ⟨g, 0, none⟩), .bool true]) w := by kernel_rfl
theorem ta_container_thread (w : World) (g : Nat) : (Instr.typeAssert (.iface 63 (.pointer (some ⟨g, 0, none⟩))) 61 84 true).run Try.prog w = .ok (.tuple #[.pointer none, .bool false]) w := by kernel_rfl
theorem ta_container_segment (w : World) (g : Nat) : (Instr.typeAssert (.iface 106 (.pointer (some ⟨g, 0, none⟩))) 61 84 true).run Try.prog w = .ok (.tuple #[.pointer none, .bool false]) w := by kernel_rfl
theorem ta_container_port (w : World) (g : Nat) : (Instr.typeAssert (.iface 118 (.pointer (some ⟨g, 0, none⟩))) 61 84 true).run Try.prog w = .ok (.tuple #[.pointer none, .bool false]) w := by kernel_rfl
theorem ta_container_nil (w : World) : (Instr.typeAssert .nilIface 61 84 true).run Try.prog w = .ok (.tuple #[.pointer none, .bool false]) w := by kernel_rfl
theorem ta_thread_container (w : World) (g : Nat) : (Instr.typeAssert (.iface 84 (.pointer (some ⟨g, 0, none⟩))) 61 63 true).run Try.prog w = .ok (.tuple #[.pointer none, .bool false]) w := by kernel_rfl
theorem ta_thread_thread (w : World) (g : Nat) : (Instr.typeAssert (.iface 63 (.pointer (some ⟨g, 0, none⟩))) 61 63 true).run Try.prog w = .ok (.tuple #[.pointer (some ⟨g, 0, none⟩), .bool true]) w := by kernel_rfl
theorem ta_thread_segment (w : World) (g : Nat) : (Instr.typeAssert (.iface 106 (.pointer (some ⟨g, 0, none⟩))) 61 63 true).run Try.prog w = .ok (.tuple #[.pointer none, .bool false]) w := by kernel_rfl
theorem ta_thread_port (w : World) (g : Nat) : (Instr.typeAssert (.iface 118 (.pointer (some ⟨g, 0, none⟩))) 61 63 true).run Try.prog w = .ok (.tuple #[.pointer none, .bool false]) w := by kernel_rfl
theorem ta_thread_nil (w : World) : (Instr.typeAssert .nilIface 61 63 true).run Try.prog w = .ok (.tuple #[.pointer none, .bool false]) w := by kernel_rfl
theorem ta_segment_container (w : World) (g : Nat) : (Instr.typeAssert (.iface 84 (.pointer (some ⟨g, 0, none⟩))) 61 106 true).run Try.prog w = .ok (.tuple #[.pointer none, .bool false]) w := by kernel_rfl
theorem ta_segment_thread (w : World) (g : Nat) : (Instr.typeAssert (.iface 63 (.pointer (some ⟨g, 0, none⟩))) 61 106 true).run Try.prog w = .ok (.tuple #[.pointer none, .bool false]) w := by kernel_rfl
theorem ta_segment_segment (w : World) (g : Nat) : (Instr.typeAssert (.iface 106 (.pointer (some ⟨g, 0, none⟩))) 61 106 true).run Try.prog w = .ok (.tuple #[.pointer (some ⟨g, 0, none⟩), .bool true]) w := by kernel_rfl
theorem ta_segment_port (w : World) (g : Nat) : (Instr.typeAssert (.iface 118 (.pointer (some ⟨g, 0, none⟩))) 61 106 true).run Try.prog w = .ok (.tuple #[.pointer none, .bool false]) w := by kernel_rfl
theorem ta_segment_nil (w : World) : (Instr.typeAssert .nilIface 61 106 true).run Try.prog w = .ok (.tuple #[.pointer none, .bool false]) w := by kernel_rfl
theorem ta_port_container (w : World) (g : Nat) : (Instr.typeAssert (.iface 84 (.pointer (some ⟨g, 0, none⟩))) 61 118 true).run Try.prog w = .ok (.tuple #[.pointer none, .bool false]) w := by kernel_rfl
theorem ta_port_thread (w : World) (g : Nat) : (Instr.typeAssert (.iface 63 (.pointer (some ⟨g, 0, none⟩))) 61 118 true).run Try.prog w = .ok (.tuple #[.pointer none, .bool false]) w := by kernel_rfl
theorem ta_port_segment (w : World) (g : Nat) : (Instr.typeAssert (.iface 106 (.pointer (some ⟨g, 0, none⟩))) 61 118 true).run Try.prog w = .ok (.tuple #[.pointer none, .bool false]) w := by kernel_rfl
theorem ta_port_port (w : World) (g : Nat) : (Instr.typeAssert (.iface 118 (.pointer (some ⟨g, 0, none⟩))) 61 118 true).run Try.prog w = .ok (.tuple #[.pointer (some ⟨g, 0, none⟩), .bool true]) w := by kernel_rfl
theorem ta_port_nil (w : World) : (Instr.typeAssert .nilIface 61 118 true).run Try.prog w = .ok (.tuple #[.pointer none, .bool false]) w := by kernel_rfl
theorem ta_container_no (w : World) (g : Nat) (k : Int) (hk : k = 1 ∨ k = 2 ∨ k = 3 ∨ k = 4) (hn : k ≠ 1) : (Instr.typeAssert (.iface (tyOf k) (.pointer (some ⟨g, 0, none⟩))) 61 84 true).run Try.prog w = .ok (.tuple #[.pointer none, .bool false]) w := by
  rcases hk with rfl | rfl | rfl | rfl
  · first | exact absurd rfl hn | exact ta_container_container w g
  · first | exact absurd rfl hn | exact ta_container_thread w g
  · first | exact absurd rfl hn | exact ta_container_segment w g
  · first | exact absurd rfl hn | exact ta_container_port w g
theorem ta_thread_no (w : World) (g : Nat) (k : Int) (hk : k = 1 ∨ k = 2 ∨ k = 3 ∨ k = 4) (hn : k ≠ 2) : (Instr.typeAssert (.iface (tyOf k) (.pointer (some ⟨g, 0, none⟩))) 61 63 true).run Try.prog w = .ok (.tuple #[.pointer none, .bool false]) w := by
  rcases hk with rfl | rfl | rfl | rfl
  · first | exact absurd rfl hn | exact ta_thread_container w g
  · first | exact absurd rfl hn | exact ta_thread_thread w g
  · first | exact absurd rfl hn | exact ta_thread_segment w g
  · first | exact absurd rfl hn | exact ta_thread_port w g
theorem ta_segment_no (w : World) (g : Nat) (k : Int) (hk : k = 1 ∨ k = 2 ∨ k = 3 ∨ k = 4) (hn : k ≠ 3) : (Instr.typeAssert (.iface (tyOf k) (.pointer (some ⟨g, 0, none⟩))) 61 106 true).run Try.prog w = .ok (.tuple #[.pointer none, .bool false]) w := by
  rcases hk with rfl | rfl | rfl | rfl
  · first | exact absurd rfl hn | exact ta_segment_container w g
  · first | exact absurd rfl hn | exact ta_segment_thread w g
  · first | exact absurd rfl hn | exact ta_segment_segment w g
  · first | exact absurd rfl hn | exact ta_segment_port w g
theorem ta_port_no (w : World) (g : Nat) (k : Int) (hk : k = 1 ∨ k = 2 ∨ k = 3 ∨ k = 4) (hn : k ≠ 4) : (Instr.typeAssert (.iface (tyOf k) (.pointer (some ⟨g, 0, none⟩))) 61 118 true).run Try.prog w = .ok (.tuple #[.pointer none, .bool false]) w := by
  rcases hk with rfl | rfl | rfl | rfl
  · first | exact absurd rfl hn | exact ta_port_container w g
  · first | exact absurd rfl hn | exact ta_port_thread w g
  · first | exact absurd rfl hn | exact ta_port_segment w g
  · first | exact absurd rfl hn | exact ta_port_port w g
/-! ### against nil -/
theorem eql_nil_container (w : World) (g : Nat) : (binOp .eql 61 (.iface 84 (.pointer (some ⟨g, 0, none⟩))) .nilIface).run Try.prog w = .ok (.bool false) w := by kernel_rfl
theorem neq_nil_container (w : World) (g : Nat) : (binOp .neq 61 (.iface 84 (.pointer (some ⟨g, 0, none⟩))) .nilIface).run Try.prog w = .ok (.bool true) w := by kernel_rfl
theorem eql_nil_thread (w : World) (g : Nat) : (binOp .eql 61 (.iface 63 (.pointer (some ⟨g, 0, none⟩))) .nilIface).run Try.prog w = .ok (.bool false) w := by kernel_rfl
theorem neq_nil_thread (w : World) (g : Nat) : (binOp .neq 61 (.iface 63 (.pointer (some ⟨g, 0, none⟩))) .nilIface).run Try.prog w = .ok (.bool true) w := by kernel_rfl
theorem eql_nil_segment (w : World) (g : Nat) : (binOp .eql 61 (.iface 106 (.pointer (some ⟨g, 0, none⟩))) .nilIface).run Try.prog w = .ok (.bool false) w := by kernel_rfl
theorem neq_nil_segment (w : World) (g : Nat) : (binOp .neq 61 (.iface 106 (.pointer (some ⟨g, 0, none⟩))) .nilIface).run Try.prog w = .ok (.bool true) w := by kernel_rfl
theorem eql_nil_port (w : World) (g : Nat) : (binOp .eql 61 (.iface 118 (.pointer (some ⟨g, 0, none⟩))) .nilIface).run Try.prog w = .ok (.bool false) w := by kernel_rfl
theorem neq_nil_port (w : World) (g : Nat) : (binOp .neq 61 (.iface 118 (.pointer (some ⟨g, 0, none⟩))) .nilIface).run Try.prog w = .ok (.bool true) w := by kernel_rfl
theorem eql_nil_ob (w : World) (g : Nat) (k : Int) (hk : k = 1 ∨ k = 2 ∨ k = 3 ∨ k = 4) : (binOp .eql 61 (.iface (tyOf k) (.pointer (some ⟨g, 0, none⟩))) .nilIface).run Try.prog w = .ok (.bool false) w := by
  rcases hk with rfl | rfl | rfl | rfl
  · exact eql_nil_container w g
  · exact eql_nil_thread w g
  · exact eql_nil_segment w g
  · exact eql_nil_port w g
theorem neq_nil_ob (w : World) (g : Nat) (k : Int) (hk : k = 1 ∨ k = 2 ∨ k = 3 ∨ k = 4) : (binOp .neq 61 (.iface (tyOf k) (.pointer (some ⟨g, 0, none⟩))) .nilIface).run Try.prog w = .ok (.bool true) w := by
  rcases hk with rfl | rfl | rfl | rfl
  · exact neq_nil_container w g
  · exact neq_nil_thread w g
  · exact neq_nil_segment w g
  · exact neq_nil_port w g
/-! ### pointers to containers -/
theorem eqIn_ptr_same (d : Nat) (w : World) (g : Nat) : (Op.equalIn (d + 1) 84 (.pointer (some ⟨g, 0, none⟩)) (.pointer (some ⟨g, 0, none⟩))).run Try.prog w = .ok true w := by
  simp [Op.equalIn, run_underlying Try.underlying84, Go.sizeOf, run_sameAddr_same, go_sem]
theorem neq_ptr_same (w : World) (g : Nat) : (binOp .neq 84 (.pointer (some ⟨g, 0, none⟩)) (.pointer (some ⟨g, 0, none⟩))).run Try.prog w = .ok (.bool false) w := by
  simp only [binOp]
  simp [Op.equal, Op.maxDepth, eqIn_ptr_same 9999]
theorem eqIn_ptr_other (d : Nat) (w : World) (a b : Nat) (ca cb : Array Value) (h : a ≠ b) (ha : Blk w a ca) (hb : Blk w b cb) : (Op.equalIn (d + 1) 84 (.pointer (some ⟨a, 0, none⟩)) (.pointer (some ⟨b, 0, none⟩))).run Try.prog w = .ok false w := by
  obtain ⟨Ta, ha⟩ := ha
  obtain ⟨Tb, hb⟩ := hb
  have h2 : (⟨a, 0, none⟩ : Addr) ≠ ⟨b, 0, none⟩ := fun e => h (by injection e)
  have := run_sameAddr_other (P := Try.prog) w (a := ⟨a, 0, none⟩) (b := ⟨b, 0, none⟩) h2 ha hb
  simp [Op.equalIn, run_underlying Try.underlying84, Go.sizeOf, this, go_sem]
  intro h0
  exact absurd h0 (by decide)
theorem neq_ptr_other (w : World) (a b : Nat) (ca cb : Array Value) (h : a ≠ b) (ha : Blk w a ca) (hb : Blk w b cb) : (binOp .neq 84 (.pointer (some ⟨a, 0, none⟩)) (.pointer (some ⟨b, 0, none⟩))).run Try.prog w = .ok (.bool true) w := by
  simp only [binOp]
  simp [Op.equal, Op.maxDepth, eqIn_ptr_other 9999 w a b ca cb h ha hb]
theorem eqIn_nil_ptr (d : Nat) (w : World) (g : Nat) : (Op.equalIn (d + 1) 84 (.pointer none) (.pointer (some ⟨g, 0, none⟩))).run Try.prog w = .ok false w := by
  simp [Op.equalIn, run_underlying Try.underlying84, go_sem]
theorem neq_nil_ptr (w : World) (g : Nat) : (binOp .neq 84 (.pointer none) (.pointer (some ⟨g, 0, none⟩))).run Try.prog w = .ok (.bool true) w := by
  simp only [binOp]
  simp [Op.equal, Op.maxDepth, eqIn_nil_ptr 9999]
theorem eql_ptr_same (w : World) (g : Nat) : (binOp .eql 84 (.pointer (some ⟨g, 0, none⟩)) (.pointer (some ⟨g, 0, none⟩))).run Try.prog w = .ok (.bool true) w := by
  simp only [binOp]
  simp [Op.equal, Op.maxDepth, eqIn_ptr_same 9999]
theorem eql_ptr_other (w : World) (a b : Nat) (ca cb : Array Value) (h : a ≠ b) (ha : Blk w a ca) (hb : Blk w b cb) : (binOp .eql 84 (.pointer (some ⟨a, 0, none⟩)) (.pointer (some ⟨b, 0, none⟩))).run Try.prog w = .ok (.bool false) w := by
  simp only [binOp]
  simp [Op.equal, Op.maxDepth, eqIn_ptr_other 9999 w a b ca cb h ha hb]
theorem eql_nil_ptr (w : World) (g : Nat) : (binOp .eql 84 (.pointer none) (.pointer (some ⟨g, 0, none⟩))).run Try.prog w = .ok (.bool false) w := by
  simp only [binOp]
  simp [Op.equal, Op.maxDepth, eqIn_nil_ptr 9999]

end Go.Proofs.Ytloppmepfkkblaa
end

section
/- The program's kernel in memory, as the plain kernel. -/
open Go Go.Proofs Go.RowKit
namespace Go.Proofs.Ytloppmepfkkblaa

/-- What stands in a slot: an interface value that points to the object in block g. -/
def obV (t : Th) (g : Nat) : Value := if t.kind = 0 then .nilIface else .iface (tyOf t.kind) (.pointer (some ⟨g, 0, none⟩))

theorem obV_nil {t : Th} {g : Nat} (h : t.kind = 0) : obV t g = .nilIface := if_pos h
theorem obV_ob {t : Th} {g : Nat} (h : t.kind ≠ 0) : obV t g = .iface (tyOf t.kind) (.pointer (some ⟨g, 0, none⟩)) := if_neg h

def ints (l : List Int) : List Value := l.map (Value.int .i64)

/-- The cells of an object; of a port: c its channel. -/
def obCells (i : Nat) (t : Th) (ws : List Int) (c : Nat) : Array Value :=
  if t.kind = 1 then #[.int .i64 i, .int .i64 1, .int .i64 t.label, .int .i64 t.A, .int .i64 t.B, .int .i64 t.G, .int .i64 t.H]
  else if t.kind = 2 then #[.int .i64 i, .int .i64 2, .int .i64 t.label, .int .i64 t.owns, .bool t.awake]
  else if t.kind = 3 then (.int .i64 i :: .int .i64 3 :: .int .i64 t.label :: ints ws).toArray
  else #[.int .i64 i, .int .i64 4, .int .i64 t.label, .chan (some c)]

/-- A port's channel, and what it holds. -/
def ChanAt (w : World) (c : Nat) (ws : List Int) : Prop := ∃ s r, w.heap[c]? = some (.chan 4 (ints ws).toArray false s r false)

/-- A pointer, or nil. -/
def ptrV : Option Nat → Value
  | none => .pointer none
  | some g => .pointer (some ⟨g, 0, none⟩)

theorem ptrV_shape (o : Option Nat) : ptrV o = .pointer none ∨ ∃ g, ptrV o = .pointer (some ⟨g, 0, none⟩) := by
  cases o with
  | none => exact Or.inl rfl
  | some d => exact Or.inr ⟨_, rfl⟩

/-- A quantum's thread: g's block, and whether it is the thread that lies in its slot. -/
def QOK (w : World) (kb : Nat) (S : Nat → Th) (ob : Nat → Nat) (o : Option Nat) (l : Option Nat) : Prop :=
  match o with
  | none => l = none
  | some g => g ≠ kb ∧ ∃ (sl : Nat) (lb ow : Nat) (aw : Bool), sl < 32 ∧ Blk w g #[.int .i64 sl, .int .i64 2, .int .i64 lb, .int .i64 ow, .bool aw] ∧ l = if (S sl).kind = 2 ∧ ob sl = g then some sl else none

/-- The program's kernel lies in block kb; its objects in the blocks ob, the channels of ports in cb, the quanta's threads in qp. -/
structure KP (w : World) (kb : Nat) (M : MS) (ob cb : Nat → Nat) (qp : Nat → Option Nat) : Prop where
  kern : ∃ cs : Array Value, Blk w kb cs ∧ cs.size = 41 ∧ (∀ i, i < 32 → cs[i]? = some (obV (M.S i) (ob i))) ∧ (∀ q, q < 8 → cs[32 + q]? = some (ptrV (qp q))) ∧ cs[40]? = some (Value.int .i64 M.ph)
  obs : ∀ i, i < 32 → (M.S i).kind ≠ 0 → Blk w (ob i) (obCells i (M.S i) (M.ws i) (cb i))
  chans : ∀ i, i < 32 → (M.S i).kind = 4 → ChanAt w (cb i) (M.ws i)
  kinds : ∀ i, i < 32 → (M.S i).kind = 0 ∨ (M.S i).kind = 1 ∨ (M.S i).kind = 2 ∨ (M.S i).kind = 3 ∨ (M.S i).kind = 4
  inj : ∀ i j, i < 32 → j < 32 → (M.S i).kind ≠ 0 → (M.S j).kind ≠ 0 → ob i = ob j → i = j
  cinj : ∀ i j, i < 32 → j < 32 → (M.S i).kind = 4 → (M.S j).kind = 4 → cb i = cb j → i = j
  off : ∀ i, i < 32 → (M.S i).kind ≠ 0 → ob i ≠ kb
  quanta : ∀ q, q < 8 → QOK w kb M.S ob (qp q) (M.lq q)
  ph8 : M.ph < 8
  segs : ∀ i, i < 32 → (M.S i).kind = 3 → (M.ws i).length = 8
  ports : ∀ i, i < 32 → (M.S i).kind = 4 → (M.ws i).length ≤ 4
  wf : ∀ i, i < 32 → (M.S i).wf

/-- The kernel's own blocks. -/
def Foot (kb : Nat) (M : MS) (ob cb : Nat → Nat) (qp : Nat → Option Nat) (k : Nat) : Prop :=
  k = kb ∨ (∃ i, i < 32 ∧ (M.S i).kind ≠ 0 ∧ ob i = k) ∨ (∃ i, i < 32 ∧ (M.S i).kind = 4 ∧ cb i = k) ∨ ∃ q, q < 8 ∧ qp q = some k

theorem ChanAt.lt {w : World} {c : Nat} {ws : List Int} (h : ChanAt w c ws) : c < w.heap.size := by
  obtain ⟨s, r, h1⟩ := h
  exact (Array.getElem?_eq_some_iff.1 h1).1
theorem ChanAt.same {w w' : World} {c : Nat} {ws : List Int} (h : ChanAt w c ws) (e : w'.heap[c]? = w.heap[c]?) : ChanAt w' c ws := by
  obtain ⟨s, r, h1⟩ := h
  exact ⟨s, r, e.trans h1⟩
theorem ChanAt.ne {w : World} {c b : Nat} {ws : List Int} {cs : Array Value} (h : ChanAt w c ws) (hb : Blk w b cs) : c ≠ b := by
  obtain ⟨s, r, h1⟩ := h
  obtain ⟨T, h2⟩ := hb
  intro e
  rw [e, h2] at h1
  cases h1
theorem ChanAt.apart {w : World} {c : Nat} {ws : List Int} (h : ChanAt w c ws) {p : Addr} (hp : c ≠ p.block) (v : Value) : ChanAt (w.setCell p v) c ws := h.same (Below.heap_setCell _ _ _ _ hp)

section
variable {w : World} {kb : Nat} {M : MS} {ob cb : Nat → Nat} {qp : Nat → Option Nat}

theorem KP.lt (h : KP w kb M ob cb qp) : kb < w.heap.size := by
  obtain ⟨cs, h1, _⟩ := h.kern
  exact h1.lt

theorem KP.slot (h : KP w kb M ob cb qp) {i : Nat} (hi : i < 32) : w.cell? ⟨kb, i, none⟩ = some (obV (M.S i) (ob i)) := by
  obtain ⟨cs, h1, _, h3, _⟩ := h.kern
  rw [h1.cell, h3 i hi]

theorem KP.slot_nil (h : KP w kb M ob cb qp) {i : Nat} (hi : i < 32) (hk : (M.S i).kind = 0) : w.cell? ⟨kb, i, none⟩ = some .nilIface := by
  rw [h.slot hi, obV_nil hk]
theorem KP.slot_ob (h : KP w kb M ob cb qp) {i : Nat} (hi : i < 32) (hk : (M.S i).kind ≠ 0) : w.cell? ⟨kb, i, none⟩ = some (.iface (tyOf (M.S i).kind) (.pointer (some ⟨ob i, 0, none⟩))) := by
  rw [h.slot hi, obV_ob hk]

theorem KP.quant (h : KP w kb M ob cb qp) {q : Nat} (hq : q < 8) : w.cell? ⟨kb, 32 + q, none⟩ = some (ptrV (qp q)) := by
  obtain ⟨cs, h1, _, _, h4, _⟩ := h.kern
  rw [h1.cell, h4 q hq]

theorem KP.phase (h : KP w kb M ob cb qp) : w.cell? ⟨kb, 40, none⟩ = some (.int .i64 M.ph) := by
  obtain ⟨cs, h1, _, _, _, h5⟩ := h.kern
  rw [h1.cell, h5]

theorem KP.frozen (h : KP w kb M ob cb qp) (n : Nat) : w.frozen? ⟨kb, n, none⟩ = false := by
  obtain ⟨cs, h1, _⟩ := h.kern
  exact h1.frozen n

theorem KP.kind14 (h : KP w kb M ob cb qp) {i : Nat} (hi : i < 32) (hk : (M.S i).kind ≠ 0) : (M.S i).kind = 1 ∨ (M.S i).kind = 2 ∨ (M.S i).kind = 3 ∨ (M.S i).kind = 4 := by
  have := h.kinds i hi
  omega

/-- What all objects have. -/
theorem KP.base (h : KP w kb M ob cb qp) {i : Nat} (hi : i < 32) (hk : (M.S i).kind ≠ 0) :
    w.cell? ⟨ob i, 0, none⟩ = some (.int .i64 i) ∧ w.cell? ⟨ob i, 1, none⟩ = some (.int .i64 (M.S i).kind) ∧ w.cell? ⟨ob i, 2, none⟩ = some (.int .i64 (M.S i).label) := by
  have hb := h.obs i hi hk
  rw [hb.cell, hb.cell, hb.cell]
  unfold obCells
  rcases h.kind14 hi hk with e | e | e | e <;> simp [e]

theorem KP.cont (h : KP w kb M ob cb qp) {i : Nat} (hi : i < 32) (hk : (M.S i).kind = 1) :
    w.cell? ⟨ob i, 3, none⟩ = some (.int .i64 (M.S i).A) ∧ w.cell? ⟨ob i, 4, none⟩ = some (.int .i64 (M.S i).B) ∧ w.cell? ⟨ob i, 5, none⟩ = some (.int .i64 (M.S i).G) ∧ w.cell? ⟨ob i, 6, none⟩ = some (.int .i64 (M.S i).H) := by
  have hb := h.obs i hi (by omega)
  rw [hb.cell, hb.cell, hb.cell, hb.cell]
  unfold obCells
  simp [hk]

theorem KP.thr (h : KP w kb M ob cb qp) {i : Nat} (hi : i < 32) (hk : (M.S i).kind = 2) :
    w.cell? ⟨ob i, 3, none⟩ = some (.int .i64 (M.S i).owns) ∧ w.cell? ⟨ob i, 4, none⟩ = some (.bool (M.S i).awake) := by
  have hb := h.obs i hi (by omega)
  rw [hb.cell, hb.cell]
  unfold obCells
  simp [hk]

theorem KP.word (h : KP w kb M ob cb qp) {i : Nat} (hi : i < 32) (hk : (M.S i).kind = 3) {j : Nat} {x : Int} (hx : (M.ws i)[j]? = some x) :
    w.cell? ⟨ob i, 3 + j, none⟩ = some (.int .i64 x) := by
  have hb := h.obs i hi (by omega)
  rw [hb.cell]
  unfold obCells ints
  rw [if_neg (by omega), if_neg (by omega), if_pos hk]
  have e : 3 + j = j + 1 + 1 + 1 := by omega
  rw [e]
  simp [hx]

theorem KP.chan (h : KP w kb M ob cb qp) {i : Nat} (hi : i < 32) (hk : (M.S i).kind = 4) : w.cell? ⟨ob i, 3, none⟩ = some (.chan (some (cb i))) := by
  have hb := h.obs i hi (by omega)
  rw [hb.cell]
  unfold obCells
  simp [hk]

theorem KP.oblt (h : KP w kb M ob cb qp) {i : Nat} (hi : i < 32) (hk : (M.S i).kind ≠ 0) : ob i < w.heap.size := (h.obs i hi hk).lt
theorem KP.obfrozen (h : KP w kb M ob cb qp) {i : Nat} (hi : i < 32) (hk : (M.S i).kind ≠ 0) (n : Nat) : w.frozen? ⟨ob i, n, none⟩ = false := (h.obs i hi hk).frozen n

theorem KP.foot_lt (h : KP w kb M ob cb qp) {k : Nat} (hk : Foot kb M ob cb qp k) : k < w.heap.size := by
  rcases hk with rfl | ⟨i, hi, h1, rfl⟩ | ⟨i, hi, h1, rfl⟩ | ⟨q, hq, h1⟩
  · exact h.lt
  · exact h.oblt hi h1
  · exact (h.chans i hi h1).lt
  · have := h.quanta q hq
    rw [h1] at this
    obtain ⟨_, sl, lb, ow, aw, _, hb, _⟩ := this
    exact hb.lt

theorem QOK.same {w' : World} {S : Nat → Th} {o l : Option Nat} (h : QOK w kb S ob o l) (e : ∀ g, o = some g → w'.heap[g]? = w.heap[g]?) : QOK w' kb S ob o l := by
  unfold QOK at *
  cases o with
  | none => exact h
  | some g =>
    obtain ⟨a1, sl, lb, ow, aw, a2, a3, a4⟩ := h
    exact ⟨a1, sl, lb, ow, aw, a2, a3.same (e g rfl), a4⟩

theorem KP.same {w' : World} (h : KP w kb M ob cb qp) (e : ∀ k, Foot kb M ob cb qp k → w'.heap[k]? = w.heap[k]?) : KP w' kb M ob cb qp := by
  obtain ⟨cs, h1, h2⟩ := h.kern
  exact ⟨⟨cs, h1.same (e kb (Or.inl rfl)), h2⟩, fun i hi hk => (h.obs i hi hk).same (e _ (Or.inr (Or.inl ⟨i, hi, hk, rfl⟩))), fun i hi hk => (h.chans i hi hk).same (e _ (Or.inr (Or.inr (Or.inl ⟨i, hi, hk, rfl⟩)))),
    h.kinds, h.inj, h.cinj, h.off, fun q hq => (h.quanta q hq).same fun g hg => e g (Or.inr (Or.inr (Or.inr ⟨q, hq, hg⟩))), h.ph8, h.segs, h.ports, h.wf⟩

theorem KP.fr {P : Nat → Prop} {w' : World} (h : KP w kb M ob cb qp) (f : Fr P w w') (hp : ∀ k, Foot kb M ob cb qp k → ¬ P k) : KP w' kb M ob cb qp :=
  h.same fun k hk => f.block k (h.foot_lt hk) (hp k hk)
theorem KP.below {w' : World} (h : KP w kb M ob cb qp) (f : Below w.heap.size w w') : KP w' kb M ob cb qp :=
  h.same fun k hk => f.block k (h.foot_lt hk)

/-- A live thread of a quantum. -/
theorem KP.live (h : KP w kb M ob cb qp) {q s : Nat} (hq : q < 8) (hs : M.lq q = some s) : s < 32 ∧ (M.S s).kind = 2 ∧ qp q = some (ob s) := by
  have hQ := h.quanta q hq
  unfold QOK at hQ
  cases hqp : qp q with
  | none => rw [hqp] at hQ; rw [hQ] at hs; cases hs
  | some g =>
    rw [hqp] at hQ
    obtain ⟨_, sl, lb, ow, aw, h1, _, h2⟩ := hQ
    rw [hs] at h2
    split at h2
    · rename_i hc
      injection h2 with h2
      subst h2
      exact ⟨h1, hc.1, by rw [hc.2]⟩
    · cases h2

/-- A quantum's thread is a thread: its block is no other object's. -/
theorem KP.qne (h : KP w kb M ob cb qp) {q g i : Nat} (hq : q < 8) (hg : qp q = some g) (hi : i < 32) (hk : (M.S i).kind ≠ 0) (h2 : (M.S i).kind ≠ 2) : g ≠ ob i := by
  have hQ := h.quanta q hq
  rw [hg] at hQ
  obtain ⟨_, sl, lb, ow, aw, _, hb, _⟩ := hQ
  intro e
  have hb2 := h.obs i hi hk
  rw [← e] at hb2
  have c1 := hb.cell 1
  rw [hb2.cell 1] at c1
  unfold obCells at c1
  rcases h.kind14 hi hk with e | e | e | e
  · simp [e] at c1
  · exact h2 e
  · simp [e] at c1
  · simp [e] at c1
theorem KP.qcne (h : KP w kb M ob cb qp) {q g i : Nat} (hq : q < 8) (hg : qp q = some g) (hi : i < 32) (hk : (M.S i).kind = 4) : g ≠ cb i := by
  have hQ := h.quanta q hq
  rw [hg] at hQ
  obtain ⟨_, sl, lb, ow, aw, _, hb, _⟩ := hQ
  exact ((h.chans i hi hk).ne hb).symm
end

/-- The kernel, whatever its blocks; F: all of them. -/
def Ker (w : World) (kb : Nat) (M : MS) (F : Nat → Prop) : Prop := ∃ ob cb qp, KP w kb M ob cb qp ∧ F = Foot kb M ob cb qp

end Go.Proofs.Ytloppmepfkkblaa
end

section
/- What the program's 'holds', 'threadOf' and 'current' do. -/
open Go Go.Proofs Go.RowKit
namespace Go.Proofs.Ytloppmepfkkblaa

set_option maxHeartbeats 1000000 in
theorem holds_gen (w : World) (kb g sl : Nat) (k l : Int) (v : Value) (r : Bool) (hv : v = .nilIface ∨ ∃ T a, v = .iface T (.pointer (some ⟨a, 0, none⟩))) (hsl : sl < 32) (hk : w.cell? ⟨kb, sl, none⟩ = some v)
    (h0 : w.cell? ⟨g, 0, none⟩ = some (.int .i64 sl)) (h1 : w.cell? ⟨g, 1, none⟩ = some (.int .i64 k)) (h2 : w.cell? ⟨g, 2, none⟩ = some (.int .i64 l)) (hkb : kb < w.heap.size) (hg : g < w.heap.size)
    (hq : ∀ x : Later w, (binOp .eql 61 v (.iface 63 (.pointer (some ⟨g, 0, none⟩)))).run Try.prog x.1 = .ok (.bool r) x.1) :
    Calls Try.prog 55 #[.pointer (some ⟨kb, 0, none⟩), .iface 63 (.pointer (some ⟨g, 0, none⟩))] w fun e w' => e = .returned (.bool r) ∧ Below w.heap.size w w' := by
  have k0 := later_cell hk hkb
  have m0 : ∀ x : Later w, (method 244 63 (.pointer (some ⟨g, 0, none⟩)) "cloister/cloister.place").run Try.prog x.1 = .ok (25, .agg #[.int .i64 sl, .int .i64 k, .int .i64 l]) x.1 :=
    fun x => method_place_thread x.1 g _ _ _ (later_cell h0 hg x) (later_cell h1 hg x) (later_cell h2 hg x)
  have hsi : (sl : Int) < 32 := by omega
  have hs0 : (0 : Int) ≤ (sl : Int) := by omega
  clear hk h0 h1 h2
  rcases hv with rfl | ⟨T, a, rfl⟩
  · go_enter Try.func55, Try.ntmps55
    go_wp2_with fail
    have hne : Nonempty (Later w) := ⟨⟨w, Below.refl _ _⟩⟩
    refine wp_region_later (by kernel_rfl) (by kernel_rfl) ?_
    repeat (go_big_quiet_step (((go_at_call 25; exact Calls.later_of (place_any _ _ _ _)))))
    refine wpQuiet_nil ?_
    rintro _ ⟨wl, rfl⟩
    clear hne
    go_wp2_with fail
    go_ret
    exact ⟨rfl, wl.2⟩
  · go_enter Try.func55, Try.ntmps55
    go_wp2_with fail
    have hne : Nonempty (Later w) := ⟨⟨w, Below.refl _ _⟩⟩
    refine wp_region_later (by kernel_rfl) (by kernel_rfl) ?_
    repeat (go_big_quiet_step (((go_at_call 25; exact Calls.later_of (place_any _ _ _ _)))))
    refine wpQuiet_nil ?_
    rintro _ ⟨wl, rfl⟩
    clear hne
    go_wp2_with fail
    go_ret
    exact ⟨rfl, wl.2⟩

theorem eql_ob_thread_nil (w : World) (g : Nat) : (binOp .eql 61 .nilIface (.iface 63 (.pointer (some ⟨g, 0, none⟩)))).run Try.prog w = .ok (.bool false) w := by kernel_rfl
theorem eql_ob_thread_1 (w : World) (a g : Nat) : (binOp .eql 61 (.iface 84 (.pointer (some ⟨a, 0, none⟩))) (.iface 63 (.pointer (some ⟨g, 0, none⟩)))).run Try.prog w = .ok (.bool false) w := by kernel_rfl
theorem eql_ob_thread_3 (w : World) (a g : Nat) : (binOp .eql 61 (.iface 106 (.pointer (some ⟨a, 0, none⟩))) (.iface 63 (.pointer (some ⟨g, 0, none⟩)))).run Try.prog w = .ok (.bool false) w := by kernel_rfl
theorem eql_ob_thread_4 (w : World) (a g : Nat) : (binOp .eql 61 (.iface 118 (.pointer (some ⟨a, 0, none⟩))) (.iface 63 (.pointer (some ⟨g, 0, none⟩)))).run Try.prog w = .ok (.bool false) w := by kernel_rfl
theorem eql_ob_thread_same (w : World) (g : Nat) : (binOp .eql 61 (.iface 63 (.pointer (some ⟨g, 0, none⟩))) (.iface 63 (.pointer (some ⟨g, 0, none⟩)))).run Try.prog w = .ok (.bool true) w :=
  run_eql_iface_ptr_same w ⟨g, 0, none⟩ Try.underlying61 Try.underlying63 (i := Try.t63) (by kernel_rfl) (by kernel_rfl) (j := Try.t72) (by kernel_rfl)
theorem eql_ob_thread_other (w : World) (a g : Nat) (ca cg : Array Value) (hne : a ≠ g) (ha : Blk w a ca) (hg : Blk w g cg) : (binOp .eql 61 (.iface 63 (.pointer (some ⟨a, 0, none⟩))) (.iface 63 (.pointer (some ⟨g, 0, none⟩)))).run Try.prog w = .ok (.bool false) w := by
  obtain ⟨Ta, ha⟩ := ha
  obtain ⟨Tg, hg⟩ := hg
  have h2 : (⟨a, 0, none⟩ : Addr) ≠ ⟨g, 0, none⟩ := fun e => hne (by injection e)
  exact run_eql_iface_ptr_other w Try.underlying61 Try.underlying63 (i := Try.t63) (by kernel_rfl) (by kernel_rfl) (j := Try.t72) (by kernel_rfl) (by decide) h2 ha hg

section
variable {w : World} {kb : Nat} {M : MS} {ob cb : Nat → Nat} {qp : Nat → Option Nat}

/-- Is the thread of a quantum still there? -/
theorem holds_any (h : KP w kb M ob cb qp) {q g : Nat} (hq : q < 8) (hg : qp q = some g) :
    Calls Try.prog 55 #[.pointer (some ⟨kb, 0, none⟩), .iface 63 (.pointer (some ⟨g, 0, none⟩))] w fun e w' => e = .returned (.bool (M.lq q).isSome) ∧ Below w.heap.size w w' := by
  have hQ := h.quanta q hq
  rw [hg] at hQ
  obtain ⟨_, sl, lb, ow, aw, hsl, hb, hl⟩ := hQ
  refine holds_gen w kb g sl 2 lb _ _ (by unfold obV; split; exact Or.inl rfl; exact Or.inr ⟨_, _, rfl⟩) hsl (h.slot hsl) (by rw [hb.cell]; rfl) (by rw [hb.cell]; rfl) (by rw [hb.cell]; rfl) h.lt hb.lt (fun x => ?_)
  by_cases hk0 : (M.S sl).kind = 0
  · rw [obV_nil hk0, hl, if_neg (by omega)]
    exact eql_ob_thread_nil _ _
  · rw [obV_ob hk0]
    by_cases hk2 : (M.S sl).kind = 2
    · rw [hk2, tyOf2]
      by_cases he : ob sl = g
      · rw [hl, if_pos ⟨hk2, he⟩, he]
        exact eql_ob_thread_same _ _
      · rw [hl, if_neg (fun hh => he hh.2)]
        exact eql_ob_thread_other _ _ _ _ _ he ((h.obs sl hsl hk0).below x.2 (h.oblt hsl hk0)) (hb.below x.2 hb.lt)
    · rw [hl, if_neg (fun hh => hk2 hh.1)]
      rcases h.kind14 hsl hk0 with e | e | e | e
      · rw [e, tyOf1]; exact eql_ob_thread_1 _ _ _
      · exact absurd e hk2
      · rw [e, tyOf3]; exact eql_ob_thread_3 _ _ _
      · rw [e, tyOf4]; exact eql_ob_thread_4 _ _ _

set_option maxHeartbeats 1000000 in
theorem threadOf_any (h : KP w kb M ob cb qp) {q : Nat} (hq : q < 8) :
    Calls Try.prog 32 #[.pointer (some ⟨kb, 0, none⟩), .int .i64 q] w fun e w' => e = .returned (ptrV ((M.lq q).map ob)) ∧ Below w.heap.size w w' := by
  have q0 := h.quant hq
  have hq8 : (q : Int) < 8 := by omega
  have hq0 : (0 : Int) ≤ (q : Int) := by omega
  cases hqp : qp q with
  | none =>
    have hQ := h.quanta q hq
    rw [hqp] at hQ q0
    have hl : M.lq q = none := hQ
    rw [hl]
    simp only [ptrV, Option.map] at q0 ⊢
    clear hQ hl h hqp
    go_enter Try.func32, Try.ntmps32
    go_wp2_with fail
    go_ret
    exact ⟨rfl, by (repeat (first | exact Below.refl _ _ | refine Below.drew ?_ | refine below_drewN ?_ _ | refine Below.alloc ?_ (by simp <;> omega) _))⟩
  | some g =>
    rw [hqp] at q0
    simp only [ptrV] at q0
    have HH := hide (fun w' hb => holds_any (h.below (w' := w') hb) hq hqp)
    have HL : Hid (ptrV ((M.lq q).map ob) = if (M.lq q).isSome = true then .pointer (some ⟨g, 0, none⟩) else .pointer none) := by
      unfold Hid
      cases hl : M.lq q with
      | none => rfl
      | some s =>
        have := (h.live hq hl).2.2
        rw [hqp] at this
        injection this with this
        simp [ptrV, this]
    rw [HL.out]
    clear h hqp HL
    generalize (M.lq q).isSome = yes at *
    cases yes with
    | true =>
      rw [if_pos rfl]
      go_enter Try.func32, Try.ntmps32
      go_wp2_with fail
      refine (HH.out _ (by (repeat (first | exact Below.refl _ _ | refine Below.drew ?_ | refine below_drewN ?_ _ | refine Below.alloc ?_ (by simp <;> omega) _)))).mono ?_
      rintro e w1 ⟨rfl, hb⟩
      go_wp2_with fail
      go_ret
      exact ⟨rfl, hb⟩
    | false =>
      rw [if_neg (by decide)]
      go_enter Try.func32, Try.ntmps32
      go_wp2_with fail
      refine (HH.out _ (by (repeat (first | exact Below.refl _ _ | refine Below.drew ?_ | refine below_drewN ?_ _ | refine Below.alloc ?_ (by simp <;> omega) _)))).mono ?_
      rintro e w1 ⟨rfl, hb⟩
      go_wp2_with fail
      go_ret
      exact ⟨rfl, hb⟩

set_option maxHeartbeats 1000000 in
theorem kcurrent (h : KP w kb M ob cb qp) :
    Calls Try.prog 24 #[.pointer (some ⟨kb, 0, none⟩)] w fun e w' => e = .returned (ptrV (M.cur.map ob)) ∧ Below w.heap.size w w' := by
  have p0 := h.phase
  have hp8 : (M.ph : Int) < 8 := by have := h.ph8; omega
  have HT := hide (fun w' hb => threadOf_any (h.below (w' := w') hb) h.ph8)
  cases hl : M.lq M.ph with
  | none =>
    have hc : M.cur = none := by unfold MS.cur; rw [hl]
    rw [hl] at HT
    rw [hc]
    simp only [ptrV, Option.map] at HT ⊢
    clear h hl hc
    go_enter Try.func24, Try.ntmps24
    go_wp2_with fail
    refine (HT.out _ (by (repeat (first | exact Below.refl _ _ | refine Below.drew ?_ | refine below_drewN ?_ _ | refine Below.alloc ?_ (by simp <;> omega) _)))).mono ?_
    rintro e w1 ⟨rfl, hb⟩
    go_wp2_with fail
    go_ret
    exact ⟨rfl, hb⟩
  | some s =>
    obtain ⟨hs, hk, -⟩ := h.live h.ph8 hl
    have HA : Hid (∀ w', Below w.heap.size w w' → w'.cell? ⟨ob s, 4, none⟩ = some (.bool (M.S s).awake)) := fun w' hb => ((h.below hb).thr hs hk).2
    have hc : M.cur = if (M.S s).awake = true then some s else none := by unfold MS.cur; rw [hl]
    rw [hl] at HT
    rw [hc]
    simp only [ptrV, Option.map] at HT
    clear h hl hc hk
    generalize (M.S s).awake = aw at *
    cases aw with
    | true =>
      rw [if_pos rfl]
      simp only [ptrV, Option.map]
      go_enter Try.func24, Try.ntmps24
      go_wp2_with fail
      refine (HT.out _ (by (repeat (first | exact Below.refl _ _ | refine Below.drew ?_ | refine below_drewN ?_ _ | refine Below.alloc ?_ (by simp <;> omega) _)))).mono ?_
      rintro e w1 ⟨rfl, hb⟩
      have c4 := HA.out w1 hb
      go_wp2_with fail
      go_ret
      exact ⟨rfl, hb⟩
    | false =>
      rw [if_neg (by decide)]
      simp only [ptrV, Option.map]
      go_enter Try.func24, Try.ntmps24
      go_wp2_with fail
      refine (HT.out _ (by (repeat (first | exact Below.refl _ _ | refine Below.drew ?_ | refine below_drewN ?_ _ | refine Below.alloc ?_ (by simp <;> omega) _)))).mono ?_
      rintro e w1 ⟨rfl, hb⟩
      have c4 := HA.out w1 hb
      go_wp2_with fail
      go_ret
      exact ⟨rfl, hb⟩
end

end Go.Proofs.Ytloppmepfkkblaa
end

section
/- What the program's 'home', 'quantumHome' and 'innermost' do: the container in which a slot, or a quantum, lies. -/
open Go Go.Proofs Go.RowKit
namespace Go.Proofs.Ytloppmepfkkblaa

theorem khas (w : World) (a b n : Int) :
    Calls Try.prog 71 #[.agg #[.int .i64 a, .int .i64 b], .int .i64 n] w fun e w' => e = .returned (.bool (decide (a ≤ n ∧ n < b))) ∧ Below w.heap.size w w' := by
  by_cases h : a ≤ n ∧ n < b
  · rw [decide_eq_true h]; exact has_yes w a b n h.1 h.2
  · rw [decide_eq_false h]; exact has_no w a b n (by omega)

set_option maxHeartbeats 1000000 in
theorem homeFn (w : World) (c g : Nat) (a b n : Int) (h3 : w.cell? ⟨c, 3, none⟩ = some (.int .i64 a)) (h4 : w.cell? ⟨c, 4, none⟩ = some (.int .i64 b)) (h0 : w.cell? ⟨g, 0, none⟩ = some (.int .i64 n)) (hc : c < w.heap.size) (hg : g < w.heap.size) :
    Calls Try.prog 74 #[.pointer (some ⟨c, 0, none⟩), .pointer (some ⟨g, 0, none⟩)] w fun e w' => e = .returned (.bool (decide (a ≤ n ∧ n < b))) ∧ Below w.heap.size w w' := by
  have u3 := later_cell h3 hc
  have u4 := later_cell h4 hc
  have u0 := later_cell h0 hg
  clear h3 h4 h0
  go_enter Try.func74, Try.ntmps74
  go_wp2_with fail
  have hne : Nonempty (Later w) := ⟨⟨w, Below.refl _ _⟩⟩
  refine wp_region_later (by kernel_rfl) (by kernel_rfl) ?_
  repeat (go_big_quiet_step (((go_at_call 71; exact Calls.later_of (khas _ _ _ _)))))
  refine wpQuiet_nil ?_
  rintro _ ⟨wl, rfl⟩
  clear hne
  go_wp2_with fail
  go_ret
  exact ⟨rfl, wl.2⟩

set_option maxHeartbeats 1000000 in
theorem quantumFn (w : World) (c g : Nat) (a b n : Int) (h3 : w.cell? ⟨c, 5, none⟩ = some (.int .i64 a)) (h4 : w.cell? ⟨c, 6, none⟩ = some (.int .i64 b)) (h0 : w.cell? ⟨g, 0, none⟩ = some (.int .i64 n)) (hc : c < w.heap.size) (hg : g < w.heap.size) :
    Calls Try.prog 70 #[.pointer (some ⟨c, 0, none⟩), .pointer (some ⟨g, 0, none⟩)] w fun e w' => e = .returned (.bool (decide (a ≤ n ∧ n < b))) ∧ Below w.heap.size w w' := by
  have u3 := later_cell h3 hc
  have u4 := later_cell h4 hc
  have u0 := later_cell h0 hg
  clear h3 h4 h0
  go_enter Try.func70, Try.ntmps70
  go_wp2_with fail
  have hne : Nonempty (Later w) := ⟨⟨w, Below.refl _ _⟩⟩
  refine wp_region_later (by kernel_rfl) (by kernel_rfl) ?_
  repeat (go_big_quiet_step (((go_at_call 71; exact Calls.later_of (khas _ _ _ _)))))
  refine wpQuiet_nil ?_
  rintro _ ⟨wl, rfl⟩
  clear hne
  go_wp2_with fail
  go_ret
  exact ⟨rfl, wl.2⟩

def slotVs (S : Nat → Th) (ob : Nat → Nat) : List Value := (List.range 32).map fun i => obV (S i) (ob i)

theorem slotVs_at {S : Nat → Th} {ob : Nat → Nat} {k : Nat} (hk : k < 32) : (slotVs S ob)[k]? = some (obV (S k) (ob k)) := by
  unfold slotVs
  simp [hk]

theorem run_index_slots (w : World) (S : Nat → Th) (ob : Nat → Nat) (k : Nat) (hk : k < 32) :
    (Instr.index 62 (.agg (slotVs S ob).toArray) (.int .i64 k)).run Try.prog w = .ok (obV (S k) (ob k)) w := by
  have hs := slotVs_at (S := S) (ob := ob) hk
  simp [Instr.index, go_sem, part, hs]
  intro h
  omega

/-- The search, as a slot or none. -/
def sk (S : Nat → Th) (lo hi : Th → Int) (s : Int) (k : Nat) : Option Nat := if seek S lo hi s k < 0 then none else some (seek S lo hi s k).toNat

section
variable {S : Nat → Th} {lo hi : Th → Int} {s : Int} {k : Nat}
theorem sk_lies : sk S Th.A Th.B s 32 = lies S s := rfl
theorem sk_has : sk S Th.G Th.H s 32 = has S s := rfl
theorem sk_skip (h : (S k).kind ≠ 1 ∨ s < lo (S k) ∨ hi (S k) ≤ s) : sk S lo hi s (k + 1) = sk S lo hi s k := by
  unfold sk
  rw [seek_skip (lo := lo) (hi := hi) h]
theorem sk_seek {n : Nat} (h : sk S lo hi s k = some n) : seek S lo hi s k = n := by
  unfold sk at h
  split at h
  · cases h
  · injection h with h
    omega
theorem sk_none (h : sk S lo hi s k = none) : seek S lo hi s k < 0 := by
  unfold sk at h
  split at h
  · assumption
  · cases h
theorem sk_some {n : Nat} (h : seek S lo hi s k = n) : sk S lo hi s k = some n := by
  unfold sk
  rw [h, if_neg (by omega), Int.toNat_natCast]
theorem sk_take (h1 : (S k).kind = 1) (h2 : lo (S k) ≤ s) (h3 : s < hi (S k)) (h : sk S lo hi s k = none ∨ ∃ n, sk S lo hi s k = some n ∧ (S k).B - (S k).A < (S n).B - (S n).A) : sk S lo hi s (k + 1) = some k := by
  refine sk_some (seek_take h1 h2 h3 ?_)
  rcases h with h | ⟨n, h, h'⟩
  · exact Or.inl (sk_none h)
  · right
    rw [sk_seek h, Int.toNat_natCast]
    exact h'
theorem sk_stay {n : Nat} (hn : sk S lo hi s k = some n) (h : (S n).B - (S n).A ≤ (S k).B - (S k).A) : sk S lo hi s (k + 1) = some n := sk_some (seek_stay (sk_seek hn) h)
end
theorem sk_at {S : Nat → Th} {lo hi : Th → Int} {s : Int} : ∀ {k n : Nat}, sk S lo hi s k = some n → k ≤ 32 → n < 32 ∧ (S n).kind = 1
  | 0, n, h, _ => by simp [sk, seek] at h
  | k + 1, n, h, hk => by
    by_cases h1 : (S k).kind ≠ 1 ∨ s < lo (S k) ∨ hi (S k) ≤ s
    · rw [sk_skip h1] at h
      exact sk_at h (by omega)
    · cases hs : sk S lo hi s k with
      | none =>
        rw [sk_take (by omega) (by omega) (by omega) (Or.inl hs)] at h
        injection h with h
        subst h
        exact ⟨by omega, by omega⟩
      | some m =>
        by_cases h2 : (S k).B - (S k).A < (S m).B - (S m).A
        · rw [sk_take (by omega) (by omega) (by omega) (Or.inr ⟨m, hs, h2⟩)] at h
          injection h with h
          subst h
          exact ⟨by omega, by omega⟩
        · rw [sk_stay hs (by omega)] at h
          injection h with h
          subst h
          exact sk_at hs (by omega)

set_option maxRecDepth 100000 in
set_option maxHeartbeats 4000000 in
theorem innermost_any {w : World} {kb : Nat} {M : MS} {ob cb : Nat → Nat} {qp : Nat → Option Nat} (h : KP w kb M ob cb qp) (lo hi : Th → Int) (s : Int) (fc g : Nat)
    (hcf : ∀ args w, (callFunc fc args).run Try.prog w = .ok (.enter fc args) w)
    (hF : ∀ w' i, Below w.heap.size w w' → i < 32 → (M.S i).kind = 1 → Calls Try.prog fc #[.pointer (some ⟨ob i, 0, none⟩), .pointer (some ⟨g, 0, none⟩)] w' fun e w'' => e = .returned (.bool (decide (lo (M.S i) ≤ s ∧ s < hi (M.S i)))) ∧ Below w'.heap.size w' w'') :
    Calls Try.prog 69 #[.pointer (some ⟨kb, 0, none⟩), .func (Fn.func fc) #[] #[.pointer (some ⟨g, 0, none⟩)]] w fun e w' => e = .returned (ptrV ((sk M.S lo hi s 32).map ob)) ∧ Below w.heap.size w w' := by
  have hR : w.rangeAt kb 0 (slotVs M.S ob) := fun j v hv => by
    have hj : j < 32 := by
      have := (List.getElem?_eq_some_iff.1 hv).1
      simpa [slotVs] using this
    rw [slotVs_at hj] at hv
    injection hv with hv
    rw [← hv, Nat.zero_add]
    exact h.slot hj
  have HR := hide hR
  have H := hide h
  have HF := hide hF
  have hlt := h.lt
  clear hR h hF
  go_enter Try.func69, Try.ntmps69
  go_wp2_with (refine wpList_load_mid rfl 62 _ rfl kb 0 rfl (slotVs M.S ob) _ HR.out Try.underlying62 rfl (by kernel_rfl) ?_)
  go_loopw [5, 14] (fun best c w' => ∃ k : Nat, k ≤ 32 ∧ c = .int .i64 k ∧ best = ptrV ((sk M.S lo hi s k).map ob) ∧ Below w.heap.size w w') (fun _ c _ => 32 - (intOf c).toNat)
  case atStart => exact ⟨0, by omega, rfl, rfl, Below.refl _ _⟩
  case round =>
    obtain ⟨k, hk, rfl, rfl, hb⟩ := hrel
    by_cases hk32 : k < 32
    · have hP := H.out.below hb
      have hix : ∀ w, (Instr.index 62 (.agg (slotVs M.S ob).toArray) (.int .i64 k)).run Try.prog w = .ok (obV (M.S k) (ob k)) w := fun w => run_index_slots w M.S ob k hk32
      have HB := hide hb
      have hki : (k : Int) < 32 := by omega
      have HP := hide hP
      clear hb hP
      by_cases e0 : (M.S k).kind = 0
      · rw [obV_nil e0] at hix
        have E1 := hide (sk_skip (S := M.S) (lo := lo) (hi := hi) (s := s) (k := k) (Or.inl (by omega)))
        clear e0
        have hta := ta_container_nil
        go_wp2_with fail
        exact ⟨⟨k + 1, by omega, by go_num, by rw [E1.out], HB.out⟩, by simp [intOf]; omega⟩
      · rw [obV_ob e0] at hix
        by_cases e1 : (M.S k).kind = 1
        · rw [e1, tyOf1] at hix
          have hta := fun w => ta_container_container w (ob k)
          have HFk := hide (fun w' hb' => HF.out w' k hb' hk32 e1)
          have E := hide e1
          clear e1 e0
          by_cases hin : lo (M.S k) ≤ s ∧ s < hi (M.S k)
          · have HIN := hide hin
            rw [decide_eq_true hin] at HFk
            clear hin
            go_wp2_with fail
            refine (HFk.out _ HB.out).mono ?_
            rintro e w1 ⟨rfl, hb1⟩
            have HB1 := hide (HB.out.trans (hb1.mono HB.out.size))
            have HP1 := hide (HP.out.below hb1)
            obtain ⟨d3, d4, -, -⟩ := HP1.out.cont hk32 E.out
            have hol1 := HP1.out.oblt hk32 (by have := E.out; omega)
            have u3 := later_cell d3 hol1
            have u4 := later_cell d4 hol1
            obtain ⟨f1, f2, f3, f4, -, -⟩ := HP1.out.wf k hk32
            clear hb1 d3 d4
            go_wp2_with fail
            rcases hsk : sk M.S lo hi s k with _ | n
            · simp only [Option.map, ptrV]
              have E1 := hide (sk_take (S := M.S) (s := s) (k := k) E.out HIN.out.1 HIN.out.2 (Or.inl hsk))
              clear hsk
              have hne : Nonempty (Later w1) := ⟨⟨w1, Below.refl _ _⟩⟩
              refine wp_region_later (by kernel_rfl) (by kernel_rfl) ?_
              repeat (go_big_quiet_step (fail))
              refine wpQuiet_nil ?_
              rintro _ ⟨wl, rfl⟩
              clear hne
              go_wp2_with fail
              exact ⟨⟨k + 1, by omega, by go_num, by rw [E1.out]; rfl, HB1.out.trans (wl.2.mono HB1.out.size)⟩, by simp [intOf]; omega⟩
            · obtain ⟨hn32, hn1⟩ := sk_at hsk (by omega)
              simp only [Option.map, ptrV]
              obtain ⟨g3, g4, -, -⟩ := HP1.out.cont hn32 hn1
              have holn := HP1.out.oblt hn32 (by omega)
              have v3 := later_cell g3 holn
              have v4 := later_cell g4 holn
              obtain ⟨j1, j2, j3, j4, -, -⟩ := HP1.out.wf n hn32
              clear g3 g4
              by_cases hlt2 : (M.S k).B - (M.S k).A < (M.S n).B - (M.S n).A
              · have E1 := hide (sk_take (S := M.S) (s := s) (k := k) E.out HIN.out.1 HIN.out.2 (Or.inr ⟨n, hsk, hlt2⟩))
                clear hsk hn1
                have hne : Nonempty (Later w1) := ⟨⟨w1, Below.refl _ _⟩⟩
                refine wp_region_later (by kernel_rfl) (by kernel_rfl) ?_
                repeat (go_big_quiet_step (((go_at_call 76; exact Calls.later_of (size_any _ _ _ (by omega) (by omega) (by omega) (by omega))))))
                refine wpQuiet_nil ?_
                rintro _ ⟨wl, rfl⟩
                clear hne
                go_wp2_with fail
                exact ⟨⟨k + 1, by omega, by go_num, by rw [E1.out]; rfl, HB1.out.trans (wl.2.mono HB1.out.size)⟩, by simp [intOf]; omega⟩
              · have E1 := hide (sk_stay (S := M.S) (lo := lo) (hi := hi) (s := s) (k := k) hsk (by omega))
                clear hsk hn1
                have hne : Nonempty (Later w1) := ⟨⟨w1, Below.refl _ _⟩⟩
                refine wp_region_later (by kernel_rfl) (by kernel_rfl) ?_
                repeat (go_big_quiet_step (((go_at_call 76; exact Calls.later_of (size_any _ _ _ (by omega) (by omega) (by omega) (by omega))))))
                refine wpQuiet_nil ?_
                rintro _ ⟨wl, rfl⟩
                clear hne
                go_wp2_with fail
                exact ⟨⟨k + 1, by omega, by go_num, by rw [E1.out]; rfl, HB1.out.trans (wl.2.mono HB1.out.size)⟩, by simp [intOf]; omega⟩
          · have E1 := hide (sk_skip (S := M.S) (lo := lo) (hi := hi) (s := s) (k := k) (Or.inr (by omega)))
            rw [decide_eq_false hin] at HFk
            clear hin
            go_wp2_with fail
            refine (HFk.out _ HB.out).mono ?_
            rintro e w1 ⟨rfl, hb1⟩
            go_wp2_with fail
            exact ⟨⟨k + 1, by omega, by go_num, by rw [E1.out], HB.out.trans (hb1.mono HB.out.size)⟩, by simp [intOf]; omega⟩
        · have hta := fun w => ta_container_no w (ob k) (M.S k).kind (HP.out.kind14 hk32 e0) e1
          have E1 := hide (sk_skip (S := M.S) (lo := lo) (hi := hi) (s := s) (k := k) (Or.inl e1))
          clear e0 e1
          generalize tyOf (M.S k).kind = T at *
          go_wp2_with fail
          exact ⟨⟨k + 1, by omega, by go_num, by rw [E1.out], HB.out⟩, by simp [intOf]; omega⟩
    · have : k = 32 := by omega
      subst this
      go_wp2_with fail
      go_ret
      exact ⟨rfl, hb⟩

theorem cf_home : ∀ args w, (callFunc 74 args).run Try.prog w = .ok (.enter 74 args) w := fun args w => by
  simp [callFunc, go_sem, Try.func74, Try.f74]
theorem cf_quantum : ∀ args w, (callFunc 70 args).run Try.prog w = .ok (.enter 70 args) w := fun args w => by
  simp [callFunc, go_sem, Try.func70, Try.f70]

section
variable {w : World} {kb : Nat} {M : MS} {ob cb : Nat → Nat} {qp : Nat → Option Nat}

set_option maxHeartbeats 1000000 in
theorem home_any (h : KP w kb M ob cb qp) (s : Int) :
    Calls Try.prog 63 #[.pointer (some ⟨kb, 0, none⟩), .int .i64 s] w fun e w' => e = .returned (ptrV ((lies M.S s).map ob)) ∧ Below w.heap.size w w' := by
  have H := hide h
  clear h
  rw [← sk_lies]
  go_enter Try.func63, Try.ntmps63
  go_wp2_with fail
  have hb0 : Below w.heap.size w (w.alloc (.cells #[.int .i64 s] 3)) := (Below.refl _ _).alloc (Nat.le_refl _) _
  have HP := H.out.below hb0
  have hg := Blk.new w #[.int .i64 s] 3
  refine (innermost_any HP Th.A Th.B s 74 w.heap.size cf_home ?_).mono ?_
  · intro w' i hb hi hk
    have HP' := HP.below hb
    obtain ⟨c3, c4, -, -⟩ := HP'.cont hi hk
    have hg' := hg.below hb hg.lt
    exact homeFn w' (ob i) w.heap.size _ _ _ c3 c4 (by rw [hg'.cell]; rfl) (HP'.oblt hi (by omega)) hg'.lt
  · rintro e w1 ⟨rfl, hb⟩
    have hb1 := hb0.trans (hb.mono (by simp))
    clear hb hb0 HP hg
    go_wp2_with fail
    go_ret
    exact ⟨rfl, hb1⟩

set_option maxHeartbeats 1000000 in
theorem quantumHome_any (h : KP w kb M ob cb qp) (s : Int) :
    Calls Try.prog 53 #[.pointer (some ⟨kb, 0, none⟩), .int .i64 s] w fun e w' => e = .returned (ptrV ((has M.S s).map ob)) ∧ Below w.heap.size w w' := by
  have H := hide h
  clear h
  rw [← sk_has]
  go_enter Try.func53, Try.ntmps53
  go_wp2_with fail
  have hb0 : Below w.heap.size w (w.alloc (.cells #[.int .i64 s] 3)) := (Below.refl _ _).alloc (Nat.le_refl _) _
  have HP := H.out.below hb0
  have hg := Blk.new w #[.int .i64 s] 3
  refine (innermost_any HP Th.G Th.H s 70 w.heap.size cf_quantum ?_).mono ?_
  · intro w' i hb hi hk
    have HP' := HP.below hb
    obtain ⟨-, -, c3, c4⟩ := HP'.cont hi hk
    have hg' := hg.below hb hg.lt
    exact quantumFn w' (ob i) w.heap.size _ _ _ c3 c4 (by rw [hg'.cell]; rfl) (HP'.oblt hi (by omega)) hg'.lt
  · rintro e w1 ⟨rfl, hb⟩
    have hb1 := hb0.trans (hb.mono (by simp))
    clear hb hb0 HP hg
    go_wp2_with fail
    go_ret
    exact ⟨rfl, hb1⟩
end

theorem lies_kind {S : Nat → Th} {s : Int} {c : Nat} (h : lies S s = some c) : c < 32 ∧ (S c).kind = 1 := sk_at (k := 32) (sk_lies ▸ h) (Nat.le_refl _)
theorem has_kind {S : Nat → Th} {s : Int} {c : Nat} (h : has S s = some c) : c < 32 ∧ (S c).kind = 1 := sk_at (k := 32) (sk_has ▸ h) (Nat.le_refl _)

end Go.Proofs.Ytloppmepfkkblaa
end

section
/- A trap on its way in the program: what 'within', 'fits', 'mayRead', 'mayWrite' do. -/
open Go Go.Proofs Go.RowKit
namespace Go.Proofs.Ytloppmepfkkblaa

theorem sub_iff (a b : Nat) : sub a b = true ↔ a &&& b = a := by
  unfold sub
  rw [beq_iff_eq]
  constructor
  · intro h
    apply Nat.eq_of_testBit_eq
    intro i
    have := congrArg (fun n => n.testBit i) h
    simp only [Nat.testBit_or, Nat.testBit_and] at *
    cases ha : a.testBit i <;> cases hb : b.testBit i <;> simp_all
  · intro h
    apply Nat.eq_of_testBit_eq
    intro i
    have := congrArg (fun n => n.testBit i) h
    simp only [Nat.testBit_or, Nat.testBit_and] at *
    cases ha : a.testBit i <;> cases hb : b.testBit i <;> simp_all

theorem mis_zero (a b : Nat) : mis a b = 0 ↔ sub a b = true := by
  rw [sub_iff]
  have := and_le_self a b
  unfold mis
  omega

theorem below_next {w W w1 : World} (h1 : Below W.heap.size W w1) (h0 : Below w.heap.size w W) : Below w.heap.size w w1 := h0.trans (h1.mono h0.size)

theorem kwithin (w : World) (a b : Nat) (ha : a < 256) (hb : b < 256) :
    Calls Try.prog 50 #[.int .i64 a, .int .i64 b] w fun e w' => e = .returned (.bool (sub a b)) ∧ Below w.heap.size w w' := by
  have han := i64_andNot a b ha hb
  cases hs : sub a b with
  | true =>
    rw [(mis_zero a b).2 hs] at han
    go_enter Try.func50, Try.ntmps50
    go_wp2_with fail
    go_ret
    exact ⟨rfl, by (repeat (first | exact Below.refl _ _ | refine Below.drew ?_ | refine below_drewN ?_ _ | refine Below.alloc ?_ (by simp <;> omega) _))⟩
  | false =>
    have h0 : ¬ ((mis a b : Nat) : Int) = 0 := fun h => by
      have := (mis_zero a b).1 (by omega)
      rw [hs] at this
      cases this
    clear hs
    go_enter Try.func50, Try.ntmps50
    go_wp2_with fail
    go_ret
    exact ⟨ret_bool (beq_eq_false_iff_ne.2 h0), by (repeat (first | exact Below.refl _ _ | refine Below.drew ?_ | refine below_drewN ?_ _ | refine Below.alloc ?_ (by simp <;> omega) _))⟩

/-- The request lies in block rb. -/
def ReqAt (w : World) (rb kb tb u : Nat) : Prop := Blk w rb #[.pointer (some ⟨kb, 0, none⟩), .pointer (some ⟨tb, 0, none⟩), .int .i64 u]

/-- The request, its kernel and the thread that asks. -/
structure QK (w : World) (rb kb : Nat) (M : MS) (ob cb : Nat → Nat) (qp : Nat → Option Nat) (me u : Nat) : Prop where
  req : ReqAt w rb kb (ob me) u
  pk : KP w kb M ob cb qp
  ne : ¬ Foot kb M ob cb qp rb
  me32 : me < 32
  mek : (M.S me).kind = 2
  u8 : u < 256

section
variable {w w' : World} {rb kb : Nat} {M : MS} {ob cb : Nat → Nat} {qp : Nat → Option Nat} {me u : Nat}

theorem QK.cells (h : QK w rb kb M ob cb qp me u) : w.cell? ⟨rb, 0, none⟩ = some (.pointer (some ⟨kb, 0, none⟩)) ∧ w.cell? ⟨rb, 1, none⟩ = some (.pointer (some ⟨ob me, 0, none⟩)) ∧ w.cell? ⟨rb, 2, none⟩ = some (.int .i64 u) ∧ w.frozen? ⟨rb, 2, none⟩ = false := by
  refine ⟨?_, ?_, ?_, Blk.frozen h.req 2⟩ <;> rw [Blk.cell h.req] <;> rfl
theorem QK.lt (h : QK w rb kb M ob cb qp me u) : rb < w.heap.size := Blk.lt h.req
theorem QK.fr (h : QK w rb kb M ob cb qp me u) (f : Fr (fun _ => False) w w') : QK w' rb kb M ob cb qp me u :=
  ⟨Blk.fr h.req f id, h.pk.fr f (fun _ _ => id), h.ne, h.me32, h.mek, h.u8⟩
theorem QK.below (h : QK w rb kb M ob cb qp me u) (f : Below w.heap.size w w') : QK w' rb kb M ob cb qp me u := h.fr (Fr.of_below f)
theorem QK.used (h : QK w rb kb M ob cb qp me u) {n : Nat} (hn : n < 256) : QK (w.setCell ⟨rb, 2, none⟩ (.int .i64 n)) rb kb M ob cb qp me n :=
  ⟨Blk.set h.req 2 _, h.pk.fr (Fr.own _ _ _ _) (fun _ hk e => h.ne (e ▸ hk)), h.ne, h.me32, h.mek, hn⟩
theorem QK.owns (h : QK w rb kb M ob cb qp me u) : (M.S me).owns < 256 := (h.pk.wf me h.me32).2.2.2.2.2
theorem QK.label (h : QK w rb kb M ob cb qp me u) : (M.S me).label < 256 := (h.pk.wf me h.me32).2.2.2.2.1
theorem QK.mine (h : QK w rb kb M ob cb qp me u) : w.cell? ⟨ob me, 0, none⟩ = some (.int .i64 me) ∧ w.cell? ⟨ob me, 1, none⟩ = some (.int .i64 (M.S me).kind) ∧ w.cell? ⟨ob me, 2, none⟩ = some (.int .i64 (M.S me).label) :=
  h.pk.base h.me32 (by have := h.mek; omega)
end

/-- What a check leaves. -/
def Left (w w' : World) (rb kb : Nat) (M : MS) (ob cb : Nat → Nat) (qp : Nat → Option Nat) (me : Nat) (p : Nat × Int) : Prop := QK w' rb kb M ob cb qp me p.1 ∧ Fr (fun k => k = rb) w w'

section
variable {w : World} {rb kb : Nat} {M : MS} {ob cb : Nat → Nat} {qp : Nat → Option Nat} {me u : Nat}

set_option maxHeartbeats 1000000 in
theorem fits_any (h : QK w rb kb M ob cb qp me u) (x y : Nat) (hx : x < 256) (hy : y < 256) :
    Calls Try.prog 68 #[.pointer (some ⟨rb, 0, none⟩), .int .i64 x, .int .i64 y] w fun e w' => e = .returned (.int .i64 (chk (M.S me).owns x y (u, 0)).2) ∧ Left w w' rb kb M ob cb qp me (chk (M.S me).owns x y (u, 0)) := by
  obtain ⟨c0, c1, c2, f2⟩ := h.cells
  obtain ⟨t0, -⟩ := h.pk.thr h.me32 h.mek
  have han := i64_andNot x y hx hy
  have hm := mis_lt y hx
  have hor := i64_or u (mis x y) h.u8 hm
  have HW := hide (fun w => kwithin w (mis x y) (M.S me).owns hm h.owns)
  have H := hide h
  have HC : Hid (∀ w', Below w.heap.size w w' → w'.cell? ⟨rb, 2, none⟩ = some (.int .i64 u) ∧ w'.frozen? ⟨rb, 2, none⟩ = false) := fun w' hb => by
    obtain ⟨-, -, d2, e2⟩ := (h.below hb).cells
    exact ⟨d2, e2⟩
  clear h
  by_cases hs : sub (mis x y) (M.S me).owns = true
  · have E1 : Hid (chk (M.S me).owns x y (u, 0) = (u ||| mis x y, 0)) := by unfold Hid chk; rw [if_neg (by simp), if_pos hs]
    rw [hs] at HW
    rw [E1.out]
    clear hs E1
    go_enter Try.func68, Try.ntmps68
    go_wp2_with fail
    refine (HW.out _).mono ?_
    rintro e w1 ⟨rfl, hb⟩
    obtain ⟨d2, e2⟩ := HC.out w1 hb
    have HB := hide hb
    clear hb c0 c1 c2 f2 t0
    go_wp2_with fail
    go_ret
    exact ⟨rfl, (H.out.below HB.out).used (or_lt H.out.u8 hm), (Fr.of_below HB.out).trans (Fr.own _ _ _ _)⟩
  · have E1 : Hid (chk (M.S me).owns x y (u, 0) = (u, 4)) := by unfold Hid chk; rw [if_neg (by simp), if_neg hs]
    rw [Bool.eq_false_iff.2 hs] at HW
    rw [E1.out]
    clear hs E1
    go_enter Try.func68, Try.ntmps68
    go_wp2_with fail
    refine (HW.out _).mono ?_
    rintro e w1 ⟨rfl, hb⟩
    have HB := hide hb
    clear hb c0 c1 c2 f2 t0
    go_wp2_with fail
    go_ret
    exact ⟨rfl, H.out.below HB.out, Fr.of_below HB.out⟩

set_option maxHeartbeats 2000000 in
theorem mayRead_any (h : QK w rb kb M ob cb qp me u) (i : Nat) (hi : i < 32) (hk : (M.S i).kind ≠ 0) :
    Calls Try.prog 73 #[.pointer (some ⟨rb, 0, none⟩), .iface (tyOf (M.S i).kind) (.pointer (some ⟨ob i, 0, none⟩))] w fun e w' => e = .returned (.int .i64 (chk (M.S me).owns (M.S i).label (M.S me).label (u, 0)).2) ∧ Left w w' rb kb M ob cb qp me (chk (M.S me).owns (M.S i).label (M.S me).label (u, 0)) := by
  have HK : Hid (∀ w' u', QK w' rb kb M ob cb qp me u' → w'.cell? ⟨rb, 1, none⟩ = some (.pointer (some ⟨ob me, 0, none⟩)) ∧ w'.cell? ⟨ob me, 0, none⟩ = some (.int .i64 me) ∧ w'.cell? ⟨ob me, 1, none⟩ = some (.int .i64 (M.S me).kind) ∧ w'.cell? ⟨ob me, 2, none⟩ = some (.int .i64 (M.S me).label) ∧
      (method 244 (tyOf (M.S i).kind) (.pointer (some ⟨ob i, 0, none⟩)) "cloister/cloister.labelOf").run Try.prog w' = .ok (26, .agg #[.int .i64 i, .int .i64 (M.S i).kind, .int .i64 (M.S i).label]) w') := fun w' u' h' => by
    obtain ⟨_, c1, _, _⟩ := h'.cells
    obtain ⟨b0, b1, b2⟩ := h'.pk.base hi hk
    obtain ⟨d0, d1, d2⟩ := h'.mine
    exact ⟨c1, d0, d1, d2, method_labelOf w' _ _ _ _ (h'.pk.kind14 hi hk) b0 b1 b2⟩
  have HLi := hide (h.pk.wf i hi).2.2.2.2.1
  have HLm := hide h.label
  have H := hide h
  clear h hk
  generalize tyOf (M.S i).kind = T at *
  go_enter Try.func73, Try.ntmps73
  go_wp2_with fail
  go_region_held3 (fun w' => w'.cell? ⟨rb, 1, none⟩ = some (.pointer (some ⟨ob me, 0, none⟩)) ∧ w'.cell? ⟨ob me, 0, none⟩ = some (.int .i64 me) ∧ w'.cell? ⟨ob me, 1, none⟩ = some (.int .i64 (M.S me).kind) ∧ w'.cell? ⟨ob me, 2, none⟩ = some (.int .i64 (M.S me).label) ∧
      (method 244 T (.pointer (some ⟨ob i, 0, none⟩)) "cloister/cloister.labelOf").run Try.prog w' = .ok (26, .agg #[.int .i64 i, .int .i64 (M.S i).kind, .int .i64 (M.S i).label]) w')
    (first | (apply HK.out; exact h2.1) | (refine HK.out _ _ (H.out.below ?_); refine Below.drew ?_; exact Below.refl _ _) | (refine HK.out _ _ (H.out.below ?_); refine below_next ?_ (Below.drew (Below.refl _ _)); assumption) | (refine HK.out _ _ (H.out.below ?_); apply below_next; assumption; apply below_next; assumption; exact Below.drew (Below.refl _ _)))
    (first | (go_at_call 26; refine (labelOf_any _ _ _ _).mono ?_; rintro e w1 ⟨rfl, hb1⟩) | (go_at_call 68; refine Calls.mono (fits_any (H.out.below ?_) _ _ HLi.out HLm.out) ?_; apply below_next; assumption; apply below_next; assumption; exact Below.drew (Below.refl _ _); rintro e w2 ⟨rfl, h2⟩))
  all_goals
    go_wp2_with fail
    go_ret
    refine ⟨rfl, h2.1, Fr.trans (Fr.of_below ?_) h2.2⟩
    apply below_next
    assumption
    apply below_next
    assumption
    exact Below.drew (Below.refl _ _)

set_option maxHeartbeats 2000000 in
theorem mayWrite_any (h : QK w rb kb M ob cb qp me u) (i : Nat) (hi : i < 32) (hk : (M.S i).kind ≠ 0) :
    Calls Try.prog 65 #[.pointer (some ⟨rb, 0, none⟩), .iface (tyOf (M.S i).kind) (.pointer (some ⟨ob i, 0, none⟩))] w fun e w' => e = .returned (.int .i64 (chk (M.S me).owns (M.S me).label (M.S i).label (u, 0)).2) ∧ Left w w' rb kb M ob cb qp me (chk (M.S me).owns (M.S me).label (M.S i).label (u, 0)) := by
  have HK : Hid (∀ w' u', QK w' rb kb M ob cb qp me u' → (method 244 (tyOf (M.S i).kind) (.pointer (some ⟨ob i, 0, none⟩)) "cloister/cloister.labelOf").run Try.prog w' = .ok (26, .agg #[.int .i64 i, .int .i64 (M.S i).kind, .int .i64 (M.S i).label]) w') := fun w' u' h' => by
    obtain ⟨b0, b1, b2⟩ := h'.pk.base hi hk
    exact method_labelOf w' _ _ _ _ (h'.pk.kind14 hi hk) b0 b1 b2
  have HLi := hide (h.pk.wf i hi).2.2.2.2.1
  have HLm := hide h.label
  have H := hide h
  clear h hk
  obtain ⟨_, c1, _, _⟩ := H.out.cells
  obtain ⟨d0, d1, d2⟩ := H.out.mine
  generalize tyOf (M.S i).kind = T at *
  go_enter Try.func65, Try.ntmps65
  go_wp2_with fail
  refine (labelOf_any _ _ _ _).mono ?_
  rintro e w1 ⟨rfl, hb1⟩
  have H1 := hide (H.out.below hb1)
  have mm := HK.out _ _ H1.out
  have HB1 := hide hb1
  clear hb1 c1 d0 d1 d2
  go_wp2_with fail
  refine (labelOf_any _ _ _ _).mono ?_
  rintro e w2 ⟨rfl, hb2⟩
  have H2 := hide (H1.out.below hb2)
  have HB2 := hide (below_next hb2 HB1.out)
  clear hb2 mm
  go_wp2_with fail
  refine (fits_any H2.out _ _ HLm.out HLi.out).mono ?_
  rintro e w3 ⟨rfl, h3, g3⟩
  go_wp2_with fail
  go_ret
  exact ⟨rfl, h3, Fr.trans (Fr.of_below HB2.out) g3⟩
end

end Go.Proofs.Ytloppmepfkkblaa
end
