/- What the program's 'put' does. -/
import Derived.Test.YtflniddofmnkaaaPMay
import Derived.Test.YtflniddofmnkaaaPStep
open Go Go.Proofs Go.RowKit
namespace Go.Proofs.Ytflniddofmnkaaa

set_option maxHeartbeats 1000000 in
theorem pput_container (w : World) (kb g s : Nat) (k l : Int) (v : Value) (hs : s < 32) (hkb : kb < w.heap.size) (hg : g < w.heap.size) (hgk : g ≠ kb) (h0 : w.cell? ⟨g, 0, none⟩ = some (.int .i64 s)) (h1 : w.cell? ⟨g, 1, none⟩ = some (.int .i64 k)) (h2 : w.cell? ⟨g, 2, none⟩ = some (.int .i64 l))
    (hv : w.cell? ⟨kb, s, none⟩ = some v) (hz : w.frozen? ⟨kb, s, none⟩ = false) :
    Calls Try.prog 51 #[.pointer (some ⟨kb, 0, none⟩), .iface 116 (.pointer (some ⟨g, 0, none⟩))] w fun e w' => e = .returned (.tuple #[]) ∧ ∃ w1, Below w.heap.size w w1 ∧ w' = w1.setCell ⟨kb, s, none⟩ (.iface 116 (.pointer (some ⟨g, 0, none⟩))) := by
  have HM : Hid (∀ w', w'.heap[g]? = w.heap[g]? → (method 270 116 (.pointer (some ⟨g, 0, none⟩)) "cloister/cloister.place").run Try.prog w' = .ok (29, .agg #[.int .i64 s, .int .i64 k, .int .i64 l]) w') := fun w' hb => by
    have e := cell_same' hb
    exact method_place_container w' g _ _ _ ((e 0).trans h0) ((e 1).trans h1) ((e 2).trans h2)
  have HC : Hid (∀ w', Below w.heap.size w w' → w'.cell? ⟨kb, s, none⟩ = some v ∧ w'.frozen? ⟨kb, s, none⟩ = false) := fun w' hb =>
    ⟨(cell_same' (hb.block kb hkb) s).trans hv, (frozen_same' (hb.block kb hkb) s).trans hz⟩
  have hsi : (s : Int) < 32 := by omega
  have hs0 : (0 : Int) ≤ (s : Int) := by omega
  clear h0 h1 h2 hv hz
  go_enter Try.func51, Try.ntmps51
  go_wp2_with fail
  go_region_held3 (fun w' => (method 270 116 (.pointer (some ⟨g, 0, none⟩)) "cloister/cloister.place").run Try.prog w' = .ok (29, .agg #[.int .i64 s, .int .i64 k, .int .i64 l]) w')
    (first | exact HM.out _ rfl | (apply HM.out; rename_i hb1; exact hb1.block g hg) | (apply HM.out; apply Eq.trans; exact Below.heap_setCell _ _ _ _ hgk; exact hb1.block g hg))
    (first | (go_at_call 29; refine (place_any _ _ _ _).mono ?_; rintro e w1 ⟨rfl, hb1⟩; obtain ⟨hc1, hf1⟩ := HC.out w1 (below_next hb1 (Below.drew (Below.refl _ _)))))
  go_wp2_with fail
  go_end0
  exact ⟨rfl, w1, below_next hb1 (Below.drew (Below.refl _ _)), rfl⟩

set_option maxHeartbeats 1000000 in
theorem pput_thread (w : World) (kb g s : Nat) (k l : Int) (v : Value) (hs : s < 32) (hkb : kb < w.heap.size) (hg : g < w.heap.size) (hgk : g ≠ kb) (h0 : w.cell? ⟨g, 0, none⟩ = some (.int .i64 s)) (h1 : w.cell? ⟨g, 1, none⟩ = some (.int .i64 k)) (h2 : w.cell? ⟨g, 2, none⟩ = some (.int .i64 l))
    (hv : w.cell? ⟨kb, s, none⟩ = some v) (hz : w.frozen? ⟨kb, s, none⟩ = false) :
    Calls Try.prog 51 #[.pointer (some ⟨kb, 0, none⟩), .iface 75 (.pointer (some ⟨g, 0, none⟩))] w fun e w' => e = .returned (.tuple #[]) ∧ ∃ w1, Below w.heap.size w w1 ∧ w' = w1.setCell ⟨kb, s, none⟩ (.iface 75 (.pointer (some ⟨g, 0, none⟩))) := by
  have HM : Hid (∀ w', w'.heap[g]? = w.heap[g]? → (method 270 75 (.pointer (some ⟨g, 0, none⟩)) "cloister/cloister.place").run Try.prog w' = .ok (29, .agg #[.int .i64 s, .int .i64 k, .int .i64 l]) w') := fun w' hb => by
    have e := cell_same' hb
    exact method_place_thread w' g _ _ _ ((e 0).trans h0) ((e 1).trans h1) ((e 2).trans h2)
  have HC : Hid (∀ w', Below w.heap.size w w' → w'.cell? ⟨kb, s, none⟩ = some v ∧ w'.frozen? ⟨kb, s, none⟩ = false) := fun w' hb =>
    ⟨(cell_same' (hb.block kb hkb) s).trans hv, (frozen_same' (hb.block kb hkb) s).trans hz⟩
  have hsi : (s : Int) < 32 := by omega
  have hs0 : (0 : Int) ≤ (s : Int) := by omega
  clear h0 h1 h2 hv hz
  go_enter Try.func51, Try.ntmps51
  go_wp2_with fail
  go_region_held3 (fun w' => (method 270 75 (.pointer (some ⟨g, 0, none⟩)) "cloister/cloister.place").run Try.prog w' = .ok (29, .agg #[.int .i64 s, .int .i64 k, .int .i64 l]) w')
    (first | exact HM.out _ rfl | (apply HM.out; rename_i hb1; exact hb1.block g hg) | (apply HM.out; apply Eq.trans; exact Below.heap_setCell _ _ _ _ hgk; exact hb1.block g hg))
    (first | (go_at_call 29; refine (place_any _ _ _ _).mono ?_; rintro e w1 ⟨rfl, hb1⟩; obtain ⟨hc1, hf1⟩ := HC.out w1 (below_next hb1 (Below.drew (Below.refl _ _)))))
  go_wp2_with fail
  go_end0
  exact ⟨rfl, w1, below_next hb1 (Below.drew (Below.refl _ _)), rfl⟩

set_option maxHeartbeats 1000000 in
theorem pput_segment (w : World) (kb g s : Nat) (k l : Int) (v : Value) (hs : s < 32) (hkb : kb < w.heap.size) (hg : g < w.heap.size) (hgk : g ≠ kb) (h0 : w.cell? ⟨g, 0, none⟩ = some (.int .i64 s)) (h1 : w.cell? ⟨g, 1, none⟩ = some (.int .i64 k)) (h2 : w.cell? ⟨g, 2, none⟩ = some (.int .i64 l))
    (hv : w.cell? ⟨kb, s, none⟩ = some v) (hz : w.frozen? ⟨kb, s, none⟩ = false) :
    Calls Try.prog 51 #[.pointer (some ⟨kb, 0, none⟩), .iface 136 (.pointer (some ⟨g, 0, none⟩))] w fun e w' => e = .returned (.tuple #[]) ∧ ∃ w1, Below w.heap.size w w1 ∧ w' = w1.setCell ⟨kb, s, none⟩ (.iface 136 (.pointer (some ⟨g, 0, none⟩))) := by
  have HM : Hid (∀ w', w'.heap[g]? = w.heap[g]? → (method 270 136 (.pointer (some ⟨g, 0, none⟩)) "cloister/cloister.place").run Try.prog w' = .ok (29, .agg #[.int .i64 s, .int .i64 k, .int .i64 l]) w') := fun w' hb => by
    have e := cell_same' hb
    exact method_place_segment w' g _ _ _ ((e 0).trans h0) ((e 1).trans h1) ((e 2).trans h2)
  have HC : Hid (∀ w', Below w.heap.size w w' → w'.cell? ⟨kb, s, none⟩ = some v ∧ w'.frozen? ⟨kb, s, none⟩ = false) := fun w' hb =>
    ⟨(cell_same' (hb.block kb hkb) s).trans hv, (frozen_same' (hb.block kb hkb) s).trans hz⟩
  have hsi : (s : Int) < 32 := by omega
  have hs0 : (0 : Int) ≤ (s : Int) := by omega
  clear h0 h1 h2 hv hz
  go_enter Try.func51, Try.ntmps51
  go_wp2_with fail
  go_region_held3 (fun w' => (method 270 136 (.pointer (some ⟨g, 0, none⟩)) "cloister/cloister.place").run Try.prog w' = .ok (29, .agg #[.int .i64 s, .int .i64 k, .int .i64 l]) w')
    (first | exact HM.out _ rfl | (apply HM.out; rename_i hb1; exact hb1.block g hg) | (apply HM.out; apply Eq.trans; exact Below.heap_setCell _ _ _ _ hgk; exact hb1.block g hg))
    (first | (go_at_call 29; refine (place_any _ _ _ _).mono ?_; rintro e w1 ⟨rfl, hb1⟩; obtain ⟨hc1, hf1⟩ := HC.out w1 (below_next hb1 (Below.drew (Below.refl _ _)))))
  go_wp2_with fail
  go_end0
  exact ⟨rfl, w1, below_next hb1 (Below.drew (Below.refl _ _)), rfl⟩

end Go.Proofs.Ytflniddofmnkaaa
