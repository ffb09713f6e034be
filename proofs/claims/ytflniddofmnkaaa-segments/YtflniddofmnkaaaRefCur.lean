/- What the reference's 'Current', 'Tick' and 'Now' do. -/
import Derived.Test.YtflniddofmnkaaaProg
import Derived.Test.YtflniddofmnkaaaRefBase
import Derived.BigRegion
open Go Go.Proofs Go.RowKit
namespace Go.Proofs.Ytflniddofmnkaaa

set_option maxHeartbeats 1000000 in
theorem current_any (w : World) (b : Nat) (r : RSt) (hr : RK w b r) (hq : r.wq) :
    Calls Try.prog 40 #[.pointer (some ⟨b, 0, none⟩)] w fun e w' => e = .returned (.int .i64 (oi (curF r))) ∧ Below w.heap.size w w' := by
  have hlt := hr.lt
  have p0 := hr.phase
  have hp8 : (r.phase : Int) < 8 := by have := hq.1; omega
  obtain ⟨q0, q1⟩ := hr.turn hq.1
  have hqs := hq.2 _ hq.1
  obtain ⟨c0, c1, c2, c3, c4, c5, c6, c7, c8, c9⟩ := hr.things hqs
  have hqi : ((r.qs r.phase : Nat) : Int) < 32 := by omega
  clear hr hq
  by_cases h1 : r.qi r.phase = 0
  · have e1 : curF r = none := by unfold curF; rw [if_pos (Or.inl h1)]
    have E1 := hide e1
    clear e1
    rw [h1] at q1
    go_enter Try.func40, Try.ntmps40
    go_wp2_with fail
    go_region
    go_wp2_with fail
    go_region
    go_wp2_with fail
    go_ret
    exact ⟨ret_i64 (by rw [E1.out]; rfl), by (repeat (first | exact Below.refl _ _ | refine Below.drew ?_ | refine below_drewN ?_ _ | refine Below.alloc ?_ (by simp <;> omega) _))⟩
  have h1b : (r.qi r.phase == 0) = false := by simpa using h1
  by_cases h2 : (r.S (r.qs r.phase)).id = r.qi r.phase
  · rw [h2] at c2
    rcases h3 : (r.S (r.qs r.phase)).awake
    · have e1 : curF r = none := by unfold curF; rw [if_pos (Or.inr (Or.inr h3))]
      have E1 := hide e1
      rw [h3] at c5
      clear e1 h1 h2 h3
      go_enter Try.func40, Try.ntmps40
      go_wp2_with fail
      go_region
      go_wp2_with fail
      go_region
      go_wp2_with fail
      go_ret
      exact ⟨ret_i64 (by rw [E1.out]; rfl), by (repeat (first | exact Below.refl _ _ | refine Below.drew ?_ | refine below_drewN ?_ _ | refine Below.alloc ?_ (by simp <;> omega) _))⟩
    · have e1 : curF r = some (r.qs r.phase) := by unfold curF; rw [if_neg (by simp [h1, h2, h3])]
      have E1 := hide e1
      rw [h3] at c5
      clear e1 h1 h2 h3
      go_enter Try.func40, Try.ntmps40
      go_wp2_with fail
      go_region
      go_wp2_with fail
      go_region
      go_wp2_with fail
      go_ret
      exact ⟨ret_i64 (by rw [E1.out]; rfl), by (repeat (first | exact Below.refl _ _ | refine Below.drew ?_ | refine below_drewN ?_ _ | refine Below.alloc ?_ (by simp <;> omega) _))⟩
  · have e1 : curF r = none := by unfold curF; rw [if_pos (Or.inr (Or.inl h2))]
    have E1 := hide e1
    clear e1 h1
    go_enter Try.func40, Try.ntmps40
    go_wp2_with fail
    go_region
    go_wp2_with fail
    go_region
    go_wp2_with fail
    go_ret
    exact ⟨ret_i64 (by rw [E1.out]; rfl), by (repeat (first | exact Below.refl _ _ | refine Below.drew ?_ | refine below_drewN ?_ _ | refine Below.alloc ?_ (by simp <;> omega) _))⟩

theorem rtick_any (w : World) (b : Nat) (r : RSt) (hr : RK w b r) (hq : r.wq) :
    Calls Try.prog 35 #[.pointer (some ⟨b, 0, none⟩)] w fun e w' => e = .returned (.tuple #[]) ∧ RK w' b { r with phase := (r.phase + 1) % 8 } ∧ Fr (fun k => k = b) w w' := by
  have hlt := hr.lt
  have p0 := hr.phase
  have f0 := hr.frozen 336
  have hp8 : (r.phase : Int) < 8 := by have := hq.1; omega
  have H := hide hr
  clear hr hq
  go_enter Try.func35, Try.ntmps35
  go_wp2
  go_end0
  have e1 : ((r.phase : Int) + 1) % 8 = (((r.phase + 1) % 8 : Nat) : Int) := by omega
  rw [e1]
  exact ⟨rfl, H.out.putPhase _, Fr.own _ _ _ _⟩

end Go.Proofs.Ytflniddofmnkaaa
