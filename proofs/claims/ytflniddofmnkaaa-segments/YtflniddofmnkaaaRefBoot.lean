/- What the reference's 'Boot' does. -/
import Derived.Test.YtflniddofmnkaaaProg
import Derived.Test.YtflniddofmnkaaaRefBase
import Derived.BigRegion
open Go Go.Proofs Go.RowKit
namespace Go.Proofs.Ytflniddofmnkaaa

def zeroTh : Th := ⟨0, 0, 0, none, 0, 0, 0, false, 0, 0, 0, 0⟩
def rootTh : Th := ⟨1, 0, 1, none, 0, 0, 0, false, 1, 32, 0, 8⟩
def firstTh : Th := ⟨2, 0, 2, none, 0, 0, 255, true, 0, 0, 0, 0⟩
/-- Ahead of all stores. -/
def rzero : RSt := ⟨fun _ => zeroTh, fun _ => 0, fun _ => 0, 0, 2⟩
/-- The reference's kernel as it is at first, but for the quanta from q on. -/
def rbootTo (q : Nat) : RSt := ⟨upd (upd (fun _ => zeroTh) 0 rootTh) 1 firstTh, fun i => if i < q then 1 else 0, fun i => if i < q then 2 else 0, 0, 2⟩
def rboot : RSt := rbootTo 8

theorem zero_cells : (Try.zeroCells107.setIfInBounds 337 (.int .i64 2)).toList = (List.range 338).map rzero.cell := by kernel_rfl

theorem rzero_at (n : Nat) (hn : n < 338) : (Try.zeroCells107.setIfInBounds 337 (.int .i64 2))[n]? = some (rzero.cell n) := by
  rw [← Array.getElem?_toList, zero_cells]
  simp [hn]

theorem zero_size : (Try.zeroCells107.setIfInBounds 337 (.int .i64 2)).size = 338 := by
  rw [← Array.length_toList, zero_cells]; simp

theorem rbootTo_succ (q : Nat) : (rbootTo q).turn q 1 2 = rbootTo (q + 1) := by
  unfold rbootTo RSt.turn
  dsimp only
  congr 1
  · funext i
    unfold upd
    dsimp only
    by_cases h : i = q
    · rw [if_pos h, if_pos (by omega)]
    · rw [if_neg h]
      by_cases h2 : i < q
      · rw [if_pos h2, if_pos (by omega)]
      · rw [if_neg h2, if_neg (by omega)]
  · funext i
    unfold upd
    dsimp only
    by_cases h : i = q
    · rw [if_pos h, if_pos (by omega)]
    · rw [if_neg h]
      by_cases h2 : i < q
      · rw [if_pos h2, if_pos (by omega)]
      · rw [if_neg h2, if_neg (by omega)]

theorem rbootTo_zero : (rzero.put 0 rootTh).put 1 firstTh = rbootTo 0 := by
  unfold rbootTo rzero RSt.put
  simp

theorem rboot_start {w : World} {b : Nat} (h : RK w b rzero) : RK (World.putTh (World.putTh w b 0 rootTh) b 10 firstTh) b (rbootTo 0) := by
  rw [← rbootTo_zero]
  exact (h.put (s := 0) (by omega) rootTh).put (s := 1) (by omega) firstTh

set_option maxRecDepth 100000 in
set_option maxHeartbeats 4000000 in
theorem rboot_any (w : World) :
    Calls Try.prog 34 #[] w fun e w' => e = .returned (.pointer (some ⟨w.heap.size, 0, none⟩)) ∧ RK w' w.heap.size rboot ∧ Below w.heap.size w w' := by
  go_enter Try.func34, Try.ntmps34
  iterate 16 go_step
  have R0 : RK (w.alloc (.cells (Try.zeroCells107.setIfInBounds 337 (.int .i64 2)) 107)) w.heap.size rzero := ⟨_, Blk.new w _ _, zero_size, rzero_at⟩
  have F0 : Below w.heap.size w (w.alloc (.cells (Try.zeroCells107.setIfInBounds 337 (.int .i64 2)) 107)) := (Below.refl _ _).alloc (Nat.le_refl _) _
  generalize (w.alloc (.cells (Try.zeroCells107.setIfInBounds 337 (.int .i64 2)) 107)) = w1 at *
  have hlt := R0.lt
  obtain ⟨c0, c1, c2, c3, c4, c5, c6, c7, c8, c9⟩ := R0.things (k := 0) (by omega)
  obtain ⟨d0, d1, d2, d3, d4, d5, d6, d7, d8, d9⟩ := R0.things (k := 1) (by omega)
  simp only [Nat.zero_mul, Nat.zero_add, Nat.one_mul, rzero, zeroTh] at c0 c1 c2 c3 c4 c5 c6 c7 c8 c9 d0 d1 d2 d3 d4 d5 d6 d7 d8 d9
  have hfr : ∀ n, w1.frozen? ⟨w.heap.size, n, none⟩ = false := fun n => R0.frozen n
  have HR := hide R0
  have HF := hide F0
  clear R0 F0
  go_wp2_with fail
  have R1 := rboot_start HR.out
  have G1 := (HF.out).trans (((Fr.putTh w1 w.heap.size 0 rootTh).trans (Fr.putTh _ w.heap.size 10 firstTh)).below_of hlt)
  unfold World.putTh at R1 G1
  simp only [rootTh, firstTh] at R1 G1
  have HR1 := hide R1
  have HG1 := hide G1
  clear R1 G1 c0 c1 c2 c3 c4 c5 c6 c7 c8 c9 d0 d1 d2 d3 d4 d5 d6 d7 d8 d9 hfr
  go_loopw [2] (fun q w' => ∃ k : Nat, k ≤ 8 ∧ q = .int .i64 k ∧ RK w' w.heap.size (rbootTo k) ∧ Below w.heap.size w w') (fun q _ => 8 - (intOf q).toNat)
  case atStart => exact ⟨0, by omega, rfl, HR1.out, HG1.out⟩
  case round =>
    obtain ⟨k, hk, rfl, hr, hb⟩ := hrel
    by_cases hk8 : k < 8
    · obtain ⟨q0, q1⟩ := hr.turn hk8
      have hk8i : (k : Int) < 8 := by omega
      have hfr : ∀ n, wr.frozen? ⟨w.heap.size, n, none⟩ = false := fun n => hr.frozen n
      have H1 := hide (hr.putTurn hk8 1 2)
      have HB := hide hb
      clear hr hb
      go_wp2_with fail
      exact ⟨⟨k + 1, by omega, by go_num, by rw [← rbootTo_succ]; exact H1.out, (HB.out.setCell (by simp) _).setCell (by simp) _⟩, by simp [intOf]; omega⟩
    · have : k = 8 := by omega
      subst this
      have HR2 := hide hr
      have HB := hide hb
      clear hr hb
      go_wp2_with fail
      go_ret
      exact ⟨rfl, HR2.out, HB.out⟩

end Go.Proofs.Ytflniddofmnkaaa
