/- What the reference's 'Now' does. -/
import Derived.Test.YtflniddofmnkaaaRefCur
open Go Go.Proofs Go.RowKit
namespace Go.Proofs.Ytflniddofmnkaaa

def nowV (p : Nat) (t : Int) (l : Nat) : Value := .agg #[.int .i64 p, .int .i64 t, .int .i64 l]
/-- What Now tells. -/
def nowF (r : RSt) : Value := match curF r with
  | none => nowV r.phase (-1) 0
  | some s => nowV r.phase s (r.S s).label

theorem curF_lt {r : RSt} (hq : r.wq) {s : Nat} (h : curF r = some s) : s < 32 := by
  unfold curF at h
  split at h
  · cases h
  · simp at h; rw [← h]; exact hq.2 _ hq.1

set_option maxHeartbeats 1000000 in
theorem rnow_any (w : World) (b : Nat) (r : RSt) (hr : RK w b r) (hq : r.wq) :
    Calls Try.prog 25 #[.pointer (some ⟨b, 0, none⟩)] w fun e w' => e = .returned (nowF r) ∧ Below w.heap.size w w' := by
  have hlt := hr.lt
  have HR := hide hr
  have HQ := hide hq
  clear hr hq
  rcases hc : curF r with _ | s
  · have e1 : nowF r = nowV r.phase (-1) 0 := by unfold nowF; rw [hc]
    have HC := hide hc
    have E1 := hide e1
    clear hc e1
    go_enter Try.func25, Try.ntmps25
    go_wp2_with fail
    refine (current_any _ _ _ (HR.out.alloc _) HQ.out).mono ?_
    rintro e w1 ⟨rfl, hb⟩
    rw [HC.out, oi]
    have hz : w.heap.size + 1 ≤ w1.heap.size := by have := hb.size; simp at this; omega
    have p0 := (HR.out.alloc _).below hb (by simp; omega) |>.phase
    have B1 := hide (Blk.below (Blk.new w _ _) hb (by simp))
    have x0 : w1.cell? ⟨w.heap.size, 0, none⟩ = some (.int .i64 0) := by rw [Blk.cell B1.out]; rfl
    have x1 : w1.cell? ⟨w.heap.size, 1, none⟩ = some (.int .i64 0) := by rw [Blk.cell B1.out]; rfl
    have x2 : w1.cell? ⟨w.heap.size, 2, none⟩ = some (.int .i64 0) := by rw [Blk.cell B1.out]; rfl
    have y0 := Blk.frozen B1.out 0
    have y1 := Blk.frozen B1.out 1
    have y2 := Blk.frozen B1.out 2
    have hb0 := Below.trans (((Below.refl w.heap.size w).alloc (Nat.le_refl _) _)) (hb.mono (by simp))
    have HB := hide hb0
    clear hb hb0
    go_wp2_with fail
    refine bodyPost_ret (v := .agg #[.int .i64 r.phase, .int .i64 (-1), .int .i64 0]) (by simp [results, Try.results25, go_sem, x0, x1, x2]) rfl ⟨by rw [E1.out]; rfl, ?_⟩
    exact ((HB.out.setCell (by simp) _).setCell (by simp) _).setCell (by simp) _
  · have hs := curF_lt HQ.out hc
    have hsi : (s : Int) < 32 := by omega
    have hs0 : ¬ (s : Int) < 0 := by omega
    have e1 : nowF r = nowV r.phase s (r.S s).label := by unfold nowF; rw [hc]
    have HC := hide hc
    have E1 := hide e1
    clear hc e1
    go_enter Try.func25, Try.ntmps25
    go_wp2_with fail
    refine (current_any _ _ _ (HR.out.alloc _) HQ.out).mono ?_
    rintro e w1 ⟨rfl, hb⟩
    rw [HC.out, oi]
    have hz : w.heap.size + 1 ≤ w1.heap.size := by have := hb.size; simp at this; omega
    have hr1 := (HR.out.alloc _).below hb (by simp; omega)
    have p0 := hr1.phase
    obtain ⟨-, c1, -⟩ := hr1.things hs
    clear hr1
    have B1 := hide (Blk.below (Blk.new w _ _) hb (by simp))
    have x0 : w1.cell? ⟨w.heap.size, 0, none⟩ = some (.int .i64 0) := by rw [Blk.cell B1.out]; rfl
    have x1 : w1.cell? ⟨w.heap.size, 1, none⟩ = some (.int .i64 0) := by rw [Blk.cell B1.out]; rfl
    have x2 : w1.cell? ⟨w.heap.size, 2, none⟩ = some (.int .i64 0) := by rw [Blk.cell B1.out]; rfl
    have y0 := Blk.frozen B1.out 0
    have y1 := Blk.frozen B1.out 1
    have y2 := Blk.frozen B1.out 2
    have hb0 := Below.trans (((Below.refl w.heap.size w).alloc (Nat.le_refl _) _)) (hb.mono (by simp))
    have HB := hide hb0
    clear hb hb0
    go_wp2_with fail
    go_region
    go_wp2_with fail
    refine bodyPost_ret (v := .agg #[.int .i64 r.phase, .int .i64 s, .int .i64 (r.S s).label]) (by simp [results, Try.results25, go_sem, x0, x1, x2]) rfl ⟨by rw [E1.out]; rfl, ?_⟩
    refine Below.drew ?_
    exact ((HB.out.setCell (by simp) _).setCell (by simp) _).setCell (by simp) _

end Go.Proofs.Ytflniddofmnkaaa
