/- What the reference's 'put' does. -/
import Derived.Test.YtflniddofmnkaaaRefAsk
import Derived.BigRegion
open Go Go.Proofs Go.RowKit
namespace Go.Proofs.Ytflniddofmnkaaa

def Th.val (t : Th) : Value := .agg #[.int .i64 t.kind, .int .i64 t.label, .int .i64 t.id, .slice t.Wa t.Wn t.Wc, .int .i64 t.owns, .bool t.awake, .int .i64 t.A, .int .i64 t.B, .int .i64 t.G, .int .i64 t.H]

set_option maxHeartbeats 1000000 in
theorem put_any (w : World) (ab b T O : Nat) (u : Nat) (r : RSt) (s : Nat) (t : Th) (h : AK w ab b T O (u, 0) r) (hs : s < 32) (ht : t.wf) (hm : 0 ≤ r.made) (hm2 : r.made < 4611686018427387904) :
    Calls Try.prog 72 #[.pointer (some ⟨ab, 0, none⟩), .int .i64 s, .agg #[.int .i64 t.kind, .int .i64 t.label, .int .i64 t.id, .slice t.Wa t.Wn t.Wc, .int .i64 t.owns, .bool t.awake, .int .i64 t.A, .int .i64 t.B, .int .i64 t.G, .int .i64 t.H]] w fun e' w' =>
      e' = .returned (.tuple #[]) ∧ AK w' ab b T O (u, 0) ((r.mk1 (r.made + 1)).put s { t with id := r.made + 1 }) ∧ Fr (fun k => k = b) w w' := by
  obtain ⟨a0, a1, a2, a3, a4, -, -⟩ := h.ask.cells
  have hlt := h.rk.lt
  have hlt2 : ab < w.heap.size := Blk.lt h.ask
  have hne := h.ne
  have hsi : (s : Int) < 32 := by omega
  have m0 := h.rk.made
  have hfr : ∀ n, w.frozen? ⟨b, n, none⟩ = false := fun n => h.rk.frozen n
  have H := hide h
  clear h
  obtain ⟨c0, c1, c2, c3, c4, c5, c6, c7, c8, c9⟩ := H.out.rk.things hs
  go_enter Try.func72, Try.ntmps72
  go_wp2_with fail
  go_region
  all_goals go_wp2_with fail
  go_end0
  have F1 := (Fr.own w b 337 (.int .i64 (r.made + 1))).trans (Fr.putTh _ b (s * 10) { t with id := r.made + 1 })
  have F2 := (F1.alloc (.cells #[.int .i64 t.kind, .int .i64 t.label, .int .i64 (r.made + 1), .slice t.Wa t.Wn t.Wc, .int .i64 t.owns, .bool t.awake, .int .i64 t.A, .int .i64 t.B, .int .i64 t.G, .int .i64 t.H] 101)).drew
  have R1 := (H.out.rk.putMade (r.made + 1)).put hs { t with id := r.made + 1 }
  have R2 := (R1.alloc (.cells #[.int .i64 t.kind, .int .i64 t.label, .int .i64 (r.made + 1), .slice t.Wa t.Wn t.Wc, .int .i64 t.owns, .bool t.awake, .int .i64 t.A, .int .i64 t.B, .int .i64 t.G, .int .i64 t.H] 101)).drew
  have A2 := H.out.kturned F2 R2 (RSt.wf.put H.out.wf s ht)
  unfold World.putTh at F2 A2
  dsimp only at F2 A2
  exact ⟨rfl, A2, F2⟩

theorem put_not (w : World) (ab b T O : Nat) (p : Nat × Int) (r : RSt) (s : Nat) (t : Th) (h : AK w ab b T O p r) (hp : p.2 ≠ 0) :
    Calls Try.prog 72 #[.pointer (some ⟨ab, 0, none⟩), .int .i64 s, .agg #[.int .i64 t.kind, .int .i64 t.label, .int .i64 t.id, .slice t.Wa t.Wn t.Wc, .int .i64 t.owns, .bool t.awake, .int .i64 t.A, .int .i64 t.B, .int .i64 t.G, .int .i64 t.H]] w fun e' w' =>
      e' = .returned (.tuple #[]) ∧ AK w' ab b T O p r ∧ Fr (fun _ => False) w w' := by
  obtain ⟨a0, a1, a2, a3, a4, -, -⟩ := h.ask.cells
  have hlt2 : ab < w.heap.size := Blk.lt h.ask
  have hp' : (p.2 == 0) = false := by simpa using hp
  have H := hide h
  clear h hp
  go_enter Try.func72, Try.ntmps72
  go_wp2_with fail
  ((try simp only [Exit.inBlock, Exit.then]); refine bodyPost_ret (results_none rfl _ _ _) rfl ?_)
  exact ⟨rfl, H.out.fr ((Fr.refl _ _).alloc _), (Fr.refl _ _).alloc _⟩

end Go.Proofs.Ytflniddofmnkaaa
