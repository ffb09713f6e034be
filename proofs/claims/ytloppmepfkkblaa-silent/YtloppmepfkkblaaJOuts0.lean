/- Numbers that come out: a row of the call's own, and what append makes of it. -/
import Derived.Test.YtloppmepfkkblaaProg
import Derived.OwnWalk
import Derived.Maps.AppendAt
import Derived.Deep.AppendLies
import Derived.Deep.Upon
import Derived.Test.YtloppmepfkkblaaJBaseToTreeKeeps
open Go Go.Proofs Go.RowKit
namespace Go.Proofs.Ytloppmepfkkblaa

/-- v is a row of these numbers that is the call's own (it lies at B or behind), or nil. -/
def Outs (w : World) (B : Nat) (v : Value) (xs : List Int) : Prop := w.ownsRow B 3 1 v xs.length (xs.map (Value.int .i64))

theorem Outs.nil (w : World) (B : Nat) : Outs w B (.slice none 0 0) [] := ⟨rfl, Or.inl ⟨rfl, rfl⟩⟩

theorem Outs.row {w : World} {B : Nat} {v : Value} {xs : List Int} (h : Outs w B v xs) {k : Nat} (hk : v.ownBlock = some k) : B ≤ k ∧ k < w.heap.size := by
  rcases h.2 with ⟨h1, _⟩ | ⟨g, cap, cur, h1, h2, h3, _⟩
  · rw [h1] at hk; cases hk
  · rw [h1] at hk
    injection hk with hk
    have hk : g = k := hk
    subst hk
    exact ⟨h2, (Array.getElem?_eq_some_iff.1 h3).1⟩

theorem Outs.same {w w' : World} {B : Nat} {v : Value} {xs : List Int} (h : Outs w B v xs) (e : ∀ k, v.ownBlock = some k → w'.heap[k]? = w.heap[k]?) : Outs w' B v xs := by
  refine ⟨h.1, ?_⟩
  rcases h.2 with h1 | ⟨g, cap, cur, h1, h2, h3, h4⟩
  · exact Or.inl h1
  · exact Or.inr ⟨g, cap, cur, h1, h2, by rw [e g (by rw [h1]; rfl)]; exact h3, h4⟩

theorem Outs.alloc {w : World} {B : Nat} {v : Value} {xs : List Int} (h : Outs w B v xs) (o : Obj) : Outs (w.alloc o) B v xs :=
  h.same (fun _ hk => Below.heap_alloc _ _ _ (h.row hk).2)
theorem Outs.later {w w' : World} {B : Nat} {v : Value} {xs : List Int} (h : Outs w B v xs) (hb : Below w.heap.size w w') : Outs w' B v xs :=
  h.same (fun k hk => hb.block k (h.row hk).2)

section
variable {ops : Array Oper} {rest : List Oper} {o : Oper} {a : Act} {Q : Exit → Act → World → Prop}

theorem wpList_out (w : World) (hgd : o.guard = none) (s x : Operand) (ho : o.op = .call { callee := .builtin .append, args := #[s, x], argTypes := #[29, 29] }) (B : Nat) (v : Value) (xs : List Int) (hs : a.eval s = v) (hown : Outs w B v xs)
    (ad : Addr) (m c : Nat) (ys : List Int) (hx : a.eval x = .slice (some ad) m c) (hl : ys.length = m) (hnews : ∀ j y, ys[j]? = some y → w.cell? (ad.add j) = some (.int .i64 y)) (hlen : xs.length + m ≤ 1000000) (hB : B ≤ w.heap.size)
    (h : ∀ v' w', Outs w' B v' (xs ++ ys) → Below B w w' → (∀ X, X < w.heap.size → v.ownBlock ≠ some X → w'.heap[X]? = w.heap[X]? ∧ v'.ownBlock ≠ some X) → wpList Try.prog ops Q rest (a.put o.dst v') w') : wpList Try.prog ops Q (o :: rest) a w := by
  refine wpList_append_own_at w hgd s x 29 ho B 3 Try.t3 (.int .i64 0) 1 8 Try.underlying29 (by kernel_rfl) (by kernel_rfl) (by kernel_rfl) (by kernel_rfl) (by rfl) (by omega) v xs.length (xs.map (Value.int .i64)) hs hown ad m c (ys.map (Value.int .i64)) hx (by simp [hl]) (fun j u hu => ?_) (fun u hu => ?_) (by unfold maxLen; omega) (by omega) hB (fun v' w' h1 h2 _ h4 => ?_)
  · rw [List.getElem?_map] at hu
    cases hy : ys[j]? with
    | none => rw [hy] at hu; cases hu
    | some y => rw [hy] at hu; injection hu with hu; subst hu; exact hnews j y hy
  · obtain ⟨y, _, rfl⟩ := List.mem_map.1 hu; rfl
  · refine h v' w' ?_ ?_ (fun X hX hne => ⟨h2.block X hX (Ne.symm hne), fun e => ?_⟩)
    · unfold Outs
      rw [List.length_append, List.map_append, hl]
      exact h1
    · exact (Below.refl B w).grown h2 hB (fun k hk => (hown.row hk).1)
    · rcases h4 with h4 | h4
      · exact hne (h4.symm.trans e)
      · rw [h4] at e; injection e with e; omega

/-- .. of numbers that were laid for it just now. -/
theorem wpList_out_new (w : World) (hgd : o.guard = none) (s x : Operand) (ho : o.op = .call { callee := .builtin .append, args := #[s, x], argTypes := #[29, 29] }) (B : Nat) (v : Value) (xs : List Int) (hs : a.eval s = v) (hown : Outs w B v xs)
    (cs : Array Value) (m : Nat) (ys : List Int) (N : Nat) (hN : w.heap.size = N) (hx : a.eval x = .slice (some ⟨N, 0, none⟩) m m) (hcs : cs.toList = ys.map (Value.int .i64)) (hl : ys.length = m) (hlen : xs.length + m ≤ 1000000) (hB : B ≤ w.heap.size)
    (h : ∀ v' w', Outs w' B v' (xs ++ ys) → Below B w w' → (∀ X, X < w.heap.size → v.ownBlock ≠ some X → w'.heap[X]? = w.heap[X]? ∧ v'.ownBlock ≠ some X) → wpList Try.prog ops Q rest (a.put o.dst v') w') : wpList Try.prog ops Q (o :: rest) a (w.alloc (.cells cs 3)) := by
  subst hN
  refine wpList_out (w.alloc (.cells cs 3)) hgd s x ho B v xs hs (hown.alloc _) ⟨w.heap.size, 0, none⟩ m m ys hx hl (fun j y hy => ?_) hlen (by simp; omega) (fun v' w' h1 h2 h3 => h v' w' h1 ?_ (fun X hX hne => ?_))
  · exact World.news_of_block (heap_alloc_new w _) j _ (by rw [hcs, List.getElem?_map, hy]; rfl)
  · exact ((Below.refl B w).alloc hB _).trans h2
  · obtain ⟨e1, e2⟩ := h3 X (by simp; omega) hne
    exact ⟨e1.trans (Below.heap_alloc _ _ _ hX), e2⟩

theorem run_out_nil (w : World) (ty : TypeId) {B : Nat} {v : Value} {xs : List Int} (hown : Outs w B v xs) : (Builtin.append_ #[29, 29] ty #[v, .slice none 0 0]).run Try.prog w = .ok v w := by
  have hs : Src Try.prog Try.t3.size 29 (.slice none 0 0) 0 [] w := ⟨Or.inl ⟨_, Try.underlying29⟩, fun _ => rfl, rfl, rfl, rfl, fun u hu => by cases hu⟩
  rcases hown.2 with ⟨rfl, _⟩ | ⟨g, cap, cur, rfl, _, _, h4, _⟩
  · exact run_append_nothing w _ _ ty _ _ Try.underlying29 (by kernel_rfl) none 0 0 (Nat.le_refl _) _ hs
  · exact run_append_nothing w _ _ ty _ _ Try.underlying29 (by kernel_rfl) (some ⟨g, 0, none⟩) _ cap h4 _ hs

/-- .. of nothing. -/
theorem wpList_out_nil (w : World) (hgd : o.guard = none) (s x : Operand) (ho : o.op = .call { callee := .builtin .append, args := #[s, x], argTypes := #[29, 29] }) (B : Nat) (v : Value) (xs : List Int) (hs : a.eval s = v) (hown : Outs w B v xs)
    (hx : a.eval x = .slice none 0 0) (h : wpList Try.prog ops Q rest (a.put o.dst v) w) : wpList Try.prog ops Q (o :: rest) a w := by
  refine wpList_plain hgd fun K hK => ?_
  have hr := run_out_nil w o.type hown
  unfold Oper.wp execOp
  simp only [ho, resolve, invoke, builtin, Sem.run_bind, Sem.run_pure, Result.andThen_ok, List.map_toArray, List.map_cons, List.map_nil, hs, hx, hr]
  exact hK _ _ h
end

end Go.Proofs.Ytloppmepfkkblaa
