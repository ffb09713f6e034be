/- Rows of one and the same number, and what append makes of them. -/
import Derived.ArgAppend
import Derived.StillTailTactics
import Derived.Great.BuildSlice
import Derived.Test.YtloppmepfkkblaaGreatJLPrToLStep
import Derived.Test.YtloppmepfkkblaaGreatJRefThirdToRefSend
import Derived.Test.YtloppmepfkkblaaGreatJOuts0

section
open Go Go.Proofs Go.RowKit
namespace Go.Proofs.YtloppmepfkkblaaGreat

/-- v is a row of n numbers x, in a block of G; or nil. -/
def Marks (w : World) (G : Nat → Prop) (v : Value) (n : Nat) (x : Int) : Prop :=
  (v = .slice none 0 0 ∧ n = 0) ∨ ∃ g cap cur, v = .slice (some ⟨g, 0, none⟩) n cap ∧ G g ∧ Blk w g cur ∧ n ≤ cap ∧ cap ≤ cur.size ∧ ∀ j, j < n → cur[j]? = some (.int .i64 x)

/-- Memory has grown, and in one block some cells have become x. -/
structure MkW (own : Option Nat) (x : Int) (w w' : World) : Prop where
  os : w'.os = w.os
  tape : w'.tape = w.tape
  output : w'.output = w.output
  size : w.heap.size ≤ w'.heap.size
  block : ∀ k, k < w.heap.size → own ≠ some k → w'.heap[k]? = w.heap[k]?
  row : ∀ g cur, own = some g → Blk w g cur → ∃ cur', Blk w' g cur' ∧ cur'.size = cur.size ∧ ∀ j : Nat, cur'[j]? = cur[j]? ∨ (j < cur.size ∧ cur'[j]? = some (.int .i64 x))

section
variable {w w' w'' : World} {own : Option Nat} {x : Int} {G : Nat → Prop} {v : Value} {n : Nat}
theorem MkW.refl (own : Option Nat) (x : Int) (w : World) : MkW own x w w := ⟨rfl, rfl, rfl, Nat.le_refl _, fun _ _ _ => rfl, fun _ cur _ h => ⟨cur, h, rfl, fun _ => Or.inl rfl⟩⟩
theorem MkW.trans (h : MkW own x w w') (k : MkW own x w' w'') : MkW own x w w'' := by
  refine ⟨k.os.trans h.os, k.tape.trans h.tape, k.output.trans h.output, Nat.le_trans h.size k.size, fun i hi hn => (k.block i (by have := h.size; omega) hn).trans (h.block i hi hn), fun g cur hg hb => ?_⟩
  obtain ⟨c1, b1, s1, e1⟩ := h.row g cur hg hb
  obtain ⟨c2, b2, s2, e2⟩ := k.row g c1 hg b1
  refine ⟨c2, b2, s2.trans s1, fun j => ?_⟩
  rcases e2 j with e | ⟨e, e'⟩
  · rcases e1 j with f | ⟨f, f'⟩
    · exact Or.inl (e.trans f)
    · exact Or.inr ⟨f, e.trans f'⟩
  · exact Or.inr ⟨by omega, e'⟩
theorem MkW.of_below (h : Below w.heap.size w w') : MkW own x w w' :=
  ⟨h.os, h.tape, h.output, h.size, fun k hk _ => h.block k hk, fun _ cur _ hb => ⟨cur, hb.below h hb.lt, rfl, fun _ => Or.inl rfl⟩⟩
theorem MkW.fr (h : MkW own x w w') : Fr (fun k => own = some k) w w' := ⟨h.os, h.tape, h.output, h.size, fun k hk hn => h.block k hk hn⟩
theorem Marks.mk (h : Marks w G v n x) (k : MkW own x w w') : Marks w' G v n x := by
  rcases h with h | ⟨g, cap, cur, h1, h2, h3, h4, h5, h6⟩
  · exact Or.inl h
  · by_cases hg : own = some g
    · obtain ⟨c1, b1, s1, e1⟩ := k.row g cur hg h3
      refine Or.inr ⟨g, cap, c1, h1, h2, b1, h4, by omega, fun j hj => ?_⟩
      rcases e1 j with e | ⟨_, e⟩
      · exact e.trans (h6 j hj)
      · exact e
    · exact Or.inr ⟨g, cap, cur, h1, h2, h3.same (k.block g h3.lt hg), h4, h5, h6⟩
theorem Marks.same (h : Marks w G v n x) (e : ∀ k, G k → w'.heap[k]? = w.heap[k]?) : Marks w' G v n x := by
  rcases h with h | ⟨g, cap, cur, h1, h2, h3, h4, h5, h6⟩
  · exact Or.inl h
  · exact Or.inr ⟨g, cap, cur, h1, h2, h3.same (e g h2), h4, h5, h6⟩
theorem Marks.sub {G' : Nat → Prop} (h : Marks w G v n x) (hs : ∀ k, G k → G' k) : Marks w G' v n x := by
  rcases h with h | ⟨g, cap, cur, h1, h2, h3, h4, h5, h6⟩
  · exact Or.inl h
  · exact Or.inr ⟨g, cap, cur, h1, hs g h2, h3, h4, h5, h6⟩
theorem Marks.form (h : Marks w G v n x) : ∃ a c, v = .slice a n c := by
  rcases h with ⟨h1, h2⟩ | ⟨g, cap, cur, h1, _⟩
  · subst h2; exact ⟨_, _, h1⟩
  · exact ⟨_, _, h1⟩
theorem Marks.ownIn (h : Marks w G v n x) {k : Nat} (hk : v.ownBlock = some k) : G k ∧ k < w.heap.size := by
  rcases h with ⟨h1, _⟩ | ⟨g, cap, cur, h1, h2, h3, _⟩
  · rw [h1] at hk; cases hk
  · rw [h1] at hk
    injection hk with hk
    have hk : g = k := hk
    subst hk
    exact ⟨h2, h3.lt⟩
end

/-- Cells of an array, set one by one. -/
def setsA (cur : Array Value) : Nat → List Value → Array Value
  | _, [] => cur
  | o, v :: r => setsA (cur.setIfInBounds o v) (o + 1) r
theorem setsA_size : ∀ (vs : List Value) (cur : Array Value) (o : Nat), (setsA cur o vs).size = cur.size
  | [], _, _ => rfl
  | v :: r, cur, o => by rw [setsA, setsA_size r]; simp
theorem setsA_get {x : Value} : ∀ (vs : List Value) (cur : Array Value) (o : Nat), (∀ v ∈ vs, v = x) → ∀ j : Nat, (setsA cur o vs)[j]? = cur[j]? ∨ (j < cur.size ∧ (setsA cur o vs)[j]? = some x)
  | [], _, _, _, _ => Or.inl rfl
  | v :: r, cur, o, h, j => by
    rw [setsA]
    rcases setsA_get r (cur.setIfInBounds o v) (o + 1) (fun u hu => h u (List.mem_cons_of_mem _ hu)) j with e | ⟨e, e'⟩
    · by_cases ho : o = j
      · subst ho
        by_cases hs : o < cur.size
        · refine Or.inr ⟨hs, e.trans ?_⟩
          rw [Array.getElem?_setIfInBounds_self_of_lt hs, h v (List.mem_cons_self ..)]
        · refine Or.inl (e.trans ?_)
          rw [Array.getElem?_eq_none (by simp; omega), Array.getElem?_eq_none (by omega)]
      · exact Or.inl (e.trans (Array.getElem?_setIfInBounds_ne ho))
    · exact Or.inr ⟨by simpa using e, e'⟩
theorem Blk.sets {g : Nat} : ∀ (vs : List Value) {w : World} {cur : Array Value} (o : Nat), Blk w g cur → Blk (w.setCells g o vs) g (setsA cur o vs)
  | [], _, _, _, h => h
  | v :: r, _, _, o, h => Blk.sets r (o + 1) (h.set o v)
theorem heap_sets {g : Nat} : ∀ (vs : List Value) (w : World) (o k : Nat), k ≠ g → (w.setCells g o vs).heap[k]? = w.heap[k]?
  | [], _, _, _, _ => rfl
  | v :: r, w, o, k, h => by rw [World.setCells, heap_sets r _ _ _ h]; exact Below.heap_setCell _ _ _ _ h
theorem rest_sets {g : Nat} : ∀ (vs : List Value) (w : World) (o : Nat), (w.setCells g o vs).os = w.os ∧ (w.setCells g o vs).tape = w.tape ∧ (w.setCells g o vs).output = w.output ∧ (w.setCells g o vs).heap.size = w.heap.size
  | [], _, _ => ⟨rfl, rfl, rfl, rfl⟩
  | v :: r, w, o => by
    obtain ⟨h1, h2, h3, h4⟩ := rest_sets r (w.setCell ⟨g, o, none⟩ v) (o + 1)
    have e := Fr.own w g o v
    exact ⟨h1.trans e.os, h2.trans e.tape, h3.trans e.output, h4.trans (by simp [World.setCell])⟩

theorem marks_of_row {w : World} {B : Nat} {v : Value} {n : Nat} {x : Int} (h : w.ownsRow B 3 1 v n (List.replicate n (.int .i64 x))) : Marks w (fun k => B ≤ k) v n x := by
  rcases h.2 with h1 | ⟨g, cap, cur, h1, h2, h3, h4, h5, h6, h7⟩
  · exact Or.inl h1
  · refine Or.inr ⟨g, cap, cur, h1, h2, ⟨_, h3⟩, h4, by omega, fun j hj => ?_⟩
    have e := congrArg (fun l => l[j]?) h7
    simp only [Nat.mul_one] at e
    rw [List.getElem?_take_of_lt hj, Array.getElem?_toList] at e
    rw [e, List.getElem?_replicate, if_pos hj]

/-- Append of m numbers x to a row of them. -/
theorem wp_marks {o : Oper} {a : Act} {K : Act → World → Prop} {Q : Exit → Act → World → Prop} (w : World) (s y : Operand) (ho : o.op = .call { callee := .builtin .append, args := #[s, y], argTypes := #[32, 32] }) (G : Nat → Prop) (l : Value) (n : Nat) (x : Int) (hs : a.eval s = l) (hl : Marks w G l n x)
    (N m : Nat) (hy : a.eval y = .slice (some ⟨N, 0, none⟩) m m) (hN : Blk w N (Array.replicate m (.int .i64 x))) (hlen : n + m ≤ 1000000)
    (h : ∀ v' w', Marks w' (fun k => G k ∨ w.heap.size ≤ k) v' (n + m) x → MkW l.ownBlock x w w' → K (a.put o.dst v') w') : o.wp Tryz.prog a w K Q := by
  have hnews : ∀ j u, (List.replicate m (Value.int .i64 x))[j]? = some u → w.cell? ((⟨N, 0, none⟩ : Addr).add j) = some u := fun j u hu => by
    rw [Addr.add_lit, Nat.zero_add, hN.cell, ← hu, ← Array.getElem?_toList, Array.toList_replicate]
  have h1c : ∀ u ∈ List.replicate m (Value.int .i64 x), u.oneCell' = true := fun u hu => by rw [(List.mem_replicate.1 hu).2]; rfl
  have grow : ∀ v' w', w'.ownsRow w.heap.size 3 1 v' (n + m) (List.replicate n (.int .i64 x) ++ List.replicate m (.int .i64 x)) → w.grownBy w' none → K (a.put o.dst v') w' := fun v' w' r1 r2 => by
    rw [List.replicate_append_replicate] at r1
    exact h v' w' ((marks_of_row r1).sub (fun k hk => Or.inr hk)) (MkW.of_below ⟨r2.os, r2.tape, r2.output, r2.size, fun k hk => r2.block k hk (by simp)⟩)
  rcases hl with ⟨h1, h2⟩ | ⟨g, cap, cur, h1, h2, h3, h4, h5, h6⟩
  · subst h1 h2
    obtain ⟨v', w', hrun, r1, r2, _⟩ := run_append_own (P := Tryz.prog) w w.heap.size 32 o.type 3 Tryz.t3 (.int .i64 0) 1 8 Tryz.underlying32 (by kernel_rfl) (by kernel_rfl) (by kernel_rfl) (by kernel_rfl) (by rfl) (by omega) (.slice none 0 0) 0 [] (World.ownsRow_nil w _ 3 1) ⟨N, 0, none⟩ m m (List.replicate m (.int .i64 x)) (by simp) hnews h1c (by unfold maxLen; omega) (by omega) (Nat.le_refl _)
    unfold Oper.wp
    simp [execOp, ho, resolve, invoke, builtin, hs, hy, hrun, Result.andThen]
    refine grow v' w' ?_ ⟨r2.os, r2.tape, r2.output, r2.size, fun k hk _ => r2.block k hk (by simp [Value.ownBlock])⟩
    simpa using r1
  · subst h1
    have holds : ∀ j u, (List.replicate n (Value.int .i64 x))[j]? = some u → w.cell? ((⟨g, 0, none⟩ : Addr).add j) = some u := fun j u hu => by
      have hj : j < n := by simpa using (List.getElem?_eq_some_iff.1 hu).1
      rw [Addr.add_lit, Nat.zero_add, h3.cell, h6 j hj]
      rw [List.getElem?_replicate, if_pos hj] at hu
      exact hu
    by_cases hr : n + m ≤ cap
    · have hrun := run_append_room_cells (P := Tryz.prog) w 32 o.type 3 Tryz.t3 Tryz.underlying32 (by kernel_rfl) g 0 n cap ⟨N, 0, none⟩ m m (List.replicate m (.int .i64 x)) (by simp [show Tryz.t3.size = 1 by kernel_rfl]) hnews h1c hr (fun j hj => by
        rw [show Tryz.t3.size = 1 by kernel_rfl, h3.cell, Array.getElem?_eq_getElem (by simp at hj; omega)]; rfl) (fun j _ => h3.frozen _)
      unfold Oper.wp
      simp [execOp, ho, resolve, invoke, builtin, hs, hy, hrun, Result.andThen]
      rw [show Tryz.t3.size = 1 by kernel_rfl, Nat.mul_one]
      have hb := Blk.sets (List.replicate m (Value.int .i64 x)) n h3
      have hz := setsA_size (List.replicate m (Value.int .i64 x)) cur n
      have hget := setsA_get (x := .int .i64 x) (List.replicate m (Value.int .i64 x)) cur n (fun v hv => (List.mem_replicate.1 hv).2)
      obtain ⟨q1, q2, q3, q4⟩ := rest_sets (g := g) (List.replicate m (Value.int .i64 x)) w n
      refine h _ _ (Or.inr ⟨g, cap, _, rfl, Or.inl h2, hb, hr, by omega, fun j hj => ?_⟩) ⟨q1, q2, q3, by omega, fun k _ hk => heap_sets _ _ _ _ (fun e => hk (by rw [e]; rfl)), fun g' cur' hg' hb' => ?_⟩
      · by_cases hjn : j < n
        · rcases hget j with e | ⟨_, e⟩
          · exact e.trans (h6 j hjn)
          · exact e
        · have := World.cell?_setCells_in g (List.replicate m (Value.int .i64 x)) n w (fun j hj => by
            rw [h3.cell, Array.getElem?_eq_getElem (by simp at hj; omega)]; rfl) (j - n) (by simp; omega)
          rw [hb.cell, show n + (j - n) = j by omega] at this
          rw [this, List.getElem_replicate]
      · have e : g = g' := by simpa [Value.ownBlock] using hg'
        subst e
        have ec : cur' = cur := by
          obtain ⟨T1, e1⟩ := hb'
          obtain ⟨T2, e2⟩ := h3
          have e3 := Option.some.inj (e1.symm.trans e2)
          injection e3
        subst ec
        exact ⟨_, hb, hz, hget⟩
    · obtain ⟨v', w', hrun, r1, r2⟩ := run_append_arg_grows (P := Tryz.prog) w 32 o.type 3 Tryz.t3 (.int .i64 0) 1 8 Tryz.underlying32 (by kernel_rfl) (by kernel_rfl) (by kernel_rfl) (by kernel_rfl) (by rfl) (by omega) ⟨g, 0, none⟩ n cap (List.replicate n (.int .i64 x)) (by simp) holds ⟨N, 0, none⟩ m m (List.replicate m (.int .i64 x)) (by simp) hnews (by omega) (by unfold maxLen; omega) (by omega)
      unfold Oper.wp
      simp [execOp, ho, resolve, invoke, builtin, hs, hy, hrun, Result.andThen]
      exact grow v' w' r1 r2

end Go.Proofs.YtloppmepfkkblaaGreat
end

section
/- The law's book: 'mark', 'looks'. -/
open Go Go.Proofs Go.RowKit
namespace Go.Proofs.YtloppmepfkkblaaGreat

/-- One of the book's rows: four lists, each full of its mark. -/
def Entry (w : World) (G : Nat → Prop) (ev : Value) (i : Nat) : Prop :=
  ∃ (e : Nat) (s : Nat → Value) (n : Nat → Nat), ev = .slice (some ⟨e, 0, none⟩) 4 4 ∧ G e ∧ Blk w e #[s 0, s 1, s 2, s 3] ∧ ∀ k, k < 4 → Marks w G (s k) (n k) (-7000 - i) ∧ n k ≤ 1000000

theorem Entry.same {w w' : World} {G : Nat → Prop} {ev : Value} {i : Nat} (h : Entry w G ev i) (e : ∀ k, G k → w'.heap[k]? = w.heap[k]?) : Entry w' G ev i := by
  obtain ⟨b, s, n, h1, h2, h3, h4⟩ := h
  exact ⟨b, s, n, h1, h2, h3.same (e b h2), fun k hk => ⟨(h4 k hk).1.same e, (h4 k hk).2⟩⟩
theorem Entry.sub {w : World} {G G' : Nat → Prop} {ev : Value} {i : Nat} (h : Entry w G ev i) (hs : ∀ k, G k → G' k) : Entry w G' ev i := by
  obtain ⟨b, s, n, h1, h2, h3, h4⟩ := h
  exact ⟨b, s, n, h1, hs b h2, h3, fun k hk => ⟨(h4 k hk).1.sub hs, (h4 k hk).2⟩⟩

/-- The book, in the blocks of G. -/
structure BookAt (w : World) (G : Nat → Prop) (bb : Nat) (v : Value) (ents : List Value) : Prop where
  blk : Blk w bb #[v]
  lt : ∀ k, G k → k < w.heap.size
  here : G bb
  row : w.ownsRow 0 55 1 v ents.length ents
  own : ∀ k, v.ownBlock = some k → G k ∧ k ≠ bb
  ent : ∀ i ev, ents[i]? = some ev → Entry w (fun k => G k ∧ k ≠ bb ∧ v.ownBlock ≠ some k) ev i

section
variable {w w' : World} {G : Nat → Prop} {bb : Nat} {v : Value} {ents : List Value}
theorem BookAt.same (h : BookAt w G bb v ents) (e : ∀ k, G k → w'.heap[k]? = w.heap[k]?) (hs : w.heap.size ≤ w'.heap.size) : BookAt w' G bb v ents := by
  refine ⟨h.blk.same (e bb h.here), fun k hk => by have := h.lt k hk; omega, h.here, ⟨h.row.1, ?_⟩, h.own, fun i ev hi => (h.ent i ev hi).same (fun k hk => e k hk.1)⟩
  rcases h.row.2 with q | ⟨g, cap, cur, q1, q2, q3, q4⟩
  · exact Or.inl q
  · exact Or.inr ⟨g, cap, cur, q1, q2, by rw [e g (h.own g (by rw [q1]; rfl)).1]; exact q3, q4⟩
theorem BookAt.below (h : BookAt w G bb v ents) (hb : Below w.heap.size w w') : BookAt w' G bb v ents := h.same (fun k hk => hb.block k (h.lt k hk)) hb.size
theorem BookAt.form (h : BookAt w G bb v ents) : ∃ a c, v = .slice a ents.length c := by
  rcases h.row.2 with ⟨q, q2⟩ | ⟨g, cap, cur, q1, _⟩
  · rw [q2]; exact ⟨_, _, q⟩
  · exact ⟨_, _, q1⟩
/-- A list of the book, where it lies. -/
theorem BookAt.at {a : Option Addr} {c i : Nat} (h : BookAt w G bb (.slice a ents.length c) ents) (hi : i < ents.length) : ∃ g e, a = some ⟨g, 0, none⟩ ∧ g < w.heap.size ∧ w.cell? ⟨g, i, none⟩ = some (.slice (some ⟨e, 0, none⟩) 4 4) ∧ e < w.heap.size ∧
    ∀ k, k < 4 → ∃ b n cp, n ≤ 1000000 ∧ w.cell? ⟨e, k, none⟩ = some (.slice b n cp) ∧ ∀ j, j < n → ∃ g', b = some ⟨g', 0, none⟩ ∧ g' < w.heap.size ∧ w.cell? ⟨g', j, none⟩ = some (.int .i64 (-7000 - i)) := by
  rcases h.row.2 with ⟨_, q⟩ | ⟨g, cap, cur, q1, q2, q3, q4, q5, q6, q7⟩
  · omega
  · injection q1 with e1 e2 e3
    have hB : Blk w g cur := ⟨_, q3⟩
    obtain ⟨ev, hev⟩ : ∃ ev, ents[i]? = some ev := ⟨_, List.getElem?_eq_getElem hi⟩
    obtain ⟨e, s, n, h1, h2, h3, h4⟩ := h.ent i ev hev
    have hc : w.cell? ⟨g, i, none⟩ = some ev := by
      rw [hB.cell, ← Array.getElem?_toList, ← hev, ← q7, List.getElem?_take_of_lt (by omega)]
    refine ⟨g, e, e1, hB.lt, by rw [hc, h1], h3.lt, fun k hk => ?_⟩
    obtain ⟨m1, m2⟩ := h4 k hk
    obtain ⟨b, cp, hf⟩ := m1.form
    refine ⟨b, n k, cp, m2, ?_, fun j hj => ?_⟩
    · rw [h3.cell, ← hf]
      match k, hk with
      | 0, _ => rfl
      | 1, _ => rfl
      | 2, _ => rfl
      | 3, _ => rfl
    · rcases m1 with ⟨_, z⟩ | ⟨g', cap', cur', z1, z2, z3, z4, z5, z6⟩
      · omega
      · rw [hf] at z1
        injection z1 with y1
        exact ⟨g', y1, z3.lt, (z3.cell j).trans (z6 j hj)⟩
end

theorem mark_val (w : World) (i : Nat) (hi : i ≤ 1000000000000000) : Calls Tryz.prog 24 #[.int .i64 i] w fun e w' => e = .returned (.int .i64 (-7000 - i)) ∧ w' = w := by
  go_enter Tryz.func24, Tryz.ntmps24
  go_wp2_with fail
  go_ret
  exact ⟨rfl, rfl⟩

set_option maxRecDepth 100000 in
set_option maxHeartbeats 4000000 in
theorem looks_any {w : World} {G : Nat → Prop} {bb : Nat} {v : Value} {ents : List Value} (h : BookAt w G bb v ents) (hn : ents.length ≤ 100000000000000) :
    Calls Tryz.prog 11 #[.pointer (some ⟨bb, 0, none⟩)] w fun e w' => e = .returned (.bool true) ∧ Below w.heap.size w w' := by
  obtain ⟨va, vc, hv⟩ := h.form
  subst hv
  have c0 : w.cell? ⟨bb, 0, none⟩ = some (.slice va ents.length vc) := by rw [h.blk.cell]; rfl
  have hlt := h.blk.lt
  have AT := hide (fun i => h.at (i := i))
  have C0 := hide (later_cell c0 hlt)
  clear h
  generalize ents.length = n at *
  go_enter Tryz.func11, Tryz.ntmps11
  go_wp2_with fail
  go_loopw [3] (fun i w' => ∃ k : Nat, k ≤ 4 ∧ i = .int .i64 k ∧ Below w.heap.size w w') (fun i _ => 4 - (intOf i).toNat)
  case atStart => exact ⟨0, by omega, rfl, Below.refl _ _⟩
  case round =>
    obtain ⟨k, hk, rfl, hb⟩ := hrel
    have HB := hide hb
    clear hb
    by_cases hk4 : k < 4
    · have hki : (k : Int) < 4 := by omega
      go_wp2_with fail
      go_loopw [4] (fun i w' => ∃ i' : Nat, i' ≤ n ∧ i = .int .i64 i' ∧ Below w.heap.size w w') (fun i _ => n - (intOf i).toNat)
      case atStart => exact ⟨0, by omega, rfl, HB.out⟩
      case round =>
        obtain ⟨i, hi, rfl, hb⟩ := hrel
        clear HB
        have HB := hide hb
        have hz := hb.size
        have d0 := C0.out ⟨wr, hb⟩
        dsimp only at d0
        have hbl : bb < wr.heap.size := by omega
        by_cases hin : i < n
        · have hii : (i : Int) < (n : Int) := by omega
          obtain ⟨g, e, rfl, hg, ce, he, hat⟩ := AT.out i hin
          obtain ⟨b, m, cp, hm, ck, hat2⟩ := hat k hk4
          have CE := hide (later_cell ce hg)
          have CK := hide (later_cell ck he)
          have A2 := hide hat2
          clear hat hat2 hb ce ck
          go_wp2_with fail
          go_loopw [5] (fun i w' => ∃ j : Nat, j ≤ m ∧ i = .int .i64 j ∧ Below w.heap.size w w') (fun i _ => m - (intOf i).toNat)
          case atStart => exact ⟨0, by omega, rfl, HB.out⟩
          case round =>
            obtain ⟨j, hj, rfl, hb⟩ := hrel
            clear HB
            have HB := hide hb
            have hz3 := hb.size
            have x0 := C0.out ⟨wr, hb⟩
            have x1 := CE.out ⟨wr, hb⟩
            have x2 := CK.out ⟨wr, hb⟩
            dsimp only at x0 x1 x2
            have l0 : bb < wr.heap.size := by omega
            have l1 : g < wr.heap.size := by omega
            have l2 : e < wr.heap.size := by omega
            clear d0
            by_cases hjm : j < m
            · have hji : (j : Int) < (m : Int) := by omega
              obtain ⟨g', rfl, hg', cj⟩ := A2.out j hjm
              have x3 := (later_cell cj hg') ⟨wr, hb⟩
              dsimp only at x3
              have l3 : g' < wr.heap.size := by omega
              have y0 := later_cell x0 l0
              have y1 := later_cell x1 l1
              have y2 := later_cell x2 l2
              have y3 := later_cell x3 l3
              have MV := hide (fun x : Later wr => Calls.later_of (x := x) ((mark_val x.1 i (by omega)).mono (fun e w' ⟨h1, h2⟩ => ⟨h1, by rw [h2]; exact Below.refl _ _⟩)))
              clear cj hb
              go_wp2_with fail
              have hne : Nonempty (Later wr) := ⟨⟨wr, Below.refl _ _⟩⟩
              refine wp_region_later (by kernel_rfl) (by kernel_rfl) ?_
              repeat (go_big_quiet_step ((go_at_call 24; exact MV.out _)))
              refine wpQuiet_nil ?_
              rintro _ ⟨wl, rfl⟩
              clear hne
              have HL := hide (HB.out.trans (wl.2.mono hz3))
              clear MV y0 y1 y2 y3
              go_wp2_with fail
              exact ⟨⟨j + 1, by omega, by go_num, HL.out⟩, by simp [intOf] <;> omega⟩
            · have hji : ¬ (j : Int) < (m : Int) := by omega
              clear hb
              go_wp2_with fail
              exact ⟨⟨i + 1, by omega, by go_num, HB.out⟩, by simp [intOf] <;> omega⟩
        · have hii : ¬ (i : Int) < (n : Int) := by omega
          clear hb
          go_wp2_with fail
          exact ⟨⟨k + 1, by omega, by go_num, HB.out⟩, by simp [intOf] <;> omega⟩
    · have hki : ¬ (k : Int) < 4 := by omega
      go_wp2_with fail
      go_ret
      exact ⟨rfl, HB.out⟩

end Go.Proofs.YtloppmepfkkblaaGreat
end

section
/- The law's book: the statement of 'keep' that appends, in whatever order. -/
open Go Go.Proofs Go.RowKit
namespace Go.Proofs.YtloppmepfkkblaaGreat

theorem eval_put_ne {a : Act} {i j : Nat} {v : Value} (h : j ≠ i) : (a.put (some j) v).eval (.tmp i) = a.eval (.tmp i) := by
  show (a.tmps.setIfInBounds j v).getD i undef = a.tmps.getD i undef
  rw [Array.getD_eq_getD_getElem?, Array.getD_eq_getD_getElem?, Array.getElem?_setIfInBounds_ne h]
theorem eval_put_self {a : Act} {j : Nat} {v : Value} (h : j < a.tmps.size) : (a.put (some j) v).eval (.tmp j) = v := by
  show (a.tmps.setIfInBounds j v).getD j undef = v
  rw [Array.getD_eq_getD_getElem?, Array.getElem?_setIfInBounds_self_of_lt h]
  rfl

/-- A row of numbers that was laid for an append. -/
def Laid (W w : World) (v : Value) (m : Nat) (x : Int) : Prop := ∃ N, v = .slice (some ⟨N, 0, none⟩) m m ∧ W.heap.size ≤ N ∧ Blk w N (Array.replicate m (.int .i64 x))
theorem Laid.mk {W w w' : World} {v : Value} {m : Nat} {x : Int} {own : Option Nat} (h : Laid W w v m x) (hW : ∀ k, own = some k → k < W.heap.size) (k : MkW own x w w') : Laid W w' v m x := by
  obtain ⟨N, h1, h2, h3⟩ := h
  exact ⟨N, h1, h2, h3.same (k.block N h3.lt (fun e => by have := hW N e; omega))⟩

/-- What the frame holds all along. -/
structure KeepA (a : Act) (bp bv l : Value) (x : Int) : Prop where
  size : a.tmps.size = 51
  defers : a.defers = []
  e22 : a.eval (.tmp 22) = bp
  e26 : a.eval (.tmp 26) = bv
  els : ∀ i : Nat, i = 27 ∨ i = 28 ∨ i = 32 ∨ i = 37 → a.eval (.tmp i) = l
  exs : ∀ i : Nat, i = 29 ∨ i = 33 ∨ i = 34 ∨ (38 ≤ i ∧ i ≤ 43) → a.eval (.tmp i) = .int .i64 x
theorem KeepA.put {a : Act} {bp bv l : Value} {x : Int} (h : KeepA a bp bv l x) {j : Nat} (v : Value) (hj : j = 30 ∨ j = 31 ∨ j = 35 ∨ j = 36 ∨ 44 ≤ j) : KeepA (a.put (some j) v) bp bv l x :=
  ⟨(Array.size_setIfInBounds ..).trans h.size, h.defers, (eval_put_ne (i := 22) (j := j) (by omega)).trans h.e22, (eval_put_ne (i := 26) (j := j) (by omega)).trans h.e26, fun i hi => (eval_put_ne (i := i) (j := j) (by omega)).trans (h.els i hi), fun i hi => (eval_put_ne (i := i) (j := j) (by omega)).trans (h.exs i hi)⟩

/-- What stands behind the operations: c of the chain 8, 9, 14, 23; d: 13; e: 22. -/
structure KeepSt (W : World) (bp bv l : Value) (nl : Nat) (x : Int) (c : Nat) (d e : Bool) (a : Act) (w : World) : Prop where
  base : KeepA a bp bv l x
  mkw : MkW l.ownBlock x W w
  row : Marks w (fun k => l.ownBlock = some k) l nl x
  s30 : 1 ≤ c → Laid W w (a.eval (.tmp 30)) 1 x
  s31 : 2 ≤ c → Marks w (fun k => l.ownBlock = some k ∨ W.heap.size ≤ k) (a.eval (.tmp 31)) (nl + 1) x
  s35 : d = true → Laid W w (a.eval (.tmp 35)) 2 x
  s36 : 3 ≤ c → Marks w (fun k => l.ownBlock = some k ∨ W.heap.size ≤ k) (a.eval (.tmp 36)) (nl + 2) x
  s44 : e = true → Laid W w (a.eval (.tmp 44)) 6 x
  s45 : 4 ≤ c → Marks w (fun k => l.ownBlock = some k ∨ W.heap.size ≤ k) (a.eval (.tmp 45)) (nl + 6) x

section
variable {W w w' : World} {bp bv l : Value} {nl : Nat} {x : Int} {c : Nat} {d e : Bool} {a : Act}
theorem KeepSt.go (h : KeepSt W bp bv l nl x c d e a w) (hW : ∀ k, l.ownBlock = some k → k < W.heap.size) (m : MkW l.ownBlock x w w') : KeepSt W bp bv l nl x c d e a w' :=
  ⟨h.base, h.mkw.trans m, h.row.mk m, fun q => (h.s30 q).mk hW m, fun q => (h.s31 q).mk m, fun q => (h.s35 q).mk hW m, fun q => (h.s36 q).mk m, fun q => (h.s44 q).mk hW m, fun q => (h.s45 q).mk m⟩
theorem KeepSt.put30 (h : KeepSt W bp bv l nl x 0 d e a w) {v : Value} (hv : Laid W w v 1 x) : KeepSt W bp bv l nl x 1 d e (a.put (some 30) v) w := by
  refine ⟨h.base.put v (by omega), h.mkw, h.row, fun _ => by rw [eval_put_self (by rw [h.base.size]; omega)]; exact hv, fun q => by omega, fun q => by rw [eval_put_ne (by omega)]; exact h.s35 q, fun q => by omega, fun q => by rw [eval_put_ne (by omega)]; exact h.s44 q, fun q => by omega⟩
theorem KeepSt.put31 (h : KeepSt W bp bv l nl x 1 d e a w) {v : Value} (hv : Marks w (fun k => l.ownBlock = some k ∨ W.heap.size ≤ k) v (nl + 1) x) : KeepSt W bp bv l nl x 2 d e (a.put (some 31) v) w := by
  refine ⟨h.base.put v (by omega), h.mkw, h.row, fun q => by rw [eval_put_ne (by omega)]; exact h.s30 (by omega), fun _ => by rw [eval_put_self (by rw [h.base.size]; omega)]; exact hv, fun q => by rw [eval_put_ne (by omega)]; exact h.s35 q, fun q => by omega, fun q => by rw [eval_put_ne (by omega)]; exact h.s44 q, fun q => by omega⟩
theorem KeepSt.put35 (h : KeepSt W bp bv l nl x c false e a w) {v : Value} (hv : Laid W w v 2 x) : KeepSt W bp bv l nl x c true e (a.put (some 35) v) w := by
  refine ⟨h.base.put v (by omega), h.mkw, h.row, fun q => by rw [eval_put_ne (by omega)]; exact h.s30 q, fun q => by rw [eval_put_ne (by omega)]; exact h.s31 q, fun _ => by rw [eval_put_self (by rw [h.base.size]; omega)]; exact hv, fun q => by rw [eval_put_ne (by omega)]; exact h.s36 q, fun q => by rw [eval_put_ne (by omega)]; exact h.s44 q, fun q => by rw [eval_put_ne (by omega)]; exact h.s45 q⟩
theorem KeepSt.put36 (h : KeepSt W bp bv l nl x 2 d e a w) {v : Value} (hv : Marks w (fun k => l.ownBlock = some k ∨ W.heap.size ≤ k) v (nl + 2) x) : KeepSt W bp bv l nl x 3 d e (a.put (some 36) v) w := by
  refine ⟨h.base.put v (by omega), h.mkw, h.row, fun q => by rw [eval_put_ne (by omega)]; exact h.s30 (by omega), fun q => by rw [eval_put_ne (by omega)]; exact h.s31 (by omega), fun q => by rw [eval_put_ne (by omega)]; exact h.s35 q, fun _ => by rw [eval_put_self (by rw [h.base.size]; omega)]; exact hv, fun q => by rw [eval_put_ne (by omega)]; exact h.s44 q, fun q => by omega⟩
theorem KeepSt.put44 (h : KeepSt W bp bv l nl x c d false a w) {v : Value} (hv : Laid W w v 6 x) : KeepSt W bp bv l nl x c d true (a.put (some 44) v) w := by
  refine ⟨h.base.put v (by omega), h.mkw, h.row, fun q => by rw [eval_put_ne (by omega)]; exact h.s30 q, fun q => by rw [eval_put_ne (by omega)]; exact h.s31 q, fun q => by rw [eval_put_ne (by omega)]; exact h.s35 q, fun q => by rw [eval_put_ne (by omega)]; exact h.s36 q, fun _ => by rw [eval_put_self (by rw [h.base.size]; omega)]; exact hv, fun q => by rw [eval_put_ne (by omega)]; exact h.s45 q⟩
theorem KeepSt.put45 (h : KeepSt W bp bv l nl x 3 d e a w) {v : Value} (hv : Marks w (fun k => l.ownBlock = some k ∨ W.heap.size ≤ k) v (nl + 6) x) : KeepSt W bp bv l nl x 4 d e (a.put (some 45) v) w := by
  refine ⟨h.base.put v (by omega), h.mkw, h.row, fun q => by rw [eval_put_ne (by omega)]; exact h.s30 (by omega), fun q => by rw [eval_put_ne (by omega)]; exact h.s31 (by omega), fun q => by rw [eval_put_ne (by omega)]; exact h.s35 q, fun q => by rw [eval_put_ne (by omega)]; exact h.s36 (by omega), fun q => by rw [eval_put_ne (by omega)]; exact h.s44 q, fun _ => by rw [eval_put_self (by rw [h.base.size]; omega)]; exact hv⟩

theorem KeepSt.lay8 (h : KeepSt W bp bv l nl x 0 d e a w) (hW : ∀ k, l.ownBlock = some k → k < W.heap.size) : KeepSt W bp bv l nl x 1 d e (a.put (some 30) (.slice (some ⟨w.heap.size, 0, none⟩) 1 1)) (w.alloc (.cells (Array.replicate 1 (.int .i64 x)) 3)) :=
  (h.go hW (MkW.of_below ((Below.refl _ _).alloc (Nat.le_refl _) _))).put30 ⟨_, rfl, h.mkw.size, Blk.new _ _ _⟩
theorem KeepSt.lay13 (h : KeepSt W bp bv l nl x c false e a w) (hW : ∀ k, l.ownBlock = some k → k < W.heap.size) : KeepSt W bp bv l nl x c true e (a.put (some 35) (.slice (some ⟨w.heap.size, 0, none⟩) 2 2)) (w.alloc (.cells (Array.replicate 2 (.int .i64 x)) 3)) :=
  (h.go hW (MkW.of_below ((Below.refl _ _).alloc (Nat.le_refl _) _))).put35 ⟨_, rfl, h.mkw.size, Blk.new _ _ _⟩
theorem KeepSt.lay22 (h : KeepSt W bp bv l nl x c d false a w) (hW : ∀ k, l.ownBlock = some k → k < W.heap.size) : KeepSt W bp bv l nl x c d true (a.put (some 44) (.slice (some ⟨w.heap.size, 0, none⟩) 6 6)) (w.alloc (.cells (Array.replicate 6 (.int .i64 x)) 3)) :=
  (h.go hW (MkW.of_below ((Below.refl _ _).alloc (Nat.le_refl _) _))).put44 ⟨_, rfl, h.mkw.size, Blk.new _ _ _⟩
end

end Go.Proofs.YtloppmepfkkblaaGreat
end

section
/- The law's book: the statement of 'keep' that appends: every order of it. -/
open Go Go.Proofs Go.RowKit
namespace Go.Proofs.YtloppmepfkkblaaGreat

/-- What is done at the state c, d, e. -/
def LS (c : Nat) (d e f g h : Bool) (t : Nat) : Array Bool :=
  #[true, true, true, true, true, true, true, true, decide (1 ≤ c), decide (2 ≤ c), true, true, true, d, decide (3 ≤ c), true, true, true, true, true, true, true, e, decide (4 ≤ c), f, g, h, decide (1 ≤ t), decide (2 ≤ t), decide (3 ≤ t)]

structure KeepOps (ops : Array Oper) : Prop where
  o8 : ∃ o, ops[8]? = some o ∧ o.guard = none ∧ o.dst = some 30 ∧ o.op = .buildSlice 32 1 #[(0, .tmp 29)]
  o9 : ∃ o, ops[9]? = some o ∧ o.guard = none ∧ o.dst = some 31 ∧ o.op = .call { callee := .builtin .append, args := #[.tmp 28, .tmp 30], argTypes := #[32, 32] }
  o13 : ∃ o, ops[13]? = some o ∧ o.guard = none ∧ o.dst = some 35 ∧ o.op = .buildSlice 32 2 #[(0, .tmp 33), (1, .tmp 34)]
  o14 : ∃ o, ops[14]? = some o ∧ o.guard = none ∧ o.dst = some 36 ∧ o.op = .call { callee := .builtin .append, args := #[.tmp 32, .tmp 35], argTypes := #[32, 32] }
  o22 : ∃ o, ops[22]? = some o ∧ o.guard = none ∧ o.dst = some 44 ∧ o.op = .buildSlice 32 6 #[(0, .tmp 38), (1, .tmp 39), (2, .tmp 40), (3, .tmp 41), (4, .tmp 42), (5, .tmp 43)]
  o23 : ∃ o, ops[23]? = some o ∧ o.guard = none ∧ o.dst = some 45 ∧ o.op = .call { callee := .builtin .append, args := #[.tmp 37, .tmp 44], argTypes := #[32, 32] }
  o24 : ∃ o, ops[24]? = some o ∧ o.guard = none ∧ o.dst = some 46 ∧ o.op = .buildSlice 55 4 #[(0, .tmp 27), (1, .tmp 31), (2, .tmp 36), (3, .tmp 45)]
  o25 : ∃ o, ops[25]? = some o ∧ o.guard = none ∧ o.dst = some 47 ∧ o.op = .buildSlice 29 1 #[(0, .tmp 46)]
  o26 : ∃ o, ops[26]? = some o ∧ o.guard = none ∧ o.dst = some 48 ∧ o.op = .call { callee := .builtin .append, args := #[.tmp 26, .tmp 47], argTypes := #[29, 29] }
  o27 : ∃ o, ops[27]? = some o ∧ o.guard = none ∧ o.dst = some 49 ∧ o.op = .nilCheck (.tmp 22)
  o28 : ∃ o, ops[28]? = some o ∧ o.guard = none ∧ o.dst = some 50 ∧ o.op = .fieldAddr 31 (.tmp 49) 0
  o29 : ∃ o, ops[29]? = some o ∧ o.guard = none ∧ o.dst = none ∧ o.op = .store 29 (.tmp 50) (.tmp 48)
  r000 : Region.ready .any ops (LS 0 false false false false false 0) = [8, 13, 22]
  r001 : Region.ready .any ops (LS 0 false true false false false 0) = [8, 13]
  r010 : Region.ready .any ops (LS 0 true false false false false 0) = [8, 22]
  r011 : Region.ready .any ops (LS 0 true true false false false 0) = [8]
  r100 : Region.ready .any ops (LS 1 false false false false false 0) = [9, 13, 22]
  r101 : Region.ready .any ops (LS 1 false true false false false 0) = [9, 13]
  r110 : Region.ready .any ops (LS 1 true false false false false 0) = [9, 22]
  r111 : Region.ready .any ops (LS 1 true true false false false 0) = [9]
  r200 : Region.ready .any ops (LS 2 false false false false false 0) = [13, 22]
  r201 : Region.ready .any ops (LS 2 false true false false false 0) = [13]
  r210 : Region.ready .any ops (LS 2 true false false false false 0) = [14, 22]
  r211 : Region.ready .any ops (LS 2 true true false false false 0) = [14]
  r310 : Region.ready .any ops (LS 3 true false false false false 0) = [22]
  r311 : Region.ready .any ops (LS 3 true true false false false 0) = [23]
  r411 : Region.ready .any ops (LS 4 true true false false false 0) = [24]
  rf : Region.ready .any ops (LS 4 true true true false false 0) = [25]
  rg : Region.ready .any ops (LS 4 true true true true false 0) = [26]
  rh : Region.ready .any ops (LS 4 true true true true true 0) = [27]
  rt1 : Region.ready .any ops (LS 4 true true true true true 1) = [28]
  rt2 : Region.ready .any ops (LS 4 true true true true true 2) = [29]
  rt3 : Region.ready .any ops (LS 4 true true true true true 3) = []

section
variable {P : Program} {md : Region.Mode} {ops : Array Oper} {Q : Exit → Act → World → Prop} {S : World → Prop} {n : Nat}
theorem wpAnyT_step {l : List Nat} {fuel : Nat} {listed : Array Bool} {a : Act} {w : World} (hr : Region.ready md ops listed = l) (hne : l ≠ [])
    (h : ∀ i ∈ l, ∃ o, ops[i]? = some o ∧ o.guard = none ∧ ∀ K : Act → World → Prop, (∀ a' w', (i < n → S w') → wpAnyT P md ops Q S n fuel (listed.setIfInBounds i true) a' w' → K a' w') → Oper.wp P o a w K Q) : wpAnyT P md ops Q S n (fuel + 1) listed a w := by
  refine ⟨fun h0 => absurd (hr.symm.trans h0) hne, fun j hj => ?_⟩
  rw [hr] at hj
  obtain ⟨o, ho, hg, hw⟩ := h j hj
  have hwd : Region.wanted o (yielded ops a.tmps) = true := by simp [Region.wanted, hg]
  unfold wpOp
  simp only [ho, hwd, if_true]
  exact Or.inl (hw _ (fun a' w' h1 h2 => ⟨h1, h2⟩))
end

/-- What is left at the end. -/
def KeepEnd (W : World) (bb : Nat) (bv l : Value) (nl ne : Nat) (x : Int) (ents : List Value) (w' : World) : Prop :=
  ∃ w6 v1 v2 v3 g cap w8, MkW l.ownBlock x W w6 ∧ Marks w6 (fun k => l.ownBlock = some k) l nl x ∧ Marks w6 (fun k => l.ownBlock = some k ∨ W.heap.size ≤ k) v1 (nl + 1) x ∧ Marks w6 (fun k => l.ownBlock = some k ∨ W.heap.size ≤ k) v2 (nl + 2) x ∧ Marks w6 (fun k => l.ownBlock = some k ∨ W.heap.size ≤ k) v3 (nl + 6) x ∧
    w8.ownsRow 0 55 1 (.slice (some ⟨g, 0, none⟩) (ne + 1) cap) (ne + 1) (ents ++ [.slice (some ⟨w6.heap.size, 0, none⟩) 4 4]) ∧ ((w6.alloc (.cells #[l, v1, v2, v3] 32)).alloc (.cells #[.slice (some ⟨w6.heap.size, 0, none⟩) 4 4] 55)).grownBy w8 bv.ownBlock ∧ (bv.ownBlock = some g ∨ g = w6.heap.size + 2) ∧
    w' = w8.setCell ⟨bb, 0, none⟩ (.slice (some ⟨g, 0, none⟩) (ne + 1) cap)

section
variable {W w : World} {bp bv l : Value} {nl : Nat} {x : Int} {c : Nat} {d e : Bool} {a : Act} {K : Act → World → Prop} {Q : Exit → Act → World → Prop} {o : Oper}
theorem KeepSt.wp8 (h : KeepSt W bp bv l nl x 0 d e a w) (hW : ∀ k, l.ownBlock = some k → k < W.heap.size) (hd : o.dst = some 30) (ho : o.op = .buildSlice 32 1 #[(0, .tmp 29)])
    (hK : ∀ a' w', KeepSt W bp bv l nl x 1 d e a' w' → K a' w') : o.wp Tryz.prog a w K Q := by
  refine wp_buildSlice 32 3 1 _ ho (Array.replicate 1 (.int .i64 x)) Tryz.t3 (.int .i64 0) Tryz.underlying32 (by kernel_rfl) (by kernel_rfl) (by decide +kernel) (by decide +kernel) ?_ ?_
  · simp only [List.map_toArray, List.map_cons, List.map_nil, h.base.exs 29 (by omega)]
    kernel_rfl
  · rw [hd]
    exact hK _ _ (h.lay8 hW)
theorem KeepSt.wp13 (h : KeepSt W bp bv l nl x c false e a w) (hW : ∀ k, l.ownBlock = some k → k < W.heap.size) (hd : o.dst = some 35) (ho : o.op = .buildSlice 32 2 #[(0, .tmp 33), (1, .tmp 34)])
    (hK : ∀ a' w', KeepSt W bp bv l nl x c true e a' w' → K a' w') : o.wp Tryz.prog a w K Q := by
  refine wp_buildSlice 32 3 2 _ ho (Array.replicate 2 (.int .i64 x)) Tryz.t3 (.int .i64 0) Tryz.underlying32 (by kernel_rfl) (by kernel_rfl) (by decide +kernel) (by decide +kernel) ?_ ?_
  · simp only [List.map_toArray, List.map_cons, List.map_nil, h.base.exs 33 (by omega), h.base.exs 34 (by omega)]
    kernel_rfl
  · rw [hd]
    exact hK _ _ (h.lay13 hW)
theorem KeepSt.wp22 (h : KeepSt W bp bv l nl x c d false a w) (hW : ∀ k, l.ownBlock = some k → k < W.heap.size) (hd : o.dst = some 44) (ho : o.op = .buildSlice 32 6 #[(0, .tmp 38), (1, .tmp 39), (2, .tmp 40), (3, .tmp 41), (4, .tmp 42), (5, .tmp 43)])
    (hK : ∀ a' w', KeepSt W bp bv l nl x c d true a' w' → K a' w') : o.wp Tryz.prog a w K Q := by
  refine wp_buildSlice 32 3 6 _ ho (Array.replicate 6 (.int .i64 x)) Tryz.t3 (.int .i64 0) Tryz.underlying32 (by kernel_rfl) (by kernel_rfl) (by decide +kernel) (by decide +kernel) ?_ ?_
  · simp only [List.map_toArray, List.map_cons, List.map_nil, h.base.exs 38 (by omega), h.base.exs 39 (by omega), h.base.exs 40 (by omega), h.base.exs 41 (by omega), h.base.exs 42 (by omega), h.base.exs 43 (by omega)]
    kernel_rfl
  · rw [hd]
    exact hK _ _ (h.lay22 hW)
theorem KeepSt.wp9 (h : KeepSt W bp bv l nl x 1 d e a w) (hW : ∀ k, l.ownBlock = some k → k < W.heap.size) (hlen : nl ≤ 900000) (hd : o.dst = some 31) (ho : o.op = .call { callee := .builtin .append, args := #[.tmp 28, .tmp 30], argTypes := #[32, 32] })
    (hK : ∀ a' w', KeepSt W bp bv l nl x 2 d e a' w' → K a' w') : o.wp Tryz.prog a w K Q := by
  obtain ⟨N, h1, h2, h3⟩ := h.s30 (by omega)
  refine wp_marks w (.tmp 28) (.tmp 30) ho (fun k => l.ownBlock = some k) l nl x (h.base.els 28 (by omega)) h.row N 1 h1 h3 (by omega) (fun v' w' m1 m2 => ?_)
  rw [hd]
  exact hK _ _ ((h.go hW m2).put31 (m1.sub (fun k hk => hk.imp id (fun q => Nat.le_trans h.mkw.size q))))
theorem KeepSt.wp14 (h : KeepSt W bp bv l nl x 2 true e a w) (hW : ∀ k, l.ownBlock = some k → k < W.heap.size) (hlen : nl ≤ 900000) (hd : o.dst = some 36) (ho : o.op = .call { callee := .builtin .append, args := #[.tmp 32, .tmp 35], argTypes := #[32, 32] })
    (hK : ∀ a' w', KeepSt W bp bv l nl x 3 true e a' w' → K a' w') : o.wp Tryz.prog a w K Q := by
  obtain ⟨N, h1, h2, h3⟩ := h.s35 rfl
  refine wp_marks w (.tmp 32) (.tmp 35) ho (fun k => l.ownBlock = some k) l nl x (h.base.els 32 (by omega)) h.row N 2 h1 h3 (by omega) (fun v' w' m1 m2 => ?_)
  rw [hd]
  exact hK _ _ ((h.go hW m2).put36 (m1.sub (fun k hk => hk.imp id (fun q => Nat.le_trans h.mkw.size q))))
theorem KeepSt.wp23 (h : KeepSt W bp bv l nl x 3 d true a w) (hW : ∀ k, l.ownBlock = some k → k < W.heap.size) (hlen : nl ≤ 900000) (hd : o.dst = some 45) (ho : o.op = .call { callee := .builtin .append, args := #[.tmp 37, .tmp 44], argTypes := #[32, 32] })
    (hK : ∀ a' w', KeepSt W bp bv l nl x 4 d true a' w' → K a' w') : o.wp Tryz.prog a w K Q := by
  obtain ⟨N, h1, h2, h3⟩ := h.s44 rfl
  refine wp_marks w (.tmp 37) (.tmp 44) ho (fun k => l.ownBlock = some k) l nl x (h.base.els 37 (by omega)) h.row N 6 h1 h3 (by omega) (fun v' w' m1 m2 => ?_)
  rw [hd]
  exact hK _ _ ((h.go hW m2).put45 (m1.sub (fun k hk => hk.imp id (fun q => Nat.le_trans h.mkw.size q))))
end

end Go.Proofs.YtloppmepfkkblaaGreat
end

section
/- The law's book: the statement of 'keep' that appends: what it leaves, in whatever order. -/
open Go Go.Proofs Go.RowKit
namespace Go.Proofs.YtloppmepfkkblaaGreat

set_option maxHeartbeats 4000000 in
theorem keep_core {ops : Array Oper} {Q : Exit → Act → World → Prop} {S : World → Prop} {W : World} {bb : Nat} {bv l : Value} {nl ne : Nat} {x : Int} {ents : List Value} (ho : KeepOps ops)
    (hW : ∀ k, l.ownBlock = some k → k < W.heap.size) (hlen : nl ≤ 900000) (hne : ne ≤ 5000000000000) (hrow : W.ownsRow 0 55 1 bv ne ents) (hbv : ∀ k, bv.ownBlock = some k → k < W.heap.size ∧ l.ownBlock ≠ some k ∧ k ≠ bb) (hlb : l.ownBlock ≠ some bb)
    (hblk : ∃ u, Blk W bb #[u]) (hS : ∀ w', w'.heap[bb]? = W.heap[bb]? → S w')
    (hQ : ∀ tmps w', KeepEnd W bb bv l nl ne x ents w' → Q .normal ⟨tmps, []⟩ w') :
    ∀ a w, KeepSt W (.pointer (some ⟨bb, 0, none⟩)) bv l nl x 0 false false a w → wpAnyT Tryz.prog .any ops Q S 27 12 (LS 0 false false false false false 0) a w := by
  have hbb : bb < W.heap.size := by obtain ⟨u, h⟩ := hblk; exact h.lt
  have hSt : ∀ {c d e a w}, KeepSt W (.pointer (some ⟨bb, 0, none⟩)) bv l nl x c d e a w → S w := fun h => hS _ (h.mkw.block bb hbb hlb)
  have st411 : ∀ a w, KeepSt W (.pointer (some ⟨bb, 0, none⟩)) bv l nl x 4 true true a w → wpAnyT Tryz.prog .any ops Q S 27 6 (LS 4 true true false false false 0) a w := by
    intro a w h
    have hb1 : w.heap[bb]? = W.heap[bb]? := h.mkw.block bb hbb hlb
    have hz := h.mkw.size
    refine wpAnyT_step ho.r411 (by simp) (fun i hi => ?_)
    obtain rfl := List.mem_singleton.1 hi
    obtain ⟨o, o1, o2, o3, o4⟩ := ho.o24
    refine ⟨o, o1, o2, fun K hK => wp_buildSlice 55 32 4 _ o4 #[l, a.eval (.tmp 31), a.eval (.tmp 36), a.eval (.tmp 45)] Tryz.t32 (.slice none 0 0) Tryz.underlying55 (by kernel_rfl) (by kernel_rfl) (by decide +kernel) (by decide +kernel) ?_ ?_⟩
    · obtain ⟨a1, c1, e1⟩ := (h.s31 (by omega)).form
      obtain ⟨a2, c2, e2⟩ := (h.s36 (by omega)).form
      obtain ⟨a3, c3, e3⟩ := (h.s45 (by omega)).form
      obtain ⟨a0, c0, e0⟩ := h.row.form
      simp only [List.map_toArray, List.map_cons, List.map_nil, h.base.els 27 (by omega), e1, e2, e3]
      rw [e0]
      kernel_rfl
    rw [o3]
    have q1 : Below w.heap.size w (w.alloc (.cells #[l, a.eval (.tmp 31), a.eval (.tmp 36), a.eval (.tmp 45)] 32)) := (Below.refl _ _).alloc (Nat.le_refl _) _
    have A1 := h.base.put (j := 46) (.slice (some ⟨w.heap.size, 0, none⟩) 4 4) (by omega)
    have f46 : (a.put (some 46) (.slice (some ⟨w.heap.size, 0, none⟩) 4 4)).eval (.tmp 46) = .slice (some ⟨w.heap.size, 0, none⟩) 4 4 := eval_put_self (by rw [h.base.size]; omega)
    refine hK _ _ (fun _ => hS _ ((q1.block bb (by omega)).trans hb1)) ?_
    clear hK
    rw [show (LS 4 true true false false false 0).setIfInBounds 24 true = LS 4 true true true false false 0 from by kernel_rfl]
    refine wpAnyT_step ho.rf (by simp) (fun i hi => ?_)
    obtain rfl := List.mem_singleton.1 hi
    obtain ⟨o, o1, o2, o3, o4⟩ := ho.o25
    refine ⟨o, o1, o2, fun K hK => wp_buildSlice 29 55 1 _ o4 #[.slice (some ⟨w.heap.size, 0, none⟩) 4 4] Tryz.t55 (.slice none 0 0) Tryz.underlying29 (by kernel_rfl) (by kernel_rfl) (by decide +kernel) (by decide +kernel) ?_ ?_⟩
    · simp only [List.map_toArray, List.map_cons, List.map_nil, f46]
      kernel_rfl
    rw [o3]
    have q2 : Below w.heap.size w ((w.alloc (.cells #[l, a.eval (.tmp 31), a.eval (.tmp 36), a.eval (.tmp 45)] 32)).alloc (.cells #[.slice (some ⟨w.heap.size, 0, none⟩) 4 4] 55)) := q1.alloc q1.size _
    have hsz1 : (w.alloc (.cells #[l, a.eval (.tmp 31), a.eval (.tmp 36), a.eval (.tmp 45)] 32)).heap.size = w.heap.size + 1 := by simp
    rw [hsz1]
    have A2 := A1.put (j := 47) (.slice (some ⟨w.heap.size + 1, 0, none⟩) 1 1) (by omega)
    have f47 : ((a.put (some 46) (.slice (some ⟨w.heap.size, 0, none⟩) 4 4)).put (some 47) (.slice (some ⟨w.heap.size + 1, 0, none⟩) 1 1)).eval (.tmp 47) = .slice (some ⟨w.heap.size + 1, 0, none⟩) 1 1 := eval_put_self (by rw [A1.size]; omega)
    refine hK _ _ (fun _ => hS _ ((q2.block bb (by omega)).trans hb1)) ?_
    clear hK
    rw [show (LS 4 true true true false false 0).setIfInBounds 25 true = LS 4 true true true true false 0 from by kernel_rfl]
    have hrow2 : ((w.alloc (.cells #[l, a.eval (.tmp 31), a.eval (.tmp 36), a.eval (.tmp 45)] 32)).alloc (.cells #[.slice (some ⟨w.heap.size, 0, none⟩) 4 4] 55)).ownsRow 0 55 1 bv ne ents := by
      refine ⟨hrow.1, ?_⟩
      rcases hrow.2 with q | ⟨g, cap, cur, z1, z2, z3, z4⟩
      · exact Or.inl q
      · obtain ⟨y1, y2, y3⟩ := hbv g (by rw [z1]; rfl)
        exact Or.inr ⟨g, cap, cur, z1, z2, ((q2.block g (by omega)).trans (h.mkw.block g y1 y2)).trans z3, z4⟩
    have hnew : Blk ((w.alloc (.cells #[l, a.eval (.tmp 31), a.eval (.tmp 36), a.eval (.tmp 45)] 32)).alloc (.cells #[.slice (some ⟨w.heap.size, 0, none⟩) 4 4] 55)) (w.heap.size + 1) #[.slice (some ⟨w.heap.size, 0, none⟩) 4 4] := Blk.new' hsz1.symm
    have hsz2 : ((w.alloc (.cells #[l, a.eval (.tmp 31), a.eval (.tmp 36), a.eval (.tmp 45)] 32)).alloc (.cells #[.slice (some ⟨w.heap.size, 0, none⟩) 4 4] 55)).heap.size = w.heap.size + 2 := by simp
    refine wpAnyT_step ho.rg (by simp) (fun i hi => ?_)
    obtain rfl := List.mem_singleton.1 hi
    obtain ⟨o, o1, o2, o3, o4⟩ := ho.o26
    refine ⟨o, o1, o2, fun K hK => wp_append_lies _ (.tmp 26) (.tmp 47) 29 o4 0 55 Tryz.t55 (.slice none 0 0) 1 24 Tryz.underlying29 (by kernel_rfl) (by kernel_rfl) (by kernel_rfl) (by kernel_rfl) (by rfl) (by omega) bv ne ents A2.e26 hrow2 ⟨w.heap.size + 1, 0, none⟩ 1 1 [.slice (some ⟨w.heap.size, 0, none⟩) 4 4] f47 (by rfl) (fun j u hu => ?_) (fun u hu => by rw [List.mem_singleton.1 hu]; rfl) (by omega) (by unfold maxLen; omega) (by omega) (by omega) (w.heap.size + 2) hsz2 ?_⟩
    · rw [Addr.add_lit, Nat.zero_add, hnew.cell, ← hu, ← Array.getElem?_toList]
    rw [o3]
    intro g cap w8 hown8 hgrow hat hlt
    have hb8 : w8.heap[bb]? = W.heap[bb]? := (hgrow.block bb (by rw [hsz2]; omega) (fun e => (hbv bb e.symm).2.2 rfl)).trans ((q2.block bb (by omega)).trans hb1)
    have A3 := A2.put (j := 48) (.slice (some ⟨g, 0, none⟩) (ne + 1) cap) (by omega)
    have f48 := eval_put_self (a := ((a.put (some 46) (.slice (some ⟨w.heap.size, 0, none⟩) 4 4)).put (some 47) (.slice (some ⟨w.heap.size + 1, 0, none⟩) 1 1))) (j := 48) (v := .slice (some ⟨g, 0, none⟩) (ne + 1) cap) (by rw [A2.size]; omega)
    refine hK _ _ (fun _ => hS _ hb8) ?_
    clear hK
    rw [show (LS 4 true true true true false 0).setIfInBounds 26 true = LS 4 true true true true true 0 from by kernel_rfl]
    have hend : KeepEnd W bb bv l nl ne x ents (w8.setCell ⟨bb, 0, none⟩ (.slice (some ⟨g, 0, none⟩) (ne + 1) cap)) := ⟨w, _, _, _, g, cap, w8, h.mkw, h.row, h.s31 (by omega), h.s36 (by omega), h.s45 (by omega), hown8, hgrow, hat, rfl⟩
    obtain ⟨u, hu⟩ := hblk
    have hub : Blk w8 bb #[u] := hu.same hb8
    clear hown8 hgrow hat hlt hnew hrow2 hsz1 hsz2 q1 q2 f46 f47 A1 A2
    generalize ((a.put (some 46) (.slice (some ⟨w.heap.size, 0, none⟩) 4 4)).put (some 47) (.slice (some ⟨w.heap.size + 1, 0, none⟩) 1 1)).put (some 48) (.slice (some ⟨g, 0, none⟩) (ne + 1) cap) = a3 at *
    refine wpAnyT_step ho.rh (by simp) (fun i hi => ?_)
    obtain rfl := List.mem_singleton.1 hi
    obtain ⟨o, o1, o2, o3, o4⟩ := ho.o27
    refine ⟨o, o1, o2, fun K hK => ?_⟩
    unfold Oper.wp execOp
    simp only [o4, A3.e22]
    simp [go_sem]
    show K (a3.put o.dst (.pointer (some ⟨bb, 0, none⟩))) w8
    rw [o3]
    have A4 := A3.put (j := 49) (.pointer (some ⟨bb, 0, none⟩)) (by omega)
    have f49 : (a3.put (some 49) (.pointer (some ⟨bb, 0, none⟩))).eval (.tmp 49) = .pointer (some ⟨bb, 0, none⟩) := eval_put_self (by rw [A3.size]; omega)
    have g48 : (a3.put (some 49) (.pointer (some ⟨bb, 0, none⟩))).eval (.tmp 48) = .slice (some ⟨g, 0, none⟩) (ne + 1) cap := (eval_put_ne (i := 48) (j := 49) (by omega)).trans f48
    refine hK _ _ (fun h => absurd h (by omega)) ?_
    clear hK
    rw [show (LS 4 true true true true true 0).setIfInBounds 27 true = LS 4 true true true true true 1 from by kernel_rfl]
    clear A3 f48
    generalize a3.put (some 49) (.pointer (some ⟨bb, 0, none⟩)) = a4 at *
    refine wpAnyT_step ho.rt1 (by simp) (fun i hi => ?_)
    obtain rfl := List.mem_singleton.1 hi
    obtain ⟨o, o1, o2, o3, o4⟩ := ho.o28
    refine ⟨o, o1, o2, fun K hK => ?_⟩
    unfold Oper.wp execOp
    simp only [o4, f49]
    simp [go_sem]
    show K (a4.put o.dst (.pointer (some ⟨bb, 0, none⟩))) w8
    rw [o3]
    have f50 : (a4.put (some 50) (.pointer (some ⟨bb, 0, none⟩))).eval (.tmp 50) = .pointer (some ⟨bb, 0, none⟩) := eval_put_self (by rw [A4.size]; omega)
    have k48 : (a4.put (some 50) (.pointer (some ⟨bb, 0, none⟩))).eval (.tmp 48) = .slice (some ⟨g, 0, none⟩) (ne + 1) cap := (eval_put_ne (i := 48) (j := 50) (by omega)).trans g48
    have A5 := A4.put (j := 50) (.pointer (some ⟨bb, 0, none⟩)) (by omega)
    refine hK _ _ (fun h => absurd h (by omega)) ?_
    clear hK
    rw [show (LS 4 true true true true true 1).setIfInBounds 28 true = LS 4 true true true true true 2 from by kernel_rfl]
    clear A4 f49 g48
    generalize a4.put (some 50) (.pointer (some ⟨bb, 0, none⟩)) = a5 at *
    refine wpAnyT_step ho.rt2 (by simp) (fun i hi => ?_)
    obtain rfl := List.mem_singleton.1 hi
    obtain ⟨o, o1, o2, o3, o4⟩ := ho.o29
    refine ⟨o, o1, o2, fun K hK => ?_⟩
    have cb : w8.cell? ⟨bb, 0, none⟩ = some u := (hub.cell 0).trans rfl
    have fz := hub.frozen 0
    unfold Oper.wp execOp
    simp only [o4, f50, k48]
    simp [go_sem, cb, fz]
    refine hK _ _ (fun h => absurd h (by omega)) ?_
    rw [show (LS 4 true true true true true 2).setIfInBounds 29 true = LS 4 true true true true true 3 from by kernel_rfl]
    refine wpAnyT_done ho.rt3 ?_
    rw [o3]
    have e5 : a5 = ⟨a5.tmps, []⟩ := by
      obtain ⟨t5, d5⟩ := a5
      have := A5.defers
      simp only at this
      rw [this]
    show Q .normal a5 _
    rw [e5]
    exact hQ _ _ hend
  have st311 : ∀ a w, KeepSt W (.pointer (some ⟨bb, 0, none⟩)) bv l nl x 3 true true a w → wpAnyT Tryz.prog .any ops Q S 27 7 (LS 3 true true false false false 0) a w := by
    intro a w h
    refine wpAnyT_step ho.r311 (by simp) (fun i hi => ?_)
    simp only [List.mem_cons, List.not_mem_nil, or_false] at hi
    rcases hi with rfl
    · obtain ⟨o, o1, o2, o3, o4⟩ := ho.o23
      refine ⟨o, o1, o2, fun K hK => h.wp23 hW hlen o3 o4 (fun a' w' h' => hK a' w' (fun _ => hSt h') ?_)⟩
      rw [show (LS 3 true true false false false 0).setIfInBounds 23 true = LS 4 true true false false false 0 from by kernel_rfl]
      exact st411 a' w' h'
  have st310 : ∀ a w, KeepSt W (.pointer (some ⟨bb, 0, none⟩)) bv l nl x 3 true false a w → wpAnyT Tryz.prog .any ops Q S 27 8 (LS 3 true false false false false 0) a w := by
    intro a w h
    refine wpAnyT_step ho.r310 (by simp) (fun i hi => ?_)
    simp only [List.mem_cons, List.not_mem_nil, or_false] at hi
    rcases hi with rfl
    · obtain ⟨o, o1, o2, o3, o4⟩ := ho.o22
      refine ⟨o, o1, o2, fun K hK => h.wp22 hW o3 o4 (fun a' w' h' => hK a' w' (fun _ => hSt h') ?_)⟩
      rw [show (LS 3 true false false false false 0).setIfInBounds 22 true = LS 3 true true false false false 0 from by kernel_rfl]
      exact st311 a' w' h'
  have st211 : ∀ a w, KeepSt W (.pointer (some ⟨bb, 0, none⟩)) bv l nl x 2 true true a w → wpAnyT Tryz.prog .any ops Q S 27 8 (LS 2 true true false false false 0) a w := by
    intro a w h
    refine wpAnyT_step ho.r211 (by simp) (fun i hi => ?_)
    simp only [List.mem_cons, List.not_mem_nil, or_false] at hi
    rcases hi with rfl
    · obtain ⟨o, o1, o2, o3, o4⟩ := ho.o14
      refine ⟨o, o1, o2, fun K hK => h.wp14 hW hlen o3 o4 (fun a' w' h' => hK a' w' (fun _ => hSt h') ?_)⟩
      rw [show (LS 2 true true false false false 0).setIfInBounds 14 true = LS 3 true true false false false 0 from by kernel_rfl]
      exact st311 a' w' h'
  have st210 : ∀ a w, KeepSt W (.pointer (some ⟨bb, 0, none⟩)) bv l nl x 2 true false a w → wpAnyT Tryz.prog .any ops Q S 27 9 (LS 2 true false false false false 0) a w := by
    intro a w h
    refine wpAnyT_step ho.r210 (by simp) (fun i hi => ?_)
    simp only [List.mem_cons, List.not_mem_nil, or_false] at hi
    rcases hi with rfl | rfl
    · obtain ⟨o, o1, o2, o3, o4⟩ := ho.o14
      refine ⟨o, o1, o2, fun K hK => h.wp14 hW hlen o3 o4 (fun a' w' h' => hK a' w' (fun _ => hSt h') ?_)⟩
      rw [show (LS 2 true false false false false 0).setIfInBounds 14 true = LS 3 true false false false false 0 from by kernel_rfl]
      exact st310 a' w' h'
    · obtain ⟨o, o1, o2, o3, o4⟩ := ho.o22
      refine ⟨o, o1, o2, fun K hK => h.wp22 hW o3 o4 (fun a' w' h' => hK a' w' (fun _ => hSt h') ?_)⟩
      rw [show (LS 2 true false false false false 0).setIfInBounds 22 true = LS 2 true true false false false 0 from by kernel_rfl]
      exact st211 a' w' h'
  have st201 : ∀ a w, KeepSt W (.pointer (some ⟨bb, 0, none⟩)) bv l nl x 2 false true a w → wpAnyT Tryz.prog .any ops Q S 27 9 (LS 2 false true false false false 0) a w := by
    intro a w h
    refine wpAnyT_step ho.r201 (by simp) (fun i hi => ?_)
    simp only [List.mem_cons, List.not_mem_nil, or_false] at hi
    rcases hi with rfl
    · obtain ⟨o, o1, o2, o3, o4⟩ := ho.o13
      refine ⟨o, o1, o2, fun K hK => h.wp13 hW o3 o4 (fun a' w' h' => hK a' w' (fun _ => hSt h') ?_)⟩
      rw [show (LS 2 false true false false false 0).setIfInBounds 13 true = LS 2 true true false false false 0 from by kernel_rfl]
      exact st211 a' w' h'
  have st200 : ∀ a w, KeepSt W (.pointer (some ⟨bb, 0, none⟩)) bv l nl x 2 false false a w → wpAnyT Tryz.prog .any ops Q S 27 10 (LS 2 false false false false false 0) a w := by
    intro a w h
    refine wpAnyT_step ho.r200 (by simp) (fun i hi => ?_)
    simp only [List.mem_cons, List.not_mem_nil, or_false] at hi
    rcases hi with rfl | rfl
    · obtain ⟨o, o1, o2, o3, o4⟩ := ho.o13
      refine ⟨o, o1, o2, fun K hK => h.wp13 hW o3 o4 (fun a' w' h' => hK a' w' (fun _ => hSt h') ?_)⟩
      rw [show (LS 2 false false false false false 0).setIfInBounds 13 true = LS 2 true false false false false 0 from by kernel_rfl]
      exact st210 a' w' h'
    · obtain ⟨o, o1, o2, o3, o4⟩ := ho.o22
      refine ⟨o, o1, o2, fun K hK => h.wp22 hW o3 o4 (fun a' w' h' => hK a' w' (fun _ => hSt h') ?_)⟩
      rw [show (LS 2 false false false false false 0).setIfInBounds 22 true = LS 2 false true false false false 0 from by kernel_rfl]
      exact st201 a' w' h'
  have st111 : ∀ a w, KeepSt W (.pointer (some ⟨bb, 0, none⟩)) bv l nl x 1 true true a w → wpAnyT Tryz.prog .any ops Q S 27 9 (LS 1 true true false false false 0) a w := by
    intro a w h
    refine wpAnyT_step ho.r111 (by simp) (fun i hi => ?_)
    simp only [List.mem_cons, List.not_mem_nil, or_false] at hi
    rcases hi with rfl
    · obtain ⟨o, o1, o2, o3, o4⟩ := ho.o9
      refine ⟨o, o1, o2, fun K hK => h.wp9 hW hlen o3 o4 (fun a' w' h' => hK a' w' (fun _ => hSt h') ?_)⟩
      rw [show (LS 1 true true false false false 0).setIfInBounds 9 true = LS 2 true true false false false 0 from by kernel_rfl]
      exact st211 a' w' h'
  have st110 : ∀ a w, KeepSt W (.pointer (some ⟨bb, 0, none⟩)) bv l nl x 1 true false a w → wpAnyT Tryz.prog .any ops Q S 27 10 (LS 1 true false false false false 0) a w := by
    intro a w h
    refine wpAnyT_step ho.r110 (by simp) (fun i hi => ?_)
    simp only [List.mem_cons, List.not_mem_nil, or_false] at hi
    rcases hi with rfl | rfl
    · obtain ⟨o, o1, o2, o3, o4⟩ := ho.o9
      refine ⟨o, o1, o2, fun K hK => h.wp9 hW hlen o3 o4 (fun a' w' h' => hK a' w' (fun _ => hSt h') ?_)⟩
      rw [show (LS 1 true false false false false 0).setIfInBounds 9 true = LS 2 true false false false false 0 from by kernel_rfl]
      exact st210 a' w' h'
    · obtain ⟨o, o1, o2, o3, o4⟩ := ho.o22
      refine ⟨o, o1, o2, fun K hK => h.wp22 hW o3 o4 (fun a' w' h' => hK a' w' (fun _ => hSt h') ?_)⟩
      rw [show (LS 1 true false false false false 0).setIfInBounds 22 true = LS 1 true true false false false 0 from by kernel_rfl]
      exact st111 a' w' h'
  have st101 : ∀ a w, KeepSt W (.pointer (some ⟨bb, 0, none⟩)) bv l nl x 1 false true a w → wpAnyT Tryz.prog .any ops Q S 27 10 (LS 1 false true false false false 0) a w := by
    intro a w h
    refine wpAnyT_step ho.r101 (by simp) (fun i hi => ?_)
    simp only [List.mem_cons, List.not_mem_nil, or_false] at hi
    rcases hi with rfl | rfl
    · obtain ⟨o, o1, o2, o3, o4⟩ := ho.o9
      refine ⟨o, o1, o2, fun K hK => h.wp9 hW hlen o3 o4 (fun a' w' h' => hK a' w' (fun _ => hSt h') ?_)⟩
      rw [show (LS 1 false true false false false 0).setIfInBounds 9 true = LS 2 false true false false false 0 from by kernel_rfl]
      exact st201 a' w' h'
    · obtain ⟨o, o1, o2, o3, o4⟩ := ho.o13
      refine ⟨o, o1, o2, fun K hK => h.wp13 hW o3 o4 (fun a' w' h' => hK a' w' (fun _ => hSt h') ?_)⟩
      rw [show (LS 1 false true false false false 0).setIfInBounds 13 true = LS 1 true true false false false 0 from by kernel_rfl]
      exact st111 a' w' h'
  have st100 : ∀ a w, KeepSt W (.pointer (some ⟨bb, 0, none⟩)) bv l nl x 1 false false a w → wpAnyT Tryz.prog .any ops Q S 27 11 (LS 1 false false false false false 0) a w := by
    intro a w h
    refine wpAnyT_step ho.r100 (by simp) (fun i hi => ?_)
    simp only [List.mem_cons, List.not_mem_nil, or_false] at hi
    rcases hi with rfl | rfl | rfl
    · obtain ⟨o, o1, o2, o3, o4⟩ := ho.o9
      refine ⟨o, o1, o2, fun K hK => h.wp9 hW hlen o3 o4 (fun a' w' h' => hK a' w' (fun _ => hSt h') ?_)⟩
      rw [show (LS 1 false false false false false 0).setIfInBounds 9 true = LS 2 false false false false false 0 from by kernel_rfl]
      exact st200 a' w' h'
    · obtain ⟨o, o1, o2, o3, o4⟩ := ho.o13
      refine ⟨o, o1, o2, fun K hK => h.wp13 hW o3 o4 (fun a' w' h' => hK a' w' (fun _ => hSt h') ?_)⟩
      rw [show (LS 1 false false false false false 0).setIfInBounds 13 true = LS 1 true false false false false 0 from by kernel_rfl]
      exact st110 a' w' h'
    · obtain ⟨o, o1, o2, o3, o4⟩ := ho.o22
      refine ⟨o, o1, o2, fun K hK => h.wp22 hW o3 o4 (fun a' w' h' => hK a' w' (fun _ => hSt h') ?_)⟩
      rw [show (LS 1 false false false false false 0).setIfInBounds 22 true = LS 1 false true false false false 0 from by kernel_rfl]
      exact st101 a' w' h'
  have st011 : ∀ a w, KeepSt W (.pointer (some ⟨bb, 0, none⟩)) bv l nl x 0 true true a w → wpAnyT Tryz.prog .any ops Q S 27 10 (LS 0 true true false false false 0) a w := by
    intro a w h
    refine wpAnyT_step ho.r011 (by simp) (fun i hi => ?_)
    simp only [List.mem_cons, List.not_mem_nil, or_false] at hi
    rcases hi with rfl
    · obtain ⟨o, o1, o2, o3, o4⟩ := ho.o8
      refine ⟨o, o1, o2, fun K hK => h.wp8 hW o3 o4 (fun a' w' h' => hK a' w' (fun _ => hSt h') ?_)⟩
      rw [show (LS 0 true true false false false 0).setIfInBounds 8 true = LS 1 true true false false false 0 from by kernel_rfl]
      exact st111 a' w' h'
  have st010 : ∀ a w, KeepSt W (.pointer (some ⟨bb, 0, none⟩)) bv l nl x 0 true false a w → wpAnyT Tryz.prog .any ops Q S 27 11 (LS 0 true false false false false 0) a w := by
    intro a w h
    refine wpAnyT_step ho.r010 (by simp) (fun i hi => ?_)
    simp only [List.mem_cons, List.not_mem_nil, or_false] at hi
    rcases hi with rfl | rfl
    · obtain ⟨o, o1, o2, o3, o4⟩ := ho.o8
      refine ⟨o, o1, o2, fun K hK => h.wp8 hW o3 o4 (fun a' w' h' => hK a' w' (fun _ => hSt h') ?_)⟩
      rw [show (LS 0 true false false false false 0).setIfInBounds 8 true = LS 1 true false false false false 0 from by kernel_rfl]
      exact st110 a' w' h'
    · obtain ⟨o, o1, o2, o3, o4⟩ := ho.o22
      refine ⟨o, o1, o2, fun K hK => h.wp22 hW o3 o4 (fun a' w' h' => hK a' w' (fun _ => hSt h') ?_)⟩
      rw [show (LS 0 true false false false false 0).setIfInBounds 22 true = LS 0 true true false false false 0 from by kernel_rfl]
      exact st011 a' w' h'
  have st001 : ∀ a w, KeepSt W (.pointer (some ⟨bb, 0, none⟩)) bv l nl x 0 false true a w → wpAnyT Tryz.prog .any ops Q S 27 11 (LS 0 false true false false false 0) a w := by
    intro a w h
    refine wpAnyT_step ho.r001 (by simp) (fun i hi => ?_)
    simp only [List.mem_cons, List.not_mem_nil, or_false] at hi
    rcases hi with rfl | rfl
    · obtain ⟨o, o1, o2, o3, o4⟩ := ho.o8
      refine ⟨o, o1, o2, fun K hK => h.wp8 hW o3 o4 (fun a' w' h' => hK a' w' (fun _ => hSt h') ?_)⟩
      rw [show (LS 0 false true false false false 0).setIfInBounds 8 true = LS 1 false true false false false 0 from by kernel_rfl]
      exact st101 a' w' h'
    · obtain ⟨o, o1, o2, o3, o4⟩ := ho.o13
      refine ⟨o, o1, o2, fun K hK => h.wp13 hW o3 o4 (fun a' w' h' => hK a' w' (fun _ => hSt h') ?_)⟩
      rw [show (LS 0 false true false false false 0).setIfInBounds 13 true = LS 0 true true false false false 0 from by kernel_rfl]
      exact st011 a' w' h'
  have st000 : ∀ a w, KeepSt W (.pointer (some ⟨bb, 0, none⟩)) bv l nl x 0 false false a w → wpAnyT Tryz.prog .any ops Q S 27 12 (LS 0 false false false false false 0) a w := by
    intro a w h
    refine wpAnyT_step ho.r000 (by simp) (fun i hi => ?_)
    simp only [List.mem_cons, List.not_mem_nil, or_false] at hi
    rcases hi with rfl | rfl | rfl
    · obtain ⟨o, o1, o2, o3, o4⟩ := ho.o8
      refine ⟨o, o1, o2, fun K hK => h.wp8 hW o3 o4 (fun a' w' h' => hK a' w' (fun _ => hSt h') ?_)⟩
      rw [show (LS 0 false false false false false 0).setIfInBounds 8 true = LS 1 false false false false false 0 from by kernel_rfl]
      exact st100 a' w' h'
    · obtain ⟨o, o1, o2, o3, o4⟩ := ho.o13
      refine ⟨o, o1, o2, fun K hK => h.wp13 hW o3 o4 (fun a' w' h' => hK a' w' (fun _ => hSt h') ?_)⟩
      rw [show (LS 0 false false false false false 0).setIfInBounds 13 true = LS 0 true false false false false 0 from by kernel_rfl]
      exact st010 a' w' h'
    · obtain ⟨o, o1, o2, o3, o4⟩ := ho.o22
      refine ⟨o, o1, o2, fun K hK => h.wp22 hW o3 o4 (fun a' w' h' => hK a' w' (fun _ => hSt h') ?_)⟩
      rw [show (LS 0 false false false false false 0).setIfInBounds 22 true = LS 0 false true false false false 0 from by kernel_rfl]
      exact st001 a' w' h'
  exact st000

/-- The book, with one row more. -/
theorem keep_book {W w' : World} {G : Nat → Prop} {bb : Nat} {bv l : Value} {nl : Nat} {ents : List Value} {B : Nat} (h : BookAt W G bb bv ents) (hG : ∀ k, G k → k < B) (hB : B ≤ W.heap.size) (hl : ∀ k, l.ownBlock = some k → B ≤ k ∧ k < W.heap.size) (hlen : nl ≤ 900000) (hk : KeepEnd W bb bv l nl ents.length (-7000 - ents.length) ents w') :
    ∃ G' v' ents', ents'.length = ents.length + 1 ∧ BookAt w' G' bb v' ents' ∧ (∀ k, G' k → G k ∨ B ≤ k) ∧ Fr (fun k => G k ∨ B ≤ k) W w' := by
  obtain ⟨w6, v1, v2, v3, g, cap, w8, h1, h2, h3, h4, h5, h6, h7, h8, rfl⟩ := hk
  have hz := h1.size
  have bA : Below w6.heap.size w6 ((w6.alloc (.cells #[l, v1, v2, v3] 32)).alloc (.cells #[.slice (some ⟨w6.heap.size, 0, none⟩) 4 4] 55)) := ((Below.refl _ _).alloc (Nat.le_refl _) _).alloc (by simp) _
  have hsz2 : ((w6.alloc (.cells #[l, v1, v2, v3] 32)).alloc (.cells #[.slice (some ⟨w6.heap.size, 0, none⟩) 4 4] 55)).heap.size = w6.heap.size + 2 := by simp
  have hE : Blk ((w6.alloc (.cells #[l, v1, v2, v3] 32)).alloc (.cells #[.slice (some ⟨w6.heap.size, 0, none⟩) 4 4] 55)) w6.heap.size #[l, v1, v2, v3] := (Blk.new _ _ _).alloc _
  have hz8 := h7.size
  rw [hsz2] at hz8
  have hbbG := h.here
  have hbbB := hG bb hbbG
  have hlb : l.ownBlock ≠ some bb := fun e => by have := (hl bb e).1; omega
  -- blocks that stay
  have keep8 : ∀ k, k < w6.heap.size + 2 → bv.ownBlock ≠ some k → w8.heap[k]? = ((w6.alloc (.cells #[l, v1, v2, v3] 32)).alloc (.cells #[.slice (some ⟨w6.heap.size, 0, none⟩) 4 4] 55)).heap[k]? := fun k hk hn => h7.block k (by rw [hsz2]; exact hk) (fun e => hn e.symm)
  have keepE : ∀ k, k ≠ bb → (w8.setCell ⟨bb, 0, none⟩ (.slice (some ⟨g, 0, none⟩) (ents.length + 1) cap)).heap[k]? = w8.heap[k]? := fun k hk => Below.heap_setCell _ _ _ _ hk
  have szE : (w8.setCell ⟨bb, 0, none⟩ (.slice (some ⟨g, 0, none⟩) (ents.length + 1) cap)).heap.size = w8.heap.size := by simp [World.setCell]
  have bvlt : ∀ k, bv.ownBlock = some k → k < B ∧ k ≠ bb := fun k e => ⟨hG k (h.own k e).1, (h.own k e).2⟩
  have hgb : g ≠ bb := by
    rcases h8 with e | e
    · exact (bvlt g e).2
    · omega
  have hg8 : g < w8.heap.size := by
    rcases h6.2 with ⟨e, _⟩ | ⟨g', c', cur', e, _, q3, _⟩
    · cases e
    · injection e with e; injection e with e; injection e with e; subst e
      exact (Array.getElem?_eq_some_iff.1 q3).1
  refine ⟨fun k => G k ∨ (B ≤ k ∧ k < w8.heap.size), .slice (some ⟨g, 0, none⟩) (ents.length + 1) cap, ents ++ [.slice (some ⟨w6.heap.size, 0, none⟩) 4 4], by simp, ?_, fun k hk => hk.imp id (fun h => h.1), ?_⟩
  · have hub : Blk w8 bb #[bv] := (h.blk.same (h1.block bb (by omega) hlb)).same ((keep8 bb (by omega) (fun e => (bvlt bb e).2 rfl)).trans (bA.block bb (by omega)))
    refine ⟨?_, fun k hk => ?_, Or.inl hbbG, ?_, fun k hk => ?_, fun i ev hi => ?_⟩
    · exact hub.set 0 _
    · rw [szE]
      rcases hk with hk | hk
      · have := hG k hk; omega
      · exact hk.2
    · rw [List.length_append]
      refine ⟨h6.1, ?_⟩
      rcases h6.2 with ⟨e, _⟩ | ⟨g', c', cur', e, q2, q3, q4⟩
      · cases e
      · injection e with e e' e''; injection e with e; injection e with e; subst e
        exact Or.inr ⟨g, c', cur', by rw [e'']; rfl, q2, (keepE g hgb).trans q3, q4⟩
    · have e : g = k := by simpa [Value.ownBlock] using hk
      subst e
      refine ⟨?_, hgb⟩
      rcases h8 with e | e
      · exact Or.inl (h.own g e).1
      · exact Or.inr ⟨by omega, hg8⟩
    · by_cases hin : i < ents.length
      · rw [List.getElem?_append_left hin] at hi
        have hent := h.ent i ev hi
        refine (hent.same (w' := w8.setCell ⟨bb, 0, none⟩ (.slice (some ⟨g, 0, none⟩) (ents.length + 1) cap)) (fun k hk => ?_)).sub (fun k hk => ⟨Or.inl hk.1, hk.2.1, fun e => ?_⟩)
        · have hkB := hG k hk.1
          refine (keepE k hk.2.1).trans ((keep8 k (by omega) hk.2.2).trans ((bA.block k (by omega)).trans (h1.block k (by omega) (fun e => ?_))))
          have := (hl k e).1
          omega
        · have e : g = k := by simpa [Value.ownBlock] using e
          subst e
          rcases h8 with e | e
          · exact hk.2.2 e
          · have := hG g hk.1; omega
      · have hi2 : i = ents.length := by
          have := (List.getElem?_eq_some_iff.1 hi).1
          simp at this; omega
        subst hi2
        rw [List.getElem?_append_right (Nat.le_refl _)] at hi
        simp at hi
        subst hi
        have stay : ∀ k, k < w6.heap.size + 2 → k ≠ bb → bv.ownBlock ≠ some k → (w8.setCell ⟨bb, 0, none⟩ (.slice (some ⟨g, 0, none⟩) (ents.length + 1) cap)).heap[k]? = ((w6.alloc (.cells #[l, v1, v2, v3] 32)).alloc (.cells #[.slice (some ⟨w6.heap.size, 0, none⟩) 4 4] 55)).heap[k]? := fun k q1 q2 q3 => (keepE k q2).trans (keep8 k q1 q3)
        -- what lies at B or behind, ahead of the two new blocks
        have own : ∀ k, B ≤ k → k < w6.heap.size + 2 → (fun k => (G k ∨ (B ≤ k ∧ k < w8.heap.size)) ∧ k ≠ bb ∧ (Value.slice (some ⟨g, 0, none⟩) (ents.length + 1) cap).ownBlock ≠ some k) k ∧ k ≠ bb ∧ bv.ownBlock ≠ some k := fun k q1 q2 => by
          refine ⟨⟨Or.inr ⟨q1, by omega⟩, by omega, fun e => ?_⟩, by omega, fun e => ?_⟩
          · have e : g = k := by simpa [Value.ownBlock] using e
            subst e
            rcases h8 with e | e
            · have := (bvlt g e).1; omega
            · omega
          · have := (bvlt k e).1; omega
        have mks : ∀ {G1 : Nat → Prop} {u : Value} {m : Nat}, Marks w6 G1 u m (-7000 - ents.length) → (∀ k, G1 k → B ≤ k) → Marks (w8.setCell ⟨bb, 0, none⟩ (.slice (some ⟨g, 0, none⟩) (ents.length + 1) cap)) (fun k => (G k ∨ (B ≤ k ∧ k < w8.heap.size)) ∧ k ≠ bb ∧ (Value.slice (some ⟨g, 0, none⟩) (ents.length + 1) cap).ownBlock ≠ some k) u m (-7000 - ents.length) := fun {G1 u m} hm hg1 => by
          rcases hm with q | ⟨t, cp, cur, q1, q2, q3, q4, q5, q6⟩
          · exact Or.inl q
          · have ht := q3.lt
            obtain ⟨y1, y2, y3⟩ := own t (hg1 t q2) (by omega)
            exact Or.inr ⟨t, cp, cur, q1, y1, q3.same ((stay t (by omega) y2 y3).trans (bA.block t ht)), q4, q5, q6⟩
        have g1 : ∀ k, (l.ownBlock = some k ∨ W.heap.size ≤ k) → B ≤ k := fun k hk => hk.elim (fun e => (hl k e).1) (fun h => by omega)
        obtain ⟨y1, y2, y3⟩ := own w6.heap.size (by omega) (by omega)
        refine ⟨w6.heap.size, fun k => if k = 0 then l else if k = 1 then v1 else if k = 2 then v2 else v3, fun k => if k = 0 then nl else if k = 1 then nl + 1 else if k = 2 then nl + 2 else nl + 6, rfl, y1, hE.same (stay _ (by omega) y2 y3), fun k hk => ?_⟩
        match k, hk with
        | 0, _ => exact ⟨mks h2 (fun k e => (hl k e).1), show nl ≤ 1000000 by omega⟩
        | 1, _ => exact ⟨mks h3 g1, show nl + 1 ≤ 1000000 by omega⟩
        | 2, _ => exact ⟨mks h4 g1, show nl + 2 ≤ 1000000 by omega⟩
        | 3, _ => exact ⟨mks h5 g1, show nl + 6 ≤ 1000000 by omega⟩
  · refine ⟨(Fr.own w8 bb 0 _).os.trans (h7.os.trans (bA.os.trans h1.os)), (Fr.own w8 bb 0 _).tape.trans (h7.tape.trans (bA.tape.trans h1.tape)), (Fr.own w8 bb 0 _).output.trans (h7.output.trans (bA.output.trans h1.output)), by rw [szE]; omega, fun k hk hn => ?_⟩
    have n1 : ¬ G k := fun e => hn (Or.inl e)
    have n2 : ¬ B ≤ k := fun e => hn (Or.inr e)
    exact (keepE k (fun e => n1 (e ▸ hbbG))).trans ((keep8 k (by omega) (fun e => n1 (h.own k e).1)).trans ((bA.block k (by omega)).trans (h1.block k hk (fun e => n2 (hl k e).1))))

end Go.Proofs.YtloppmepfkkblaaGreat
end
