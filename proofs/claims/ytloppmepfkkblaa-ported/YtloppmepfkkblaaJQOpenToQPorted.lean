/- What comes in to the keep's statements: numbers, opened. -/
import Derived.Test.YtloppmepfkkblaaRows
import Derived.ProofKit
import Derived.OpenShut
import Derived.SizedLaws
import Derived.ChangeOld
import Derived.Deep.Slices
import Derived.Deep.Strs
import Derived.ArgAppend
import Derived.StillTailTactics
import Derived.Test.YtloppmepfkkblaaJQBase
import Derived.Test.YtloppmepfkkblaaJMKeeps
import Derived.Test.YtloppmepfkkblaaJBaseToTreeKeeps
import Derived.Test.YtloppmepfkkblaaJOuts0

section
open Go Go.Proofs Go.RowKit Go.ChangeShapes Go.WideShapes Go.ChangeAt
namespace Go.Proofs.Ytloppmepfkkblaa

theorem own_knob : ownKnob Try.prog.godebug = none := by kernel_rfl
theorem laid_out : laidOutB Try.prog = true := by kernel_rfl

theorem cell_lt {w : World} {b n : Nat} {v : Value} (h : w.cell? ⟨b, n, none⟩ = some v) : b < w.heap.size := by
  rcases Nat.lt_or_ge b w.heap.size with h1 | h1
  · exact h1
  · exfalso
    simp [World.cell?, Array.getElem?_eq_none h1] at h

theorem weightsAll_mem {H : Type} {P : Program} {e : TypeId} : ∀ {l : List (DataW H)} {d : DataW H}, d ∈ l → ∀ n ∈ d.weights P e, n ∈ DataW.weightsAll P e l
  | d0 :: l, d, hd, n, hn => by
    simp only [DataW.weightsAll, List.mem_append]
    rcases List.mem_cons.1 hd with rfl | h
    · exact Or.inl hn
    · exact Or.inr (weightsAll_mem h n hn)
  | [], _, hd, _, _ => by simp at hd

theorem bytes_int : Try.prog.bytesOf 3 = 8 := by kernel_rfl
theorem cells_int : Try.prog.cellsOf 3 = 1 := by kernel_rfl
theorem cells_ints : Try.prog.cellsOf 29 = 1 := by kernel_rfl
section
variable {H : Type} {enc : TypeId × Value → H} {W : World}

/-- A step's arguments. -/
theorem args_open {fuel : Nat} {v : Value} {x : DataW H × List MemPlace} (h : DataW.trod enc Try.prog W 0 (fun _ => true) true fuel 29 [v] = some x) (hw : ∀ n ∈ x.1.weights Try.prog 29, n ≤ reachBytes) :
    ArgsV W (fun k => W.heap.size ≤ k) v := by
  rcases open_ints Try.underlying29 Try.underlying3 cells_int h with ⟨hcs, _⟩ | ⟨a, len, cap, zs, hcs, _, hl, hm, hz, hx, hcell, hwz⟩
  · simp at hcs
    exact Or.inl hcs
  · simp at hcs hz
    subst hcs
    refine Or.inr ⟨a, zs.take len, cap, by simp; omega, ?_, ?_, fun y hy => bounds_i64 (hwz y (List.mem_of_mem_take hy))⟩
    · have := hw (((lits .i64 (zs.take len) : List (DataW H)).length + (lits .i64 (zs.drop len) : List (DataW H)).length) * Try.prog.bytesOf 3) (by rw [hx]; simp [DataW.weights, Try.underlying29])
      rw [bytes_int] at this
      simp [lits, reachBytes] at this
      simp
      omega
    · by_cases h0 : len = 0
      · subst h0; exact Or.inl rfl
      · obtain ⟨b, off, rfl, hc⟩ := ints_at hcell (by omega)
        refine Or.inr ⟨b, off, rfl, ⟨cell_lt (hc 0 (by omega)), fun i y hy => ?_⟩, fun h => ?_⟩
        · have hi : i < len := by
            have := (List.getElem?_eq_some_iff.1 hy).1
            simp at this; omega
          rw [hc i (by omega)]
          rw [List.getElem?_take_of_lt hi] at hy
          rw [List.getD_eq_getElem?_getD, hy]; rfl
        · have := cell_lt (hc 0 (by omega))
          omega

end

end Go.Proofs.Ytloppmepfkkblaa
end

section
/- The plain kernel with a port in slot 2, behind the start: what its traps tell. Without conditions. -/
open Go Go.RowKit
namespace Go.Proofs.Ytloppmepfkkblaa

/-- The start, and a port in slot 2 with words. -/
def pM (l : Nat) (ws : List Int) : MS := { MS.boot with S := upd MS.boot.S 2 (portT l), ws := upd MS.boot.ws 2 ws }

theorem pM_cur (l : Nat) (ws : List Int) : (pM l ws).cur = some 1 := rfl
theorem pM_me (l : Nat) (ws : List Int) : ((pM l ws).S 1).owns = 255 ∧ ((pM l ws).S 1).label = 0 := ⟨rfl, rfl⟩
theorem pM_ws (l : Nat) (ws : List Int) : (pM l ws).ws 2 = ws := rfl

theorem ask_new : ∀ l, l < 256 → mMake MS.boot.S 255 0 0 2 l = (0, 0) := by decide +kernel
theorem ask_recv : ∀ l, l < 256 → kindF (upd MS.boot.S 2 (portT l)) 2 4 (chk 255 0 l (chk 255 l 0 (mFind (upd MS.boot.S 2 (portT l)) 255 0 2))) = (l, 0) := by decide +kernel
theorem ask_send : ∀ l, l < 256 → kindF (upd MS.boot.S 2 (portT l)) 2 4 (chk 255 0 l (mFind (upd MS.boot.S 2 (portT l)) 255 0 2)) = (0, 0) := by decide +kernel
theorem ask_free : ∀ l, l < 256 → mFree (upd MS.boot.S 2 (portT l)) 255 0 2 = (0, 0) := by decide +kernel

theorem words_pM (l : Nat) (ws ws' : List Int) : (pM l ws).words 2 ws' = pM l ws' := by
  have e : upd (pM l ws).ws 2 ws' = upd MS.boot.ws 2 ws' := by
    funext i
    by_cases h : i = 2
    · rw [h, upd_same, upd_same]
    · rw [upd_ne _ _ h, upd_ne _ _ h]
      exact upd_ne _ _ h
  unfold MS.words
  rw [e]
  rfl

theorem trap_go {M : MS} {me u : Nat} {n : Int} {xs : List Int} (hc : M.cur = some me) (h1 : ¬ (n < 1 ∨ 17 ≤ n ∨ (shapeL n).length ≠ xs.length)) (h2 : mayTo (shapeL n) xs xs.length = true) (ha : M.ask me n xs = (u, 0)) : M.trap n xs = ((0, M.val me n xs, u), M.next me n xs) := by
  unfold MS.trap
  rw [hc]
  dsimp only
  rw [if_neg h1, if_neg (by rw [h2]; decide), ha, if_pos rfl]
theorem trap_stop {M : MS} {me u : Nat} {n e : Int} {xs : List Int} (hc : M.cur = some me) (h1 : ¬ (n < 1 ∨ 17 ≤ n ∨ (shapeL n).length ≠ xs.length)) (h2 : mayTo (shapeL n) xs xs.length = true) (ha : M.ask me n xs = (u, e)) (he : e ≠ 0) : M.trap n xs = ((e, 0, u), M) := by
  unfold MS.trap
  rw [hc]
  dsimp only
  rw [if_neg h1, if_neg (by rw [h2]; decide), ha, if_neg he]

theorem new_pM (l : Nat) : MS.boot.put 2 (portT l) [] = pM l [] := rfl

theorem gone_pM (l : Nat) (ws : List Int) : (pM l ws).gone 2 = MS.boot := by
  have hk : ((pM l ws).S 2).kind = 4 := rfl
  have hg : ∀ i, goes (pM l ws).S 2 i ↔ i = 2 := fun i => by unfold goes; rw [hk]; omega
  unfold MS.gone
  have e1 : (fun i => if goes (pM l ws).S 2 i then fth else (pM l ws).S i) = MS.boot.S := by
    funext i
    by_cases h : i = 2
    · subst h; rw [if_pos ((hg 2).2 rfl)]; rfl
    · rw [if_neg (fun x => h ((hg i).1 x))]; exact upd_ne _ _ h
  have e2 : (fun i => if goes (pM l ws).S 2 i then [] else (pM l ws).ws i) = MS.boot.ws := by
    funext i
    by_cases h : i = 2
    · subst h; rw [if_pos ((hg 2).2 rfl)]; rfl
    · rw [if_neg (fun x => h ((hg i).1 x))]; exact upd_ne _ _ h
  have e3 : (fun q : Nat => if ((pM l ws).S 2).kind = 1 ∧ ((pM l ws).S 2).G ≤ q ∧ (q : Int) < ((pM l ws).S 2).H then none else ((pM l ws).lq q).bind fun t => if goes (pM l ws).S 2 t then none else some t) = MS.boot.lq := by
    funext q
    rw [if_neg (by rw [hk]; omega)]
    show (if q < 8 then some 1 else none : Option Nat).bind _ = if q < 8 then some 1 else none
    by_cases h : q < 8
    · rw [if_pos h]
      show (if goes (pM l ws).S 2 1 then none else some 1) = some 1
      rw [if_neg (fun x => by have := (hg 1).1 x; omega)]
    · rw [if_neg h]; rfl
  rw [e1, e2, e3]
  rfl

theorem may_new (l : Nat) (hl : l < 256) : mayTo (shapeL 14) [0, 2, (l : Int)] 3 = true := by
  have : okAt 108 2 (l : Int) = true := by
    show decide (0 ≤ (l : Int) ∧ (l : Int) ≤ 255) = true
    exact decide_eq_true (by omega)
  show (((true && okAt 115 0 0) && okAt 115 0 2) && okAt 108 2 (l : Int)) = true
  rw [this]
  rfl
theorem may_send (x : Int) : mayTo (shapeL 15) [2, x] 2 = true := rfl
theorem shape_new (l : Int) : ¬ ((14 : Int) < 1 ∨ 17 ≤ (14 : Int) ∨ (shapeL 14).length ≠ [0, 2, l].length) := by
  have : (shapeL 14).length = [0, 2, l].length := rfl
  omega
theorem shape_send (x : Int) : ¬ ((15 : Int) < 1 ∨ 17 ≤ (15 : Int) ∨ (shapeL 15).length ≠ [2, x].length) := by
  have : (shapeL 15).length = [2, x].length := rfl
  omega

theorem trap_new (l : Nat) (hl : l < 256) : MS.boot.trap 14 [0, 2, (l : Int)] = ((0, 0, 0), pM l []) :=
  trap_go (me := 1) rfl (shape_new l) (may_new l hl) (ask_new l hl)

theorem trap_recv (l : Nat) (hl : l < 256) (ws : List Int) : (pM l ws).trap 16 [2] = match ws with | [] => ((9, 0, l), pM l []) | x :: xs => ((0, x, l), pM l xs) := by
  have ha : (pM l ws).ask 1 16 [2] = if ws.length = 0 then failed 9 (l, 0) else (l, 0) := by
    show (fun p => if ws.length = 0 then failed 9 p else p) (kindF (upd MS.boot.S 2 (portT l)) 2 4 (chk 255 0 l (chk 255 l 0 (mFind (upd MS.boot.S 2 (portT l)) 255 0 2)))) = _
    rw [ask_recv l hl]
  cases ws with
  | nil => exact trap_stop (me := 1) rfl (by decide) (by decide) ha (by decide)
  | cons x xs =>
    refine (trap_go (me := 1) (u := l) rfl (by decide) (by decide) ?_).trans ?_
    · rw [ha, if_neg (by simp)]
    · show ((0, x, l), (pM l (x :: xs)).words 2 xs) = _
      rw [words_pM]

theorem sub_zero : ∀ l, l < 256 → (sub l 0 = true ↔ l = 0) := by decide +kernel

theorem trap_send (l : Nat) (hl : l < 256) (ws : List Int) (x : Int) : (pM l ws).trap 15 [2, x] = if ws.length < 4 then ((0, 0, 0), pM l (ws ++ [x])) else if l = 0 then ((8, 0, 0), pM l ws) else ((0, 0, 0), pM l ws) := by
  have ha : (pM l ws).ask 1 15 [2, x] = if 4 ≤ ws.length ∧ sub l 0 = true then failed 8 (0, 0) else (0, 0) := by
    show (fun p => if 4 ≤ ws.length ∧ sub l 0 = true then failed 8 p else p) (kindF (upd MS.boot.S 2 (portT l)) 2 4 (chk 255 0 l (mFind (upd MS.boot.S 2 (portT l)) 255 0 2))) = _
    rw [ask_send l hl]
  have hn : (pM l ws).next 1 15 [2, x] = if 4 ≤ ws.length then pM l ws else (pM l ws).words 2 (ws ++ [x]) := rfl
  by_cases h4 : ws.length < 4
  · rw [if_pos h4, trap_go (me := 1) (u := 0) rfl (shape_send x) (may_send x) (by rw [ha, if_neg (by omega)]), hn, if_neg (by omega), words_pM]
    rfl
  · rw [if_neg h4]
    by_cases h0 : l = 0
    · rw [if_pos h0]
      exact trap_stop (me := 1) rfl (shape_send x) (may_send x) (by rw [ha, if_pos ⟨by omega, (sub_zero l hl).2 h0⟩]; rfl) (by decide)
    · rw [if_neg h0, trap_go (me := 1) (u := 0) rfl (shape_send x) (may_send x) (by rw [ha, if_neg (fun h => h0 ((sub_zero l hl).1 h.2))]), hn, if_pos (by omega)]
      rfl

theorem trap_free (l : Nat) (hl : l < 256) (ws : List Int) : (pM l ws).trap 8 [2] = ((0, 0, 0), MS.boot) := by
  refine (trap_go (M := pM l ws) (n := 8) (xs := [2]) (me := 1) (u := 0) rfl (by decide) (by decide) (ask_free l hl)).trans ?_
  show ((0, 0, 0), (pM l ws).gone 2) = _
  rw [gone_pM]

theorem trap_dead : MS.boot.trap 15 [2, 1] = ((5, 0, 0), MS.boot) :=
  trap_stop (me := 1) rfl (by decide) (by decide) (show MS.boot.ask 1 15 [2, 1] = (0, 5) by decide +kernel) (by decide)

end Go.Proofs.Ytloppmepfkkblaa
end

section
/- 'Ported': a row of the call's own that is cut at its head; the script's rounds. -/
open Go Go.Proofs Go.RowKit
namespace Go.Proofs.Ytloppmepfkkblaa

/-- v is a row of these numbers, somewhere in a block of the call's own (at B or behind), or nil. -/
def Mids (w : World) (B : Nat) (v : Value) (xs : List Int) : Prop :=
  (v = .slice none 0 0 ∧ xs = []) ∨ ∃ g off cap cur, v = .slice (some ⟨g, off, none⟩) xs.length cap ∧ B ≤ g ∧ Blk w g cur ∧ xs.length ≤ cap ∧ off + cap ≤ cur.size ∧ ∀ j x, xs[j]? = some x → w.cell? ⟨g, off + j, none⟩ = some (.int .i64 x)

theorem Mids.row {w : World} {B : Nat} {v : Value} {xs : List Int} (h : Mids w B v xs) {k : Nat} (hk : v.ownBlock = some k) : B ≤ k ∧ k < w.heap.size := by
  rcases h with ⟨h1, _⟩ | ⟨g, off, cap, cur, h1, h2, h3, _⟩
  · rw [h1] at hk; cases hk
  · rw [h1] at hk
    injection hk with hk
    have hk : g = k := hk
    subst hk
    exact ⟨h2, h3.lt⟩

theorem Mids.same {w w' : World} {B : Nat} {v : Value} {xs : List Int} (h : Mids w B v xs) (e : ∀ k, v.ownBlock = some k → w'.heap[k]? = w.heap[k]?) : Mids w' B v xs := by
  rcases h with h | ⟨g, off, cap, cur, h1, h2, h3, h4, h5, h6⟩
  · exact Or.inl h
  · have e1 := e g (by rw [h1]; rfl)
    exact Or.inr ⟨g, off, cap, cur, h1, h2, h3.same e1, h4, h5, fun j x hx => (cell_same e1 _).trans (h6 j x hx)⟩

theorem Mids.form {w : World} {B : Nat} {v : Value} {xs : List Int} (h : Mids w B v xs) : ∃ a n c, v = .slice a n c := by
  rcases h with ⟨h1, _⟩ | ⟨g, off, cap, cur, h1, _⟩
  · exact ⟨_, _, _, h1⟩
  · exact ⟨_, _, _, h1⟩

theorem Mids.of_outs {w : World} {B : Nat} {v : Value} {xs : List Int} (h : Outs w B v xs) : Mids w B v xs := by
  rcases h.2 with ⟨h1, h2⟩ | ⟨g, cap, cur, h1, h2, h3, h4, h5, h6, h7⟩
  · exact Or.inl ⟨h1, List.length_eq_zero_iff.1 h2⟩
  · have hB : Blk w g cur := ⟨_, h3⟩
    refine Or.inr ⟨g, 0, cap, cur, h1, h2, hB, h4, by omega, fun j y hy => ?_⟩
    rw [Nat.zero_add, hB.cell, ← Array.getElem?_toList]
    have hj : j < xs.length := (List.getElem?_eq_some_iff.1 hy).1
    have e := congrArg (fun l => l[j]?) h7
    simp only [Nat.mul_one, List.getElem?_map, hy] at e
    rw [List.getElem?_take_of_lt hj] at e
    exact e

section
variable {ops : Array Oper} {rest : List Oper} {o : Oper} {a : Act} {Q : Exit → Act → World → Prop}

/-- 'append' of one number that was laid for it just now. -/
theorem wpList_mid (w : World) (hgd : o.guard = none) (s x : Operand) (ho : o.op = .call { callee := .builtin .append, args := #[s, x], argTypes := #[29, 29] }) (B : Nat) (v : Value) (xs : List Int) (hs : a.eval s = v) (hown : Mids w B v xs)
    (y : Int) (N : Nat) (hN : w.heap.size = N) (hx : a.eval x = .slice (some ⟨N, 0, none⟩) 1 1) (hlen : xs.length + 1 ≤ 1000000) (hB : B ≤ w.heap.size)
    (h : ∀ v' w', Mids w' B v' (xs ++ [y]) → Below B w w' → (∀ X, X < w.heap.size → v.ownBlock ≠ some X → w'.heap[X]? = w.heap[X]? ∧ v'.ownBlock ≠ some X) → wpList Try.prog ops Q rest (a.put o.dst v') w') : wpList Try.prog ops Q (o :: rest) a (w.alloc (.cells #[.int .i64 y] 3)) := by
  subst hN
  have hal : Below w.heap.size w (w.alloc (.cells #[.int .i64 y] 3)) := (Below.refl _ _).alloc (Nat.le_refl _) _
  have hnews : ∀ j u, [Value.int .i64 y][j]? = some u → (w.alloc (.cells #[.int .i64 y] 3)).cell? ((⟨w.heap.size, 0, none⟩ : Addr).add j) = some u := fun j u hu => World.news_of_block (heap_alloc_new w _) j u hu
  have h1c : ∀ u ∈ [Value.int .i64 y], u.oneCell' = true := fun u hu => by
    rw [List.mem_singleton.1 hu]; rfl
  have grow : ∀ v' w', w'.ownsRow (w.alloc (.cells #[.int .i64 y] 3)).heap.size 3 1 v' (xs.length + 1) (xs.map (Value.int .i64) ++ [Value.int .i64 y]) → (w.alloc (.cells #[.int .i64 y] 3)).grownBy w' none → wpList Try.prog ops Q rest (a.put o.dst v') w' := fun v' w' h1 h2 => by
    have hO : Outs w' (w.alloc (.cells #[.int .i64 y] 3)).heap.size v' (xs ++ [y]) := by
      unfold Outs
      rw [List.length_append, List.map_append]
      exact h1
    have hM : Mids w' B v' (xs ++ [y]) := by
      rcases Mids.of_outs hO with h3 | ⟨g, off, cap, cur, e1, e2, e3⟩
      · exact Or.inl h3
      · exact Or.inr ⟨g, off, cap, cur, e1, by have := hal.size; omega, e3⟩
    refine h v' w' hM (((hal.mono hB).grown h2 (by have := hal.size; omega) (fun k hk => by cases hk))) (fun X hX hne => ⟨?_, fun e => ?_⟩)
    · exact (h2.block X (by have := hal.size; omega) (by simp)).trans (hal.block X hX)
    · have := (hO.row e).1
      have := hal.size
      omega
  rcases hown with ⟨rfl, rfl⟩ | ⟨g, off, cap, cur, rfl, h2, h3, h4, h5, h6⟩
  · exact wpList_append_grows _ hgd s x 29 ho 3 Try.t3 (.int .i64 0) 1 8 Try.underlying29 (by kernel_rfl) (by kernel_rfl) (by kernel_rfl) (by kernel_rfl) (by rfl) (by omega) none 0 0 [] hs (fun _ => ⟨rfl, rfl⟩) (by rfl) (fun _ h => by cases h) ⟨w.heap.size, 0, none⟩ 1 1 [.int .i64 y] hx (by rfl) hnews h1c (by omega) (by unfold maxLen; omega) (by omega) grow
  · have b3 : Blk (w.alloc (.cells #[.int .i64 y] 3)) g cur := h3.alloc _
    have hl3 := h3.lt
    refine wpList_append_arg _ hgd s x 29 ho 3 Try.t3 (.int .i64 0) 1 8 Try.underlying29 (by kernel_rfl) (by kernel_rfl) (by kernel_rfl) (by kernel_rfl) (by rfl) (by omega) g off xs.length cap (xs.map (Value.int .i64)) hs (by simp) (fun j u hu => ?_) ⟨w.heap.size, 0, none⟩ 1 1 [.int .i64 y] hx (by rfl) hnews h1c (fun hr j hj => ?_) (by unfold maxLen; omega) (by omega) (fun hr => ?_) (fun _ => grow)
    · rw [List.getElem?_map] at hu
      cases hy : xs[j]? with
      | none => rw [hy] at hu; cases hu
      | some y => rw [hy] at hu; injection hu with hu; subst hu; rw [cell_same (hal.block g hl3)]; exact h6 j y hy
    · have hj : j = 0 := by simpa using hj
      subst hj
      refine ⟨?_, b3.frozen _⟩
      rw [b3.cell, Nat.mul_one, Nat.add_zero]
      rw [Array.getElem?_eq_getElem (by omega)]
      rfl
    · show wpList Try.prog ops Q rest (a.put o.dst (.slice (some ⟨g, off, none⟩) (xs.length + 1) cap)) ((w.alloc (.cells #[.int .i64 y] 3)).setCell ⟨g, off + xs.length * 1, none⟩ (.int .i64 y))
      rw [Nat.mul_one]
      have b4 := b3.set (off + xs.length) (.int .i64 y)
      refine h _ _ (Or.inr ⟨g, off, cap, _, by rw [List.length_append]; rfl, h2, b4, by simpa using hr, by simpa using h5, fun j z hz => ?_⟩) ?_ (fun X hX hne => ⟨?_, hne⟩)
      · rw [b4.cell]
        by_cases hj : j < xs.length
        · rw [List.getElem?_append_left hj] at hz
          have := h6 j z hz
          rw [h3.cell] at this
          rw [Array.getElem?_setIfInBounds_ne (by omega)]
          exact this
        · have hj2 : j = xs.length := by
            have := (List.getElem?_eq_some_iff.1 hz).1
            simp at this; omega
          subst hj2
          rw [List.getElem?_append_right (Nat.le_refl _)] at hz
          simp at hz
          subst hz
          rw [Array.getElem?_setIfInBounds_self_of_lt (by omega)]
      · exact (hal.mono hB).setCell (by exact h2) _
      · have hne' : X ≠ g := fun e => hne (by rw [e]; rfl)
        exact (Below.heap_setCell _ _ _ _ hne').trans (hal.block X hX)
end

end Go.Proofs.Ytloppmepfkkblaa
end

section
/- 'Ported' gives true. -/
open Go Go.Proofs Go.RowKit
namespace Go.Proofs.Ytloppmepfkkblaa

theorem out_new (l : Nat) (hl : l < 256) : MS.boot.out 14 [0, 2, (l : Int)] = .agg #[.int .i64 0, .int .i64 0, .int .i64 0] := by
  unfold MS.out; rw [trap_new l hl]; rfl
theorem out_none (l : Nat) (hl : l < 256) : (pM l []).out 16 [2] = .agg #[.int .i64 9, .int .i64 0, .int .i64 l] := by
  unfold MS.out; rw [trap_recv l hl]; rfl
theorem out_some (l : Nat) (hl : l < 256) (x : Int) (xs : List Int) : (pM l (x :: xs)).out 16 [2] = .agg #[.int .i64 0, .int .i64 x, .int .i64 l] := by
  unfold MS.out; rw [trap_recv l hl]; rfl
theorem out_room (l : Nat) (hl : l < 256) (ws : List Int) (x : Int) (h : ws.length < 4) : (pM l ws).out 15 [2, x] = .agg #[.int .i64 0, .int .i64 0, .int .i64 0] := by
  unfold MS.out; rw [trap_send l hl, if_pos h]; rfl
theorem out_full (l : Nat) (hl : l < 256) (ws : List Int) (x : Int) (h : ¬ ws.length < 4) : (pM l ws).out 15 [2, x] = .agg #[.int .i64 (if l = 0 then 8 else 0), .int .i64 0, .int .i64 0] := by
  unfold MS.out; rw [trap_send l hl, if_neg h]; split <;> rfl
theorem next_full (l : Nat) (hl : l < 256) (ws : List Int) (x : Int) (h : ¬ ws.length < 4) : ((pM l ws).trap 15 [2, x]).2 = pM l ws := by
  rw [trap_send l hl, if_neg h]; split <;> rfl
theorem out_free (l : Nat) (hl : l < 256) (ws : List Int) : (pM l ws).out 8 [2] = .agg #[.int .i64 0, .int .i64 0, .int .i64 0] := by
  unfold MS.out; rw [trap_free l hl]; rfl
theorem out_dead : MS.boot.out 15 [2, 1] = .agg #[.int .i64 5, .int .i64 0, .int .i64 0] := by
  unfold MS.out; rw [trap_dead]; rfl

theorem fits1 {x : Int} (h : -9223372036854775808 ≤ x ∧ x ≤ 9223372036854775807) : Fits [2, x] := fun y hy => by
  rcases List.mem_cons.1 hy with rfl | hy
  · omega
  · rw [List.mem_singleton.1 hy]; exact h

/-- The rounds' state. -/
def PortS (w : World) (B kb l : Nat) (lv : Value) (ws : List Int) : Prop :=
  ∃ F, Kn w kb F (pM l ws) ∧ (∀ k, F k → B ≤ k) ∧ Mids w B lv ws ∧ (∀ k, lv.ownBlock = some k → ¬ F k)

theorem Mids.form' {w : World} {B : Nat} {v : Value} {xs : List Int} (h : Mids w B v xs) : ∃ a c, v = .slice a xs.length c := by
  rcases h with ⟨h1, h2⟩ | ⟨g, off, cap, cur, h1, _⟩
  · subst h2; exact ⟨_, _, h1⟩
  · exact ⟨_, _, h1⟩

theorem Mids.tail {w : World} {B g off cap : Nat} {y : Int} {ys : List Int} (h : Mids w B (.slice (some ⟨g, off, none⟩) (y :: ys).length cap) (y :: ys)) : Mids w B (.slice (if cap = 1 then some ⟨g, off, none⟩ else some ⟨g, off + 1, none⟩) ys.length (cap - 1)) ys := by
  rcases h with ⟨h1, h2⟩ | ⟨g', off', cap', cur, h1, h2, h3, h4, h5, h6⟩
  · cases h2
  · injection h1 with e1 e2 e3
    injection e1 with e1
    injection e1 with e1 e4
    subst e1 e3 e4
    simp only [List.length_cons] at h4
    by_cases hc : cap = 1
    · rw [if_pos hc]
      have hy : ys = [] := List.length_eq_zero_iff.1 (by omega)
      subst hy
      exact Or.inr ⟨g, off, cap - 1, cur, rfl, h2, h3, by simp, by omega, fun j x hx => by simp at hx⟩
    · rw [if_neg hc]
      refine Or.inr ⟨g, off + 1, cap - 1, cur, rfl, h2, h3, by omega, by omega, fun j x hx => ?_⟩
      have := h6 (j + 1) x (by simpa using hx)
      rw [show off + 1 + j = off + (j + 1) by omega]
      exact this
theorem own_tail {g off cap n k : Nat} (h : (Value.slice (if cap = 1 then some ⟨g, off, none⟩ else some ⟨g, off + 1, none⟩) n (cap - 1)).ownBlock = some k) : (Value.slice (some ⟨g, off, none⟩) (n + 1) cap).ownBlock = some k := by
  split at h
  · exact h
  · exact h

theorem Kn.same {w w' : World} {kb : Nat} {F : Nat → Prop} {M : MS} (h : Kn w kb F M) (e : ∀ k, F k → w'.heap[k]? = w.heap[k]?) : Kn w' kb F M := by
  obtain ⟨ob, cb, qp, h1, h2, h3⟩ := h
  exact ⟨ob, cb, qp, h1.same (fun k hk => e k ((h3 k).1 hk)), h2, h3⟩

theorem PortS.below {w w' : World} {B kb l : Nat} {lv : Value} {ws : List Int} (h : PortS w B kb l lv ws) (hb : Below w.heap.size w w') : PortS w' B kb l lv ws := by
  obtain ⟨F, h1, h2, h3, h4⟩ := h
  exact ⟨F, h1.below hb, h2, h3.same (fun k hk => hb.block k (h3.row hk).2), h4⟩

/-- A trap's turn. -/
theorem PortS.trap {w : World} {B kb l : Nat} {lv : Value} {ws ws' : List Int} (h : PortS w B kb l lv ws) (hB : B ≤ w.heap.size) (n : Int) (cs : Array Value) (m : Nat) (xs : List Int) (hcs : cs.toList = xs.map (Value.int .i64)) (hm : xs.length = m) (hf : Fits xs) (ov : Value) (ho : (pM l ws).out n xs = ov) (hn : ((pM l ws).trap n xs).2 = pM l ws') :
    Calls Try.prog 19 #[.pointer (some ⟨kb, 0, none⟩), .int .i64 n, .slice (some ⟨w.heap.size, 0, none⟩) m m] (w.alloc (.cells cs 3)) fun e w' => e = .returned ov ∧ Below B w w' ∧ ∃ F, Kn w' kb F (pM l ws') ∧ (∀ k, F k → B ≤ k) ∧ Mids w' B lv ws ∧ (∀ k, lv.ownBlock = some k → ¬ F k) := by
  obtain ⟨F, h1, h2, h3, h4⟩ := h
  refine (kn_trap_new h1 n cs m xs hcs hm hf).mono ?_
  rintro e w' ⟨rfl, F', g1, g2, g3⟩
  rw [hn] at g1
  refine ⟨by rw [ho], Fr.below_lo g3 h2 hB, F', g1, fun k hk => (g2 k hk).elim (h2 k) (fun h => by omega), h3.same (fun k hk => g3.block k (h3.row hk).2 (h4 k hk)), fun k hk hF => ?_⟩
  rcases g2 k hF with h | h
  · exact h4 k hk h
  · have := (h3.row hk).2; omega

/-- A trap, and what it tells laid down. -/
theorem kn_res {w : World} {kb : Nat} {F : Nat → Prop} {M : MS} (h : Kn w kb F M) (B : Nat) (hF : ∀ k, F k → B ≤ k) (hB : B ≤ w.heap.size) (n : Int) (cs : Array Value) (m : Nat) (xs : List Int) (N : Nat) (hN : w.heap.size = N) (hcs : cs.toList = xs.map (Value.int .i64)) (hm : xs.length = m) (hf : Fits xs) (e1 : Int) (v1 : Int) (u1 : Nat) (M' : MS) (ht : M.trap n xs = ((e1, v1, u1), M')) :
    Calls Try.prog 19 #[.pointer (some ⟨kb, 0, none⟩), .int .i64 n, .slice (some ⟨N, 0, none⟩) m m] (w.alloc (.cells cs 3)) fun e w' => e = .returned (.agg #[.int .i64 e1, .int .i64 v1, .int .i64 u1]) ∧
      ∃ F', Kn (w'.alloc (.cells #[.int .i64 e1, .int .i64 v1, .int .i64 u1] 46)) kb F' M' ∧ (∀ k, F' k → B ≤ k) ∧ ¬ F' w'.heap.size ∧ w.heap.size ≤ w'.heap.size ∧ (∀ g, g < w.heap.size → ¬ F g → ¬ F' g ∧ (w'.alloc (.cells #[.int .i64 e1, .int .i64 v1, .int .i64 u1] 46)).heap[g]? = w.heap[g]?) ∧ Below B w (w'.alloc (.cells #[.int .i64 e1, .int .i64 v1, .int .i64 u1] 46)) := by
  subst hN
  refine (kn_trap_new h n cs m xs hcs hm hf).mono ?_
  rintro e w' ⟨rfl, F', k1, k2, k3⟩
  have eo : M.out n xs = .agg #[.int .i64 e1, .int .i64 v1, .int .i64 u1] := by unfold MS.out; rw [ht]; rfl
  rw [ht] at k1
  have fa : Below w'.heap.size w' (w'.alloc (.cells #[.int .i64 e1, .int .i64 v1, .int .i64 u1] 46)) := (Below.refl _ _).alloc (Nat.le_refl _) _
  have hs := k3.size
  refine ⟨by rw [eo], F', k1.below fa, fun k hk => (k2 k hk).elim (hF k) (fun h => by omega), fun hk => by have := k1.lt hk; omega, hs, fun g hg hn => ⟨fun hk => ?_, ?_⟩, (Fr.below_lo k3 hF hB).trans (fa.mono (by omega))⟩
  · rcases k2 g hk with h | h
    · exact hn h
    · omega
  · exact (fa.block g (by omega)).trans (k3.block g hg hn)

set_option maxRecDepth 100000 in
set_option maxHeartbeats 4000000 in
theorem ported_walk (w : World) (label : Int) (hlab : -9223372036854775808 ≤ label ∧ label ≤ 9223372036854775807) (owner : Bool) (sa : Option Addr) (n cap : Nat) (ss : List Int) (hn : ss.length = n) (hn4 : n ≤ 17592186043904) (hs : n = 0 ∨ ∃ b off, sa = some ⟨b, off, none⟩ ∧ Arg w b off ss) (hfs : Fits ss) :
    Calls Try.prog 7 #[.int .i64 label, .bool owner, .slice sa n cap] w fun e w' => e = .returned (.bool true) ∧ Below w.heap.size w w' := by
  obtain ⟨p, hp0, hp1, hpick⟩ := pick_val label 256 hlab (by omega)
  obtain ⟨l, rfl⟩ : ∃ l : Nat, p = l := ⟨p.toNat, by omega⟩
  have hl : l < 256 := by omega
  have HP := hide hpick
  have HBo := hide (booted_any w)
  have HS := hide hs
  have HFS := hide hfs
  clear hpick hs hfs
  go_enter Try.func7, Try.ntmps7
  go_wp2_with fail
  refine HBo.out.mono ?_
  clear HBo
  rintro e w1 ⟨kb, F1, rfl, k1, f1, b1⟩
  have K1 := hide k1
  have F1' := hide f1
  have B1 := hide b1
  have hl1 := b1.size
  clear k1 f1 b1
  go_wp2_with fail
  refine (HP.out w1).mono ?_
  clear HP
  rintro e w1' ⟨rfl, rfl⟩
  go_wp2_with fail
  have T1 := kn_trap_new K1.out 14 #[.int .i64 0, .int .i64 2, .int .i64 l] 3 [0, 2, (l : Int)] rfl rfl (fun x hx => by simp at hx; omega)
  rw [out_new l hl, trap_new l hl] at T1
  refine T1.mono ?_
  clear T1
  rintro e w2 ⟨rfl, F2, k2, g2, f2⟩
  have B2 : Hid (Below w.heap.size w w2) := B1.out.trans (Fr.below_lo f2 F1'.out hl1)
  have P2 : Hid (PortS w2 w.heap.size kb l (.slice none 0 0) []) := ⟨F2, k2, fun k hk => (g2 k hk).elim (F1'.out k) (fun h => by omega), Or.inl ⟨rfl, rfl⟩, fun k hk => by cases hk⟩
  have hl2 := f2.size
  clear k2 g2 f2 K1 F1' B1
  have fa : Below w2.heap.size w2 (w2.alloc (.cells #[.int .i64 0, .int .i64 0, .int .i64 0] 46)) := (Below.refl _ _).alloc (Nat.le_refl _) _
  have B3 := hide (B2.out.trans (fa.mono (show w.heap.size ≤ w2.heap.size by omega)))
  have P3 := hide (P2.out.below fa)
  clear fa B2 P2
  go_wp2_with fail
  go_loopw [9, 10] (fun lv i w' => ∃ (j : Nat) (ws : List Int), j ≤ n ∧ i = .int .i64 j ∧ ws.length ≤ 4 ∧ PortS w' w.heap.size kb l lv ws ∧ Below w.heap.size w w') (fun _ i _ => n - (intOf i).toNat)
  case atStart => exact ⟨0, [], by omega, rfl, by simp, P3.out, B3.out⟩
  case round =>
    obtain ⟨j, ws, hj, rfl, hw4, hps, hb⟩ := hrel
    have HPS := hide hps
    have HB := hide hb
    have hsz := hb.size
    have HW4 := hide hw4
    obtain ⟨F0, hk0, hf0, hm0, hn0⟩ := hps
    obtain ⟨la, lc, hlv⟩ := hm0.form'
    subst hlv
    have hM0 := hide hm0
    clear hk0 hf0 hm0 hn0 P3 B3
    by_cases hjn : j < n
    · have hji : (j : Int) < (n : Int) := by omega
      obtain ⟨x, hx⟩ : ∃ x, ss[j]? = some x := ⟨_, List.getElem?_eq_getElem (by omega)⟩
      obtain ⟨sb, so, hsa, harg⟩ : ∃ b off, sa = some ⟨b, off, none⟩ ∧ Arg w b off ss := by
        rcases HS.out with h | h
        · omega
        · exact h
      subst hsa
      have hslt := harg.lt
      have HXR := hide (HFS.out x (List.mem_of_getElem? hx))
      have hcell : wr.cell? ⟨sb, so + j, none⟩ = some (.int .i64 x) := (cell_same (hb.block sb hslt) _).trans (harg.cell j x hx)
      have HCELL : Hid (∀ w' : World, Below w.heap.size w w' → w'.cell? ⟨sb, so + j, none⟩ = some (.int .i64 x)) := fun w' hb' => (cell_same (hb'.block sb hslt) _).trans (harg.cell j x hx)
      obtain ⟨p, hp0, hp1, hpick⟩ := pick_val x 3 HXR.out (by omega)
      have HPK := hide hpick
      clear hpick harg hb hw4 hx HS HFS
      have hslt' : sb < wr.heap.size := by omega
      by_cases hp : p = 0
      · subst hp
        cases ws with
        | nil =>
          go_wp2_with fail
          refine (HPK.out wr).mono ?_
          rintro e w1' ⟨rfl, rfl⟩
          go_wp2_with fail
          refine (HPS.out.trap hsz 16 #[.int .i64 2] 1 [2] rfl rfl (fun x hx => by simp at hx; omega) _ (out_none l hl) (by rw [trap_recv l hl])).mono ?_
          rintro e w2 ⟨rfl, b2, p2⟩
          have P2 : Hid (PortS w2 w.heap.size kb l (.slice la 0 lc) []) := p2
          have B2 := hide (HB.out.trans b2)
          have hl2 := B2.out.size
          clear b2 p2 HPS HB
          go_wp2_with fail
          have fa : Below w2.heap.size w2 (w2.alloc (.cells #[.int .i64 9, .int .i64 0, .int .i64 l] 46)) := (Below.refl _ _).alloc (Nat.le_refl _) _
          refine ⟨⟨j + 1, [], by omega, rfl, by simp, P2.out.below fa, B2.out.trans (fa.mono hl2)⟩, ?_⟩
          simp only [intOf]
          omega
        | cons y ys =>
          obtain ⟨g, off, hla⟩ : ∃ g off, la = some ⟨g, off, none⟩ := by
            rcases hM0.out with ⟨_, h⟩ | ⟨g, off, cap, cur, e1, _⟩
            · cases h
            · injection e1 with e1; exact ⟨g, off, e1⟩
          subst hla
          have hlp : ((ys.length : Int) + 1) ≠ 0 := by omega
          go_wp2_with fail
          refine (HPK.out wr).mono ?_
          rintro e w1' ⟨rfl, rfl⟩
          go_wp2_with fail
          refine (HPS.out.trap hsz 16 #[.int .i64 2] 1 [2] rfl rfl (fun x hx => by simp at hx; omega) _ (out_some l hl y ys) (by rw [trap_recv l hl])).mono ?_
          rintro e w2 ⟨rfl, b2, F2, k2, hF2, m2, n2⟩
          have d0 : w2.cell? ⟨g, off, none⟩ = some (.int .i64 y) := by
            rcases m2 with ⟨_, h⟩ | ⟨g', off', cap', cur, h1, _, _, _, _, h6⟩
            · cases h
            · injection h1 with e1
              injection e1 with e1
              injection e1 with e1 e4
              subst e1 e4
              exact h6 0 y rfl
          have hgl : g < w2.heap.size := (m2.row rfl).2
          have hcap : ys.length + 1 ≤ lc := by
            rcases m2 with ⟨_, h⟩ | ⟨g', off', cap', cur, h1, _, _, h4, _⟩
            · cases h
            · injection h1 with _ _ e1
              subst e1
              simpa using h4
          have P2 : Hid (PortS w2 w.heap.size kb l (.slice (if lc = 1 then some ⟨g, off, none⟩ else some ⟨g, off + 1, none⟩) ys.length (lc - 1)) ys) := ⟨F2, k2, hF2, m2.tail, fun k hk => n2 k (own_tail hk)⟩
          have B2 := hide (HB.out.trans b2)
          have hl2 := B2.out.size
          clear b2 m2 n2 k2 hF2 HPS HB
          go_wp2_with fail
          have fa : Below w2.heap.size w2 (w2.alloc (.cells #[.int .i64 0, .int .i64 y, .int .i64 l] 46)) := (Below.refl _ _).alloc (Nat.le_refl _) _
          have C3 := Blk.new w2 #[.int .i64 0, .int .i64 y, .int .i64 l] 46
          have e0 : (w2.alloc (.cells #[.int .i64 0, .int .i64 y, .int .i64 l] 46)).cell? ⟨w2.heap.size, 0, none⟩ = some (.int .i64 0) := (C3.cell 0).trans rfl
          have e1 : (w2.alloc (.cells #[.int .i64 0, .int .i64 y, .int .i64 l] 46)).cell? ⟨w2.heap.size, 1, none⟩ = some (.int .i64 y) := (C3.cell 1).trans rfl
          have e2 : (w2.alloc (.cells #[.int .i64 0, .int .i64 y, .int .i64 l] 46)).cell? ⟨w2.heap.size, 2, none⟩ = some (.int .i64 l) := (C3.cell 2).trans rfl
          have e3 := (cell_same (fa.block g hgl) off).trans d0
          have FA := hide fa
          clear fa C3
          generalize (w2.alloc (.cells #[.int .i64 0, .int .i64 y, .int .i64 l] 46)) = w3 at *
          go_still (by kernel_rfl)
          go_wp2_with fail
          have fa := FA.out.drew
          have hy4 : ys.length ≤ 4 := by have := HW4.out; simp at this; omega
          refine ⟨⟨j + 1, ys, by omega, rfl, hy4, P2.out.below fa, B2.out.trans (fa.mono hl2)⟩, ?_⟩
          simp only [intOf]
          omega
      · by_cases h4 : ws.length < 4
        · have h4i : (ws.length : Int) < 4 := by omega
          go_wp2_with fail
          refine (HPK.out wr).mono ?_
          rintro e w1' ⟨rfl, rfl⟩
          go_wp2_with fail
          refine (HPS.out.trap hsz 15 #[.int .i64 2, .int .i64 x] 2 [2, x] rfl rfl (fits1 HXR.out) _ (out_room l hl ws x h4) (ws' := ws ++ [x]) (by rw [trap_send l hl, if_pos h4])).mono ?_
          rintro e w2 ⟨rfl, b2, F2, k2, hF2, m2, n2⟩
          have B2 := hide (HB.out.trans b2)
          have hl2 := B2.out.size
          have d0 := HCELL.out w2 B2.out
          have hgl : sb < w2.heap.size := by omega
          have K2 := hide k2
          have HF2 := hide hF2
          have M2 := hide m2
          have N2 := hide n2
          clear b2 m2 n2 k2 hF2 HPS HB
          have hle : ws.length + 1 ≤ 1000000 := by omega
          have wapp : Hid (∀ w5 : World, Below w2.heap.size w2 w5 → Mids w5 w.heap.size (.slice la ws.length lc) ws ∧ w.heap.size ≤ w5.heap.size) := fun w5 h5 => ⟨M2.out.same (fun k hk => h5.block k (M2.out.row hk).2), by have := h5.size; omega⟩
          have hWA : Below w2.heap.size w2 ((w2.alloc (.cells #[.int .i64 0, .int .i64 0, .int .i64 0] 46)).alloc (.cells #[.int .i64 0, .int .i64 0, .int .i64 0] 46)) := ((Below.refl _ _).alloc (Nat.le_refl _) _).alloc (by simp) _
          have hsA : ((w2.alloc (.cells #[.int .i64 0, .int .i64 0, .int .i64 0] 46)).alloc (.cells #[.int .i64 0, .int .i64 0, .int .i64 0] 46)).heap.size = w2.heap.size + 2 := by simp
          have C0 : Blk ((w2.alloc (.cells #[.int .i64 0, .int .i64 0, .int .i64 0] 46)).alloc (.cells #[.int .i64 0, .int .i64 0, .int .i64 0] 46)) w2.heap.size #[.int .i64 0, .int .i64 0, .int .i64 0] := (Blk.new w2 _ _).alloc _
          have C1 : Blk ((w2.alloc (.cells #[.int .i64 0, .int .i64 0, .int .i64 0] 46)).alloc (.cells #[.int .i64 0, .int .i64 0, .int .i64 0] 46)) (w2.heap.size + 1) #[.int .i64 0, .int .i64 0, .int .i64 0] := Blk.new' (by simp)
          have POST : Hid (∀ (v1 : Value) (w5 : World), Mids w5 w.heap.size v1 (ws ++ [x]) → Below w.heap.size ((w2.alloc (.cells #[.int .i64 0, .int .i64 0, .int .i64 0] 46)).alloc (.cells #[.int .i64 0, .int .i64 0, .int .i64 0] 46)) w5 → (∀ X, X < ((w2.alloc (.cells #[.int .i64 0, .int .i64 0, .int .i64 0] 46)).alloc (.cells #[.int .i64 0, .int .i64 0, .int .i64 0] 46)).heap.size → (Value.slice la ws.length lc).ownBlock ≠ some X → w5.heap[X]? = ((w2.alloc (.cells #[.int .i64 0, .int .i64 0, .int .i64 0] 46)).alloc (.cells #[.int .i64 0, .int .i64 0, .int .i64 0] 46)).heap[X]? ∧ v1.ownBlock ≠ some X) →
              Blk w5 w2.heap.size #[.int .i64 0, .int .i64 0, .int .i64 0] ∧ Blk w5 (w2.heap.size + 1) #[.int .i64 0, .int .i64 0, .int .i64 0] ∧ PortS w5 w.heap.size kb l v1 (ws ++ [x]) ∧ Below w.heap.size w w5) := fun v1 w5 h1 h2 h3 => by
            have own : ∀ k, (Value.slice la ws.length lc).ownBlock = some k → k < w2.heap.size := fun k hk => (M2.out.row hk).2
            refine ⟨C0.same (h3 _ (by omega) (fun e => by have := own _ e; omega)).1, C1.same (h3 _ (by omega) (fun e => by have := own _ e; omega)).1, ⟨F2, K2.out.same (fun k hk => ?_), HF2.out, h1, fun k hk hF => ?_⟩, (B2.out.trans (hWA.mono hl2)).trans h2⟩
            · have hk2 := K2.out.lt hk
              exact (h3 k (by omega) (fun e => N2.out k e hk)).1.trans (hWA.block k hk2)
            · have hk2 := K2.out.lt hF
              exact (h3 k (by omega) (fun e => N2.out k e hF)).2 hk
          clear C0 C1 hWA hsA
          go_wp2_with (at_builtin; refine wpList_mid _ (by rfl) _ _ (by rfl) w.heap.size _ ws (by rfl) (wapp.out _ (((Below.refl _ _).alloc (Nat.le_refl _) _).alloc (by simp) _)).1 x (w2.heap.size + 1 + 1) (by simp) (by rfl) hle (wapp.out _ (((Below.refl _ _).alloc (Nat.le_refl _) _).alloc (by simp) _)).2 ?_; intro v1 w5 h1 h2 h3; obtain ⟨q0, q1, q2, q3⟩ := POST.out v1 w5 h1 h2 h3; have Q2 := hide q2; have Q3 := hide q3; have z0 := (q0.cell 0).trans (show _ = some (Value.int .i64 0) from rfl); have z1 := (q0.cell 1).trans (show _ = some (Value.int .i64 0) from rfl); have z2 := (q0.cell 2).trans (show _ = some (Value.int .i64 0) from rfl); have z3 := (q1.cell 0).trans (show _ = some (Value.int .i64 0) from rfl); have z4 := (q1.cell 1).trans (show _ = some (Value.int .i64 0) from rfl); have z5 := (q1.cell 2).trans (show _ = some (Value.int .i64 0) from rfl); clear h1 h2 h3 q0 q1 q2 q3)
          refine ⟨⟨j + 1, ws ++ [x], by omega, rfl, by simp; omega, Q2.out, Q3.out⟩, ?_⟩
          simp only [intOf]
          omega
        · have h4i : ¬ (ws.length : Int) < 4 := by omega
          by_cases h0 : l = 0
          · have hl0 : ((l : Int) == 0) = true := by rw [beq_iff_eq]; omega
            go_wp2_with fail
            refine (HPK.out wr).mono ?_
            rintro e w1' ⟨rfl, rfl⟩
            go_wp2_with fail
            refine (HPS.out.trap hsz 15 #[.int .i64 2, .int .i64 x] 2 [2, x] rfl rfl (fits1 HXR.out) (.agg #[.int .i64 8, .int .i64 0, .int .i64 0]) (by rw [out_full l hl ws x h4, if_pos h0]) (next_full l hl ws x h4)).mono ?_
            rintro e w2 ⟨rfl, b2, p2⟩
            have P2 : Hid (PortS w2 w.heap.size kb l (.slice la ws.length lc) ws) := p2
            have B2 := hide (HB.out.trans b2)
            have hl2 := B2.out.size
            clear b2 p2 HPS HB
            go_wp2_with fail
            have hz : (0 : Int) = (l : Int) := by omega
            rw [hz]
            refine ⟨?_, ?_⟩
            · iterate 61 apply Exists.intro
              refine ⟨⟨j + 1, ws, by omega, rfl, HW4.out, P2.out.below (((Below.refl _ _).alloc (Nat.le_refl _) _).alloc (by simp) _), B2.out.trans ((((Below.refl w2.heap.size w2).alloc (Nat.le_refl _) _).alloc (by simp) _).mono hl2)⟩, rfl⟩
            · show n - (intOf (.int .i64 ((j : Int) + 1))).toNat < n - (intOf (.int .i64 (j : Int))).toNat
              simp only [intOf]
              omega
          · have hl0 : ¬ (l : Int) = 0 := by omega
            go_wp2_with fail
            refine (HPK.out wr).mono ?_
            rintro e w1' ⟨rfl, rfl⟩
            go_wp2_with fail
            refine (HPS.out.trap hsz 15 #[.int .i64 2, .int .i64 x] 2 [2, x] rfl rfl (fits1 HXR.out) (.agg #[.int .i64 0, .int .i64 0, .int .i64 0]) (by rw [out_full l hl ws x h4, if_neg h0]) (next_full l hl ws x h4)).mono ?_
            rintro e w2 ⟨rfl, b2, p2⟩
            have P2 : Hid (PortS w2 w.heap.size kb l (.slice la ws.length lc) ws) := p2
            have B2 := hide (HB.out.trans b2)
            have hl2 := B2.out.size
            clear b2 p2 HPS HB
            go_wp2_with fail
            have fa : Below w2.heap.size w2 _ := ((Below.refl w2.heap.size w2).alloc (Nat.le_refl _) (.cells #[.int .i64 0, .int .i64 0, .int .i64 0] 46)).alloc (by simp) (.cells #[.int .i64 0, .int .i64 0, .int .i64 0] 46)
            refine ⟨⟨j + 1, ws, by omega, rfl, HW4.out, P2.out.below fa, B2.out.trans (fa.mono hl2)⟩, ?_⟩
            simp only [intOf]
            omega
    · have hji : ¬ (j : Int) < (n : Int) := by omega
      cases owner with
      | false =>
        clear hb HPS hM0
        go_wp2_with fail
        go_ret
        exact ⟨rfl, HB.out⟩
      | true =>
        obtain ⟨F0, k0, hF0, _, _⟩ := HPS.out
        have K0 := hide k0
        have HF0 := hide hF0
        clear hb HPS hM0 k0 hF0
        go_wp2_with fail
        refine (kn_res K0.out w.heap.size HF0.out hsz 8 #[.int .i64 2] 1 [2] _ rfl rfl rfl (fun x hx => by simp at hx; omega) 0 0 0 _ (trap_free l hl ws)).mono ?_
        rintro e w2 ⟨rfl, F2, k2, f2, n2, z2, g2, b2⟩
        have K2 := hide k2
        have HF2 := hide f2
        have N2 := hide n2
        have B2 := hide (HB.out.trans b2)
        have C2 := hide (Blk.new w2 #[.int .i64 0, .int .i64 0, .int .i64 0] 46)
        have s2 : (w2.alloc (.cells #[.int .i64 0, .int .i64 0, .int .i64 0] 46)).heap.size = w2.heap.size + 1 := by simp
        clear k2 f2 n2 g2 b2 K0 HF0 HB
        go_wp2_with fail
        have S2 := hide s2
        generalize (w2.alloc (.cells #[.int .i64 0, .int .i64 0, .int .i64 0] 46)) = w3 at *
        have l2 : w.heap.size ≤ w3.heap.size := by omega
        refine (kn_res K2.out w.heap.size HF2.out l2 15 #[.int .i64 2, .int .i64 1] 2 [2, 1] _ s2 rfl rfl (fun x hx => by simp at hx; omega) 5 0 0 _ trap_dead).mono ?_
        rintro e w4 ⟨rfl, F4, k4, f4, n4, z4, g4, b4⟩
        have q42 := g4 w2.heap.size (by omega) N2.out
        have K4 := hide k4
        have HF4 := hide f4
        have N4 := hide n4
        have N42 := hide q42.1
        have B4 := hide (B2.out.trans b4)
        have C42 := hide (C2.out.same q42.2)
        have C4 := hide (Blk.new w4 #[.int .i64 5, .int .i64 0, .int .i64 0] 46)
        have s4 : (w4.alloc (.cells #[.int .i64 5, .int .i64 0, .int .i64 0] 46)).heap.size = w4.heap.size + 1 := by simp
        clear k4 f4 n4 g4 b4 q42 K2 HF2 N2 B2 C2
        have hs3 := S2.out
        clear s2 S2
        go_wp2_with fail
        have S4 := hide s4
        generalize (w4.alloc (.cells #[.int .i64 5, .int .i64 0, .int .i64 0] 46)) = w5 at *
        have l4 : w.heap.size ≤ w5.heap.size := by omega
        refine (kn_res K4.out w.heap.size HF4.out l4 14 #[.int .i64 0, .int .i64 2, .int .i64 l] 3 [0, 2, (l : Int)] _ s4 rfl rfl (fun x hx => by simp at hx; omega) 0 0 0 _ (trap_new l hl)).mono ?_
        rintro e w6 ⟨rfl, F6, k6, f6, n6, z6, g6, b6⟩
        have q62 := g6 w2.heap.size (by omega) N42.out
        have q64 := g6 w4.heap.size (by omega) N4.out
        have K6 := hide k6
        have HF6 := hide f6
        have N6 := hide n6
        have N62 := hide q62.1
        have N64 := hide q64.1
        have B6 := hide (B4.out.trans b6)
        have C62 := hide (C42.out.same q62.2)
        have C64 := hide (C4.out.same q64.2)
        have C6 := hide (Blk.new w6 #[.int .i64 0, .int .i64 0, .int .i64 0] 46)
        have s6 : (w6.alloc (.cells #[.int .i64 0, .int .i64 0, .int .i64 0] 46)).heap.size = w6.heap.size + 1 := by simp
        have hs5 := S4.out
        clear k6 f6 n6 g6 b6 q62 q64 K4 HF4 N4 N42 B4 C42 C4 s4 S4
        go_wp2_with fail
        have S6 := hide s6
        generalize (w6.alloc (.cells #[.int .i64 0, .int .i64 0, .int .i64 0] 46)) = w7 at *
        have l6 : w.heap.size ≤ w7.heap.size := by omega
        refine (kn_res K6.out w.heap.size HF6.out l6 16 #[.int .i64 2] 1 [2] _ s6 rfl rfl (fun x hx => by simp at hx; omega) 9 0 l _ (trap_recv l hl [])).mono ?_
        rintro e w8 ⟨rfl, F8, k8, f8, n8, z8, g8, b8⟩
        have d2 := ((C62.out.same (g8 w2.heap.size (by omega) N62.out).2).cell 0).trans (show _ = some (Value.int .i64 0) from rfl)
        have d4 := ((C64.out.same (g8 w4.heap.size (by omega) N64.out).2).cell 0).trans (show _ = some (Value.int .i64 5) from rfl)
        have d6 := ((C6.out.same (g8 w6.heap.size (by omega) N6.out).2).cell 0).trans (show _ = some (Value.int .i64 0) from rfl)
        have d8 := ((Blk.new w8 #[.int .i64 9, .int .i64 0, .int .i64 l] 46).cell 0).trans (show _ = some (Value.int .i64 9) from rfl)
        have B8 := hide (B6.out.trans b8)
        have hs7 := S6.out
        clear k8 f8 n8 g8 b8 K6 HF6 N6 N62 N64 B6 C62 C64 C6 s6 S6
        go_wp2_with fail
        go_ret
        exact ⟨rfl, B8.out⟩

end Go.Proofs.Ytloppmepfkkblaa
end
