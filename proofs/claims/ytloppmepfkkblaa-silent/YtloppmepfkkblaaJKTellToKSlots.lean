/- What the program tells of a kernel under a label: a view on its way; 'tell', 'knows'. -/
import Derived.Deep.MidRow
import Derived.StillTailTactics
import Derived.Test.YtloppmepfkkblaaJKAdmitsToKBoot
import Derived.Test.YtloppmepfkkblaaJOuts0
import Derived.Test.YtloppmepfkkblaaJMKeepsToViewM
import Derived.Test.YtloppmepfkkblaaJKReachToKComm

section
open Go Go.Proofs Go.RowKit
namespace Go.Proofs.Ytloppmepfkkblaa

/-- A port's channel. -/
def CF (M : MS) (cb : Nat → Nat) (k : Nat) : Prop := ∃ i, i < 32 ∧ (M.S i).kind = 4 ∧ k = cb i

/-- A view on its way lies in block vb; what was told so far: xs, in v. B: the memory ahead of it. -/
structure VK (w : World) (B vb kb : Nat) (M : MS) (ob cb : Nat → Nat) (qp : Nat → Option Nat) (l : Nat) (v : Value) (xs : List Int) : Prop where
  kp : KP w kb M ob cb qp
  inv : MInv M
  old : ∀ k, Foot kb M ob cb qp k → k < B
  vbB : B ≤ vb
  blk : Blk w vb #[.pointer (some ⟨kb, 0, none⟩), .int .i64 l, v]
  outs : Outs w B v xs
  ne : v.ownBlock ≠ some vb
  l8 : l < 256

/-- What telling turns: channels, the view's block, the row of what was told. -/
structure VGo (M : MS) (cb : Nat → Nat) (vb : Nat) (w : World) (v : Value) (w' : World) (v' : Value) : Prop where
  os : w'.os = w.os
  tape : w'.tape = w.tape
  output : w'.output = w.output
  size : w.heap.size ≤ w'.heap.size
  block : ∀ X, X < w.heap.size → ¬ CF M cb X → X ≠ vb → v.ownBlock ≠ some X → w'.heap[X]? = w.heap[X]?
  own : ∀ X, X < w.heap.size → v.ownBlock ≠ some X → v'.ownBlock ≠ some X

section
variable {w w' : World} {B vb kb : Nat} {M : MS} {ob cb : Nat → Nat} {qp : Nat → Option Nat} {l : Nat} {v v' : Value} {xs : List Int}

theorem VGo.of_below (hb : Below w.heap.size w w') : VGo M cb vb w v w' v := ⟨hb.os, hb.tape, hb.output, hb.size, fun X hX _ _ _ => hb.block X hX, fun _ _ h => h⟩
theorem VGo.trans {w1 w2 : World} {v1 v2 : Value} (h : VGo M cb vb w v w1 v1) (k : VGo M cb vb w1 v1 w2 v2) : VGo M cb vb w v w2 v2 :=
  ⟨k.os.trans h.os, k.tape.trans h.tape, k.output.trans h.output, Nat.le_trans h.size k.size,
   fun X hX h1 h2 h3 => (k.block X (Nat.lt_of_lt_of_le hX h.size) h1 h2 (h.own X hX h3)).trans (h.block X hX h1 h2 h3),
   fun X hX h3 => k.own X (Nat.lt_of_lt_of_le hX h.size) (h.own X hX h3)⟩

theorem VK.below (h : VK w B vb kb M ob cb qp l v xs) (hb : Below w.heap.size w w') : VK w' B vb kb M ob cb qp l v xs :=
  ⟨h.kp.below hb, h.inv, h.old, h.vbB, h.blk.below hb h.blk.lt, h.outs.later hb, h.ne, h.l8⟩
theorem VK.cells (h : VK w B vb kb M ob cb qp l v xs) : w.cell? ⟨vb, 0, none⟩ = some (.pointer (some ⟨kb, 0, none⟩)) ∧ w.cell? ⟨vb, 1, none⟩ = some (.int .i64 l) ∧ w.cell? ⟨vb, 2, none⟩ = some v ∧ w.frozen? ⟨vb, 2, none⟩ = false := by
  refine ⟨?_, ?_, ?_, h.blk.frozen 2⟩ <;> rw [h.blk.cell] <;> rfl
theorem VK.lt (h : VK w B vb kb M ob cb qp l v xs) : vb < w.heap.size := h.blk.lt
theorem VK.Blt (h : VK w B vb kb M ob cb qp l v xs) : B ≤ w.heap.size := by have := h.vbB; have := h.lt; omega
theorem CF.foot {k : Nat} (h : CF M cb k) : Foot kb M ob cb qp k := by
  obtain ⟨i, h1, h2, h3⟩ := h
  exact Or.inr (Or.inr (Or.inl ⟨i, h1, h2, h3.symm⟩))
theorem VK.cfB (h : VK w B vb kb M ob cb qp l v xs) {k : Nat} (hk : CF M cb k) : k < B := h.old k hk.foot

/-- A block of the caller's own is as it was. -/
theorem VGo.keep {X : Nat} {cs : Array Value} (h : VGo M cb vb w v w' v') (hb : Blk w X cs) (h1 : ¬ CF M cb X) (h2 : X ≠ vb) (h3 : v.ownBlock ≠ some X) : Blk w' X cs := hb.same (h.block X hb.lt h1 h2 h3)

/-- The shape of what was told. -/
theorem Outs.shape {w : World} {B : Nat} {v : Value} {xs : List Int} (h : Outs w B v xs) : v = .slice none 0 0 ∨ ∃ g cap, v = .slice (some ⟨g, 0, none⟩) xs.length cap ∧ B ≤ g ∧ v.ownBlock = some g := by
  rcases h.2 with ⟨h1, _⟩ | ⟨g, cap, cur, h1, h2, _⟩
  · exact Or.inl h1
  · exact Or.inr ⟨g, cap, h1, h2, by rw [h1]; rfl⟩

theorem Outs.form {w : World} {B : Nat} {v : Value} {xs : List Int} (h : Outs w B v xs) : ∃ a n c, v = .slice a n c := by
  rcases h.shape with h1 | ⟨g, cap, h1, _⟩
  · exact ⟨_, _, _, h1⟩
  · exact ⟨_, _, _, h1⟩

set_option maxHeartbeats 2000000 in
theorem tell_any (h : VK w B vb kb M ob cb qp l v xs) (lb lo m c : Nat) (ys : List Int) (hm : ys.length = m) (hlen : xs.length + m ≤ 1000000) (ha : ∀ j y, ys[j]? = some y → w.cell? ⟨lb, lo + j, none⟩ = some (.int .i64 y)) :
    Calls Try.prog 22 #[.pointer (some ⟨vb, 0, none⟩), .slice (some ⟨lb, lo, none⟩) m c] w fun e w' => e = .returned (.tuple #[]) ∧ ∃ v', VK w' B vb kb M ob cb qp l v' (xs ++ ys) ∧ VGo M cb vb w v w' v' := by
  obtain ⟨c0, c1, c2, f2⟩ := h.cells
  have H := hide h
  have hne := h.ne
  have hout := hide h.outs
  have hlt := h.lt
  have hB := h.Blt
  have HA : Hid (∀ j y, ys[j]? = some y → w.cell? ((⟨lb, lo, none⟩ : Addr).add j) = some (.int .i64 y)) := fun j y hy => by
    have := ha j y hy
    rw [Addr.add_mid]
    exact this
  have HM := hide hm
  have HLE := hide hlen
  clear h ha hm hlen
  have post : Hid (∀ (v1 : Value) (w1 : World), Outs w1 B v1 (xs ++ ys) → Below B w w1 → (∀ X, X < w.heap.size → v.ownBlock ≠ some X → w1.heap[X]? = w.heap[X]? ∧ v1.ownBlock ≠ some X) → VK (w1.setCell ⟨vb, 2, none⟩ v1) B vb kb M ob cb qp l v1 (xs ++ ys) ∧ VGo M cb vb w v (w1.setCell ⟨vb, 2, none⟩ v1) v1) := fun v1 w1 h1 h2 h3 => by
    have hvb := h3 vb hlt hne
    have hb1 : Blk w1 vb _ := H.out.blk.same hvb.1
    have kp1 : KP w1 kb M ob cb qp := H.out.kp.same (fun k hk => h2.block k (H.out.old k hk))
    refine ⟨⟨kp1.fr (Fr.own _ _ _ _) (fun k hk e => by have := H.out.old k hk; have := H.out.vbB; omega), H.out.inv, H.out.old, H.out.vbB, hb1.set 2 v1, h1.same (fun k hk => Below.heap_setCell _ _ _ _ (fun e => hvb.2 (by rw [hk, e]))), hvb.2, H.out.l8⟩, ⟨h2.os, h2.tape, h2.output, by simpa [World.setCell] using h2.size, fun X hX _ hv hn => ?_, fun X hX hn => (h3 X hX hn).2⟩⟩
    rw [Below.heap_setCell _ _ _ _ hv]
    exact (h3 X hX hn).1
  have cells1 : Hid (∀ (v1 : Value) (w1 : World), (∀ X, X < w.heap.size → v.ownBlock ≠ some X → w1.heap[X]? = w.heap[X]? ∧ v1.ownBlock ≠ some X) → w1.cell? ⟨vb, 2, none⟩ = some v ∧ w1.frozen? ⟨vb, 2, none⟩ = false) := fun v1 w1 h3 => by
    have hb1 : Blk w1 vb _ := H.out.blk.same (h3 vb hlt hne).1
    exact ⟨by rw [hb1.cell]; rfl, hb1.frozen 2⟩
  obtain ⟨va, vn, vc, hs⟩ := hout.out.form
  subst hs
  go_enter Try.func22, Try.ntmps22
  go_wp2_with (at_builtin; refine wpList_out _ (by rfl) _ _ (by rfl) B _ xs (by rfl) hout.out ⟨lb, lo, none⟩ m c ys (by rfl) HM.out HA.out HLE.out hB ?_; intro v1 w1 h1 h2 h3; obtain ⟨d2, e2⟩ := cells1.out v1 w1 h3; have P1 := hide (post.out v1 w1 h1 h2 h3); obtain ⟨a1, n1, m1, hs1⟩ := h1.form; subst hs1; clear h1 h2 h3)
  go_end0
  exact ⟨rfl, _, P1.out⟩

/-- .. of numbers that were laid for it just now. -/
theorem tell_new (h : VK w B vb kb M ob cb qp l v xs) (cs : Array Value) (m : Nat) (ys : List Int) (hcs : cs.toList = ys.map (Value.int .i64)) (hm : ys.length = m) (hlen : xs.length + m ≤ 1000000) :
    Calls Try.prog 22 #[.pointer (some ⟨vb, 0, none⟩), .slice (some ⟨w.heap.size, 0, none⟩) m m] (w.alloc (.cells cs 3)) fun e w' => e = .returned (.tuple #[]) ∧ ∃ v', VK w' B vb kb M ob cb qp l v' (xs ++ ys) ∧ VGo M cb vb w v w' v' := by
  have hb : Below w.heap.size w (w.alloc (.cells cs 3)) := (Below.refl _ _).alloc (Nat.le_refl _) _
  refine (tell_any (h.below hb) w.heap.size 0 m m ys hm hlen (fun j y hy => ?_)).mono ?_
  · rw [Nat.zero_add, (Blk.new w cs 3).cell, ← Array.getElem?_toList, hcs, List.getElem?_map, hy]
    rfl
  · rintro e w' ⟨rfl, v', h1, h2⟩
    exact ⟨rfl, v', h1, (VGo.of_below hb).trans h2⟩

set_option maxHeartbeats 1000000 in
theorem knows_any (h : VK w B vb kb M ob cb qp l v xs) (i : Nat) (hi : i < 32) (hk : (M.S i).kind ≠ 0) :
    Calls Try.prog 30 #[.pointer (some ⟨vb, 0, none⟩), .iface (tyOf (M.S i).kind) (.pointer (some ⟨ob i, 0, none⟩))] w fun e w' => e = .returned (.bool (sub (M.S i).label l)) ∧ Below w.heap.size w w' := by
  obtain ⟨-, c1', -⟩ := h.cells
  have c1 := later_cell c1' h.lt
  obtain ⟨b0, b1, b2⟩ := h.kp.base hi hk
  have hol := h.kp.oblt hi hk
  have hm : ∀ x : Later w, (method 244 (tyOf (M.S i).kind) (.pointer (some ⟨ob i, 0, none⟩)) "cloister/cloister.labelOf").run Try.prog x.1 = .ok (26, .agg #[.int .i64 i, .int .i64 (M.S i).kind, .int .i64 (M.S i).label]) x.1 :=
    fun x => method_labelOf x.1 _ _ _ _ (h.kp.kind14 hi hk) (later_cell b0 hol x) (later_cell b1 hol x) (later_cell b2 hol x)
  have HW := hide (fun w => kwithin w (M.S i).label l (h.kp.wf i hi).2.2.2.2.1 h.l8)
  clear h b0 b1 b2 c1' hk hol
  generalize tyOf (M.S i).kind = T at *
  go_enter Try.func30, Try.ntmps30
  go_wp2_with fail
  have hne : Nonempty (Later w) := ⟨⟨w, Below.refl _ _⟩⟩
  refine wp_region_later (by kernel_rfl) (by kernel_rfl) ?_
  repeat (go_big_quiet_step ((first | (go_at_call 26; exact Calls.later_of (labelOf_any _ _ _ _)) | (go_at_call 50; exact Calls.later_of (HW.out _)))))
  refine wpQuiet_nil ?_
  rintro _ ⟨wl, rfl⟩
  clear hne
  go_wp2_with fail
  go_ret
  exact ⟨rfl, wl.2⟩
end

end Go.Proofs.Ytloppmepfkkblaa
end

section
/- What the program's objects tell of themselves: 'inside'. -/
open Go Go.Conc Go.Proofs Go.RowKit
namespace Go.Proofs.Ytloppmepfkkblaa

section
variable {w w' : World} {kb : Nat} {M : MS} {ob cb : Nat → Nat} {qp : Nat → Option Nat}

/-- Numbers that lie somewhere. -/
def Lies (w : World) (v : Value) (ys : List Int) : Prop := ∃ lb lo c, v = .slice (some ⟨lb, lo, none⟩) ys.length c ∧ ∀ j y, ys[j]? = some y → w.cell? ⟨lb, lo + j, none⟩ = some (.int .i64 y)

set_option maxRecDepth 100000 in
set_option maxHeartbeats 1000000 in
theorem inside_cont (h : KP w kb M ob cb qp) (s : Nat) (hs : s < 32) (hk : (M.S s).kind = 1) :
    Calls Try.prog 94 #[.pointer (some ⟨ob s, 0, none⟩)] w fun e w' => ∃ v, e = .returned v ∧ Lies w' v (bodyM M s) ∧ Below w.heap.size w w' := by
  obtain ⟨c3, c4, c5, c6⟩ := h.cont hs hk
  have eb : bodyM M s = [(M.S s).A, (M.S s).B, (M.S s).G, (M.S s).H] := by unfold bodyM; rw [if_pos hk]
  rw [eb]
  clear h eb hk
  go_enter Try.func94, Try.ntmps94
  go_wp2_with fail
  go_still_tail 20, (by kernel_rfl)
  go_wp2_with fail
  go_ret
  refine ⟨_, rfl, ⟨w.heap.size, 0, 4, rfl, fun j y hy => ?_⟩, ((Below.refl _ _).alloc (Nat.le_refl _) _).drew⟩
  rw [Nat.zero_add, ((Blk.new w _ _).drew).cell]
  rcases j with _ | _ | _ | _ | j
  all_goals first | (simp at hy; done) | (simp at hy; subst hy; rfl)

set_option maxHeartbeats 1000000 in
theorem inside_thread (h : KP w kb M ob cb qp) (s : Nat) (hs : s < 32) (hk : (M.S s).kind = 2) :
    Calls Try.prog 92 #[.pointer (some ⟨ob s, 0, none⟩)] w fun e w' => ∃ v, e = .returned v ∧ Lies w' v (bodyM M s) ∧ Below w.heap.size w w' := by
  obtain ⟨c3, c4⟩ := h.thr hs hk
  have eb : bodyM M s = [((M.S s).owns : Int), if (M.S s).awake = true then 1 else 0] := by unfold bodyM; rw [if_neg (by omega), if_pos hk]
  rw [eb]
  clear h eb hk
  generalize (M.S s).awake = aw at *
  cases aw with
  | true =>
    go_enter Try.func92, Try.ntmps92
    go_wp2_with fail
    go_ret
    refine ⟨_, rfl, ⟨w.heap.size, 0, 2, rfl, fun j y hy => ?_⟩, (Below.refl _ _).alloc (Nat.le_refl _) _⟩
    rw [Nat.zero_add, (Blk.new w _ _).cell]
    rcases j with _ | _ | j
    all_goals first | (simp at hy; done) | (simp at hy; subst hy; rfl)
  | false =>
    go_enter Try.func92, Try.ntmps92
    go_wp2_with fail
    go_ret
    refine ⟨_, rfl, ⟨w.heap.size, 0, 2, rfl, fun j y hy => ?_⟩, (Below.refl _ _).alloc (Nat.le_refl _) _⟩
    rw [Nat.zero_add, (Blk.new w _ _).cell]
    rcases j with _ | _ | j
    all_goals first | (simp at hy; done) | (simp at hy; subst hy; rfl)

set_option maxHeartbeats 1000000 in
theorem inside_seg (h : KP w kb M ob cb qp) (s : Nat) (hs : s < 32) (hk : (M.S s).kind = 3) :
    Calls Try.prog 95 #[.pointer (some ⟨ob s, 0, none⟩)] w fun e w' => ∃ v, e = .returned v ∧ Lies w' v (bodyM M s) ∧ Below w.heap.size w w' := by
  have eb : bodyM M s = M.ws s := by unfold bodyM; rw [if_neg (by omega), if_neg (by omega), if_pos hk]
  have hl := h.segs s hs hk
  have HW : Hid (∀ j y, (M.ws s)[j]? = some y → w.cell? ⟨ob s, 3 + j, none⟩ = some (.int .i64 y)) := fun j y hy => h.word hs hk hy
  rw [eb]
  clear h eb hk
  have HL := hide hl
  clear hl
  go_enter Try.func95, Try.ntmps95
  go_wp2_with fail
  go_ret
  exact ⟨_, rfl, ⟨ob s, 3, 8, by rw [HL.out]; rfl, HW.out⟩, Below.refl _ _⟩

theorem run_mv (f : Operand → Value) (W : World) (d : Option Nat) (x : Operand) (ty : Nat) (ps : String) (af : Array Edge) :
    (execOp f { dst := d, op := Op.move x, type := ty, pos := ps, after := af, guard := none }).run Try.prog W = .ok (.value (f x)) W := by
  simp [execOp, go_sem]
theorem run_as (f : Operand → Value) (W : World) (d : Option Nat) (x : Operand) (ty : Nat) (ps : String) (af : Array Edge) :
    (execOp f { dst := d, op := Op.assign x, type := ty, pos := ps, after := af, guard := none }).run Try.prog W = .ok (.value (f x)) W := by
  simp [execOp, go_sem]
theorem run_nc (f : Operand → Value) (W : World) (d : Option Nat) (x : Operand) (g ty : Nat) (ps : String) (af : Array Edge) (hx : f x = .pointer (some ⟨g, 0, none⟩)) :
    (execOp f { dst := d, op := Op.nilCheck x, type := ty, pos := ps, after := af, guard := none }).run Try.prog W = .ok (.value (.pointer (some ⟨g, 0, none⟩))) W := by
  simp [execOp, go_sem, hx]
theorem run_fa (f : Operand → Value) (W : World) (d : Option Nat) (x : Operand) (g ty : Nat) (ps : String) (af : Array Edge) (hx : f x = .pointer (some ⟨g, 0, none⟩)) :
    (execOp f { dst := d, op := Op.fieldAddr 121 x 1, type := ty, pos := ps, after := af, guard := none }).run Try.prog W = .ok (.value (.pointer (some ⟨g, 3, none⟩))) W := by
  simp [execOp, go_sem, hx]
theorem run_lc (f : Operand → Value) (W : World) (d : Option Nat) (x : Operand) (g c ty : Nat) (ps : String) (af : Array Edge) (hx : f x = .pointer (some ⟨g, 3, none⟩)) (hc : W.cell? ⟨g, 3, none⟩ = some (.chan (some c))) :
    (execOp f { dst := d, op := Op.load 119 x, type := ty, pos := ps, after := af, guard := none }).run Try.prog W = .ok (.value (.chan (some c))) W := by
  simp [execOp, go_sem, hx, hc]
theorem run_rv (f : Operand → Value) (W : World) (d : Option Nat) (x : Operand) (c ty : Nat) (ps : String) (af : Array Edge) (hx : f x = .chan (some c)) :
    (execOp f { dst := d, op := Op.recv 119 x false, type := ty, pos := ps, after := af, guard := none }).run Try.prog W = .ok (.comm #[rcase c (.int .i64 0)] true (.recv false)) W := by
  simp [execOp, go_sem, hx, rcase]
theorem run_sd (f : Operand → Value) (W : World) (d : Option Nat) (x y : Operand) (c ty : Nat) (v : Value) (ps : String) (af : Array Edge) (hx : f x = .chan (some c)) (hy : f y = v) :
    (execOp f { dst := d, op := Op.send x y, type := ty, pos := ps, after := af, guard := none }).run Try.prog W = .ok (.comm #[scase c v (.tuple #[])] true .send) W := by
  simp [execOp, go_sem, hx, hy, scase]

section
variable {P : Program} {ops : Array Oper} {Q : Exit → Act → World → Prop} {a : Act} {w : World} {i : Nat} {rest : List Nat} {o : Oper} {d : Nat} {c cap s r : Nat} {buf : Array Value} {z v : Value} {tm closed : Bool}
theorem sv_value (ho : ops[i]? = some o) (hw : Region.wanted o (yielded ops a.tmps) = true) (hd : o.dst = some d) {w' : World} (hr : (execOp a.eval o).run P w = .ok (.value v) w') (h : SemOps P ops Q rest (a.put (some d) v) w') : SemOps P ops Q (i :: rest) a w :=
  sem_value ho hw hr (by rw [hd]; exact h)
theorem sv_recv (ho : ops[i]? = some o) (hw : Region.wanted o (yielded ops a.tmps) = true) (hd : o.dst = some d) (hr : (execOp a.eval o).run P w = .ok (.comm #[rcase c z] true (.recv false)) w)
    (hc : w.heap[c]? = some (.chan cap buf closed s r tm)) (hsome : 0 < buf.size) (h : SemOps P ops Q rest (a.put (some d) (buf.getD 0 undef)) (w.setChan c cap (buf.extract 1 buf.size) closed s (r + 1) tm)) : SemOps P ops Q (i :: rest) a w :=
  sem_recv ho hw hr hc hsome (by rw [hd]; exact h)
theorem sv_send (ho : ops[i]? = some o) (hw : Region.wanted o (yielded ops a.tmps) = true) (hd : o.dst = none) (hr : (execOp a.eval o).run P w = .ok (.comm #[scase c v z] true .send) w)
    (hc : w.heap[c]? = some (.chan cap buf false s r tm)) (hroom : buf.size < cap) (h : SemOps P ops Q rest a (w.setChan c cap (buf.push v) false (s + 1) r tm)) : SemOps P ops Q (i :: rest) a w :=
  sem_send ho hw hr hc hroom (by rw [hd]; exact h)
end

/-- The words of a port behind j rounds. -/
def turned (ws : List Int) (j : Nat) : List Int := ws.drop j ++ ws.take j
theorem turned_zero (ws : List Int) : turned ws 0 = ws := by simp [turned]
theorem turned_all (ws : List Int) : turned ws ws.length = ws := by simp [turned]
theorem turned_cons {ws : List Int} {j : Nat} (h : j < ws.length) : turned ws j = ws.getD j 0 :: (ws.drop (j + 1) ++ ws.take j) := by
  unfold turned
  rw [List.drop_eq_getElem_cons h, List.getD_eq_getElem?_getD, List.getElem?_eq_getElem h]
  rfl
theorem turned_succ {ws : List Int} {j : Nat} (h : j < ws.length) : (ws.drop (j + 1) ++ ws.take j) ++ [ws.getD j 0] = turned ws (j + 1) := by
  unfold turned
  rw [List.append_assoc, List.take_add_one, List.getD_eq_getElem?_getD, List.getElem?_eq_getElem h]
  rfl
theorem take_succ' {ws : List Int} {j : Nat} (h : j < ws.length) : ws.take j ++ [ws.getD j 0] = ws.take (j + 1) := by
  rw [List.take_add_one, List.getD_eq_getElem?_getD, List.getElem?_eq_getElem h]
  rfl

theorem Outs.lies {w : World} {B : Nat} {v : Value} {xs : List Int} (h : Outs w B v xs) (hne : xs ≠ []) : Lies w v xs := by
  rcases h.2 with ⟨_, h2⟩ | ⟨g, cap, cur, h1, h2, h3, h4, h5, h6, h7⟩
  · exact absurd (List.length_eq_zero_iff.1 h2) hne
  · refine ⟨g, 0, cap, h1, fun j y hy => ?_⟩
    have hB : Blk w g cur := ⟨_, h3⟩
    rw [Nat.zero_add, hB.cell, ← Array.getElem?_toList]
    have hj : j < xs.length := (List.getElem?_eq_some_iff.1 hy).1
    have e := congrArg (fun l => l[j]?) h7
    simp only [Nat.mul_one, List.getElem?_map, hy] at e
    rw [List.getElem?_take_of_lt hj] at e
    exact e

set_option maxRecDepth 100000 in
set_option maxHeartbeats 4000000 in
theorem inside_port (h : KP w kb M ob cb qp) (s : Nat) (hs : s < 32) (hk : (M.S s).kind = 4) :
    Calls Try.prog 96 #[.pointer (some ⟨ob s, 0, none⟩)] w fun e w' => ∃ v, e = .returned v ∧ Lies w' v (bodyM M s) ∧ ChanAt w' (cb s) (M.ws s) ∧ Fr (fun k => k = cb s) w w' := by
  have eb : bodyM M s = ((M.ws s).length : Int) :: M.ws s := by unfold bodyM; rw [if_neg (by omega), if_neg (by omega), if_neg (by omega), if_pos hk]
  have c3 := h.chan hs hk
  obtain ⟨sn, rn, hch⟩ := h.chans s hs hk
  have HL := hide (h.ports s hs hk)
  have hne : ob s ≠ cb s := ((h.chans s hs hk).ne (h.obs s hs (by omega))).symm
  have hlo := h.oblt hs (by omega)
  have hlc := (h.chans s hs hk).lt
  rw [eb]
  clear h eb hk
  generalize M.ws s = ws at *
  have hlen := fun ty => run_len_chan (P := Try.prog) 119 ty Try.underlying119 hch
  rw [ints_size] at hlen
  have HCH := hide hch
  clear hch
  go_enter Try.func96, Try.ntmps96
  generalize hR5 : Code.region 5 _ _ = R5
  generalize hR6 : Code.region 6 _ _ = R6
  go_wp2_with fail
  have hO : Outs (w.alloc (.cells #[.int .i64 (ws.length : Int)] 3)) w.heap.size (.slice (some ⟨w.heap.size, 0, none⟩) 1 1) [(ws.length : Int)] :=
    ⟨rfl, Or.inr ⟨w.heap.size, 1, _, rfl, Nat.le_refl _, heap_alloc_new w _, Nat.le_refl _, by unfold maxLen; omega, rfl, rfl⟩⟩
  have HO := hide hO
  have hc0 : ChanAt (w.alloc (.cells #[.int .i64 (ws.length : Int)] 3)) (cb s) ws := ⟨sn, rn, (Below.heap_alloc _ _ _ hlc).trans HCH.out⟩
  have HC0 := hide hc0
  clear hO hc0
  subst hR5 hR6
  go_loopw [4, 5, 14, 16, 17, 18, 19, 20, 21, 22, 23, 24, 25] (fun nv _ i _ _ _ _ _ _ _ _ _ _ w' => ∃ j : Nat, j ≤ ws.length ∧ i = .int .i64 j ∧ Outs w' w.heap.size nv ((ws.length : Int) :: ws.take j) ∧ ChanAt w' (cb s) (turned ws j) ∧ Fr (fun k => k = cb s) w w') (fun _ _ i _ _ _ _ _ _ _ _ _ _ _ => ws.length - (intOf i).toNat)
  case atStart => exact ⟨0, by omega, rfl, HO.out, by rw [turned_zero]; exact HC0.out, (Fr.refl _ _).alloc _⟩
  case round =>
    obtain ⟨j, hj, rfl, hout, hchan, hfr⟩ := hrel
    have HFR := hide hfr
    have HOUT := hide hout
    have HJ := hide hj
    have hsz := hfr.size
    by_cases hjn : j < ws.length
    · have hji : (j : Int) < (ws.length : Int) := by omega
      have d3 : wr.cell? ⟨ob s, 3, none⟩ = some (.chan (some (cb s))) := (cell_same' (hfr.block _ hlo hne) 3).trans c3
      rw [turned_cons hjn] at hchan
      obtain ⟨sn1, rn1, hch1⟩ := hchan
      have HX : Hid ((ws.drop (j + 1) ++ ws.take j) ++ [ws.getD j 0] = turned ws (j + 1)) := turned_succ hjn
      have HTK : Hid (ws.take j ++ [ws.getD j 0] = ws.take (j + 1)) := take_succ' hjn
      have HLT : Hid ((ws.drop (j + 1) ++ ws.take j).length < 4) := by have := HL.out; unfold Hid; simp; omega
      generalize ws.getD j 0 = x at *
      generalize ws.drop (j + 1) ++ ws.take j = rest at *
      have hlc1 : cb s < wr.heap.size := by omega
      have hlo1 : ob s < wr.heap.size := by omega
      clear hout hfr hlen HCH HO HC0
      obtain ⟨na, nn, nc, hnv⟩ := HOUT.out.form
      subst hnv
      generalize hR5 : Code.region 5 _ _ = R5
      generalize hR6 : Code.region 6 _ _ = R6
      go_wp2_with fail
      subst hR5
      refine wp_region_sem ?_
      show SemOps _ _ _ [0, 1, 2, 3, 4, 5] _ _
      refine sv_value rfl rfl rfl (run_mv _ _ _ _ _ _ _) ?_
      simp only [Act.put, List.setIfInBounds_toArray, List.set_cons_zero, List.set_cons_succ]
      refine sv_value rfl rfl rfl (run_nc _ _ _ _ (ob s) _ _ _ rfl) ?_
      simp only [Act.put, List.setIfInBounds_toArray, List.set_cons_zero, List.set_cons_succ]
      refine sv_value rfl rfl rfl (run_fa _ _ _ _ (ob s) _ _ _ rfl) ?_
      simp only [Act.put, List.setIfInBounds_toArray, List.set_cons_zero, List.set_cons_succ]
      refine sv_value rfl rfl rfl (run_lc _ _ _ _ (ob s) (cb s) _ _ _ rfl d3) ?_
      simp only [Act.put, List.setIfInBounds_toArray, List.set_cons_zero, List.set_cons_succ]
      refine sv_recv rfl rfl rfl (run_rv _ _ _ _ (cb s) _ _ _ rfl) hch1 (by rw [ints_size]; simp) ?_
      rw [ints_tail, ints_head]
      simp only [Act.put, List.setIfInBounds_toArray, List.set_cons_zero, List.set_cons_succ]
      refine sv_value rfl rfl rfl (v := .int .i64 x) (run_as _ _ _ _ _ _ _) ?_
      simp only [Act.put, List.setIfInBounds_toArray, List.set_cons_zero, List.set_cons_succ]
      refine sem_nil ?_
      have hch2 := heap_setChan wr (cb s) 4 (ints (x :: rest).tail).toArray false sn1 (rn1 + 1) false hlc1
      have e3 : (wr.setChan (cb s) 4 (ints (x :: rest).tail).toArray false sn1 (rn1 + 1) false).cell? ⟨ob s, 3, none⟩ = some (.chan (some (cb s))) := (cell_same' (chan_other _ _ _ _ _ _ _ hne) 3).trans d3
      have FR2 : Hid (Fr (fun k => k = cb s) w (wr.setChan (cb s) 4 (ints (x :: rest).tail).toArray false sn1 (rn1 + 1) false)) := HFR.out.trans ⟨rfl, rfl, rfl, by simp [World.setChan], fun k _ hk => chan_other _ _ _ _ _ _ _ hk⟩
      have OUT2 : Hid (Outs (wr.setChan (cb s) 4 (ints (x :: rest).tail).toArray false sn1 (rn1 + 1) false) w.heap.size (.slice na nn nc) ((ws.length : Int) :: ws.take j)) := HOUT.out.same (fun k hk => chan_other _ _ _ _ _ _ _ (by have := (HOUT.out.row hk).1; omega))
      have hsz2 : (wr.setChan (cb s) 4 (ints (x :: rest).tail).toArray false sn1 (rn1 + 1) false).heap.size = wr.heap.size := size_setChan _ _ _ _ _ _ _ _
      generalize wr.setChan (cb s) 4 (ints (x :: rest).tail).toArray false sn1 (rn1 + 1) false = W2 at *
      clear hch1 d3 HOUT HFR
      go_wp2_with fail
      subst hR6
      refine wp_region_sem ?_
      show SemOps _ _ _ [0, 1, 2, 3, 4, 5] _ _
      refine sv_value rfl rfl rfl (run_mv _ _ _ _ _ _ _) ?_
      simp only [Act.put, List.setIfInBounds_toArray, List.set_cons_zero, List.set_cons_succ]
      refine sv_value rfl rfl rfl (run_nc _ _ _ _ (ob s) _ _ _ rfl) ?_
      simp only [Act.put, List.setIfInBounds_toArray, List.set_cons_zero, List.set_cons_succ]
      refine sv_value rfl rfl rfl (run_fa _ _ _ _ (ob s) _ _ _ rfl) ?_
      simp only [Act.put, List.setIfInBounds_toArray, List.set_cons_zero, List.set_cons_succ]
      refine sv_value rfl rfl rfl (run_lc _ _ _ _ (ob s) (cb s) _ _ _ rfl e3) ?_
      simp only [Act.put, List.setIfInBounds_toArray, List.set_cons_zero, List.set_cons_succ]
      refine sv_value rfl rfl rfl (v := .int .i64 x) (run_mv _ _ _ _ _ _ _) ?_
      simp only [Act.put, List.setIfInBounds_toArray, List.set_cons_zero, List.set_cons_succ]
      refine sv_send rfl rfl rfl (run_sd _ _ _ _ _ (cb s) _ (.int .i64 x) _ _ rfl rfl) hch2 (by rw [ints_size]; exact HLT.out) ?_
      rw [ints_push]
      refine sem_nil ?_
      have eT : (x :: rest).tail ++ [x] = turned ws (j + 1) := HX.out
      rw [eT]
      have hlc2 : cb s < W2.heap.size := by omega
      have CH3 : Hid (ChanAt (W2.setChan (cb s) 4 (ints (turned ws (j + 1))).toArray false (sn1 + 1) (rn1 + 1) false) (cb s) (turned ws (j + 1))) := ⟨_, _, heap_setChan _ _ _ _ _ _ _ _ hlc2⟩
      have FR3 : Hid (Fr (fun k => k = cb s) w (W2.setChan (cb s) 4 (ints (turned ws (j + 1))).toArray false (sn1 + 1) (rn1 + 1) false)) := FR2.out.trans ⟨rfl, rfl, rfl, by simp [World.setChan], fun k _ hk => chan_other _ _ _ _ _ _ _ hk⟩
      have OUT3 : Hid (Outs (W2.setChan (cb s) 4 (ints (turned ws (j + 1))).toArray false (sn1 + 1) (rn1 + 1) false) w.heap.size (.slice na nn nc) ((ws.length : Int) :: ws.take j)) := OUT2.out.same (fun k hk => chan_other _ _ _ _ _ _ _ (by have := (OUT2.out.row hk).1; omega))
      have hsz3 : (W2.setChan (cb s) 4 (ints (turned ws (j + 1))).toArray false (sn1 + 1) (rn1 + 1) false).heap.size = wr.heap.size := (size_setChan _ _ _ _ _ _ _ _).trans hsz2
      generalize W2.setChan (cb s) 4 (ints (turned ws (j + 1))).toArray false (sn1 + 1) (rn1 + 1) false = W3 at *
      have hle3 : w.heap.size ≤ W3.heap.size := by omega
      clear hch2 e3 FR2 OUT2 eT hsz3 hsz2 hlc2
      have hle : ((ws.length : Int) :: ws.take j).length + 1 ≤ 1000000 := by have := HL.out; simp; omega
      have HLE := hide hle
      clear hle
      go_wp2_with (at_builtin; refine wpList_out_new W3 (by rfl) _ _ (by rfl) w.heap.size _ ((ws.length : Int) :: ws.take j) (by rfl) OUT3.out _ 1 [x] W3.heap.size (by rfl) (by rfl) (by rfl) (by rfl) HLE.out (by omega) ?_; intro v1 w1 h1 h2 h3; have O1 := hide h1; have F1 : Hid (Fr (fun k => k = cb s) w w1) := (Fr.trans' FR3.out (S' := fun k => w.heap.size ≤ k) ⟨h2.os, h2.tape, h2.output, h2.size, fun k _ hk => h2.block k (by omega)⟩ (fun i hi h => by omega)); have C1 := hide (CH3.out.same (h2.block _ hlc)); obtain ⟨a1, n1, m1, hs1⟩ := h1.form; subst hs1; clear h1 h2 h3)
      have e := O1.out
      rw [List.cons_append, HTK.out] at e
      have REL := hide e
      clear e
      have hL := HL.out
      have hwr : wrap64 ((j : Int) + 1) = ((j + 1 : Nat) : Int) := by unfold wrap64; omega
      rw [hwr]
      refine ⟨⟨j + 1, by omega, rfl, REL.out, C1.out, F1.out⟩, ?_⟩
      simp only [intOf]
      omega
    · have : j = ws.length := by omega
      subst this
      rw [turned_all] at hchan
      have HC := hide hchan
      obtain ⟨na, nn, nc, hnv⟩ := HOUT.out.form
      subst hnv
      clear hout hchan hfr hlen HCH HO HC0
      go_wp2_with fail
      go_ret
      refine ⟨_, rfl, ?_, HC.out, HFR.out⟩
      have e := HOUT.out
      rw [List.take_length] at e
      exact e.lies (by simp)
end

end Go.Proofs.Ytloppmepfkkblaa
end

section
/- What the program tells of a slot and of a quantum: 'tellSlot', 'tellQuantum'. -/
open Go Go.Proofs Go.RowKit
namespace Go.Proofs.Ytloppmepfkkblaa

section
variable {w w' : World} {B vb kb : Nat} {M : MS} {ob cb : Nat → Nat} {qp : Nat → Option Nat} {l : Nat} {v : Value} {xs : List Int}

/-- A channel was turned round. -/
theorem KP.turned (h : KP w kb M ob cb qp) {s : Nat} (hs : s < 32) (hk : (M.S s).kind = 4) (hc : ChanAt w' (cb s) (M.ws s)) (f : Fr (fun k => k = cb s) w w') : KP w' kb M ob cb qp := by
  have hC := h.chans s hs hk
  have hb : ∀ k, k < w.heap.size → k ≠ cb s → w'.heap[k]? = w.heap[k]? := fun k hk hn => f.block k hk hn
  obtain ⟨cs, h1, h2⟩ := h.kern
  refine ⟨⟨cs, h1.same (hb _ h1.lt (hC.ne h1).symm), h2⟩, fun j hj hkj => (h.obs j hj hkj).same (hb _ (h.obs j hj hkj).lt (hC.ne (h.obs j hj hkj)).symm), fun j hj hkj => ?_, h.kinds, h.inj, h.cinj, h.off, fun q hq => (h.quanta q hq).same fun g hg => hb _ (h.foot_lt (Or.inr (Or.inr (Or.inr ⟨q, hq, hg⟩)))) (h.qcne hq hg hs hk), h.ph8, h.segs, h.ports, h.wf⟩
  by_cases e : j = s
  · subst e; exact hc
  · exact (h.chans j hj hkj).same (hb _ (h.chans j hj hkj).lt (fun eq => e (h.cinj j s hj hs hkj hk eq)))

theorem VK.turned (h : VK w B vb kb M ob cb qp l v xs) {s : Nat} (hs : s < 32) (hk : (M.S s).kind = 4) (hc : ChanAt w' (cb s) (M.ws s)) (f : Fr (fun k => k = cb s) w w') : VK w' B vb kb M ob cb qp l v xs ∧ VGo M cb vb w v w' v := by
  have hcB : cb s < B := h.cfB ⟨s, hs, hk, rfl⟩
  refine ⟨⟨h.kp.turned hs hk hc f, h.inv, h.old, h.vbB, h.blk.fr f (fun e => by have := h.vbB; omega), h.outs.same (fun k hk' => f.block k (h.outs.row hk').2 (fun e => by have := (h.outs.row hk').1; omega)), h.ne, h.l8⟩, ⟨f.os, f.tape, f.output, f.size, fun X hX hn _ _ => f.block X hX (fun e => hn ⟨s, hs, hk, e⟩), fun X _ h => h⟩⟩

theorem cf_in1 : ∀ args w, (callFunc 94 args).run Try.prog w = .ok (.enter 94 args) w := fun args w => by
  simp [callFunc, go_sem, Try.func94, Try.f94]
theorem cf_in2 : ∀ args w, (callFunc 92 args).run Try.prog w = .ok (.enter 92 args) w := fun args w => by
  simp [callFunc, go_sem, Try.func92, Try.f92]
theorem cf_in3 : ∀ args w, (callFunc 95 args).run Try.prog w = .ok (.enter 95 args) w := fun args w => by
  simp [callFunc, go_sem, Try.func95, Try.f95]
theorem cf_in4 : ∀ args w, (callFunc 96 args).run Try.prog w = .ok (.enter 96 args) w := fun args w => by
  simp [callFunc, go_sem, Try.func96, Try.f96]

/-- What an object tells of itself. -/
theorem inside_all (h : VK w B vb kb M ob cb qp l v xs) (i : Nat) (hi : i < 32) (hk : (M.S i).kind ≠ 0) :
    ∃ fid, (∀ w' : World, (method 244 (tyOf (M.S i).kind) (.pointer (some ⟨ob i, 0, none⟩)) "cloister/cloister.inside").run Try.prog w' = .ok (fid, .pointer (some ⟨ob i, 0, none⟩)) w') ∧ (∀ args w, (callFunc fid args).run Try.prog w = .ok (.enter fid args) w) ∧
      Calls Try.prog fid #[.pointer (some ⟨ob i, 0, none⟩)] w fun e w' => ∃ v', e = .returned v' ∧ Lies w' v' (bodyM M i) ∧ VK w' B vb kb M ob cb qp l v xs ∧ VGo M cb vb w v w' v := by
  rcases h.kp.kind14 hi hk with e | e | e | e
  · refine ⟨94, fun w' => by rw [e]; exact method_inside_container w' _, cf_in1, (inside_cont h.kp i hi e).mono ?_⟩
    rintro x w' ⟨v', rfl, h1, h2⟩
    exact ⟨v', rfl, h1, h.below h2, VGo.of_below h2⟩
  · refine ⟨92, fun w' => by rw [e]; exact method_inside_thread w' _, cf_in2, (inside_thread h.kp i hi e).mono ?_⟩
    rintro x w' ⟨v', rfl, h1, h2⟩
    exact ⟨v', rfl, h1, h.below h2, VGo.of_below h2⟩
  · refine ⟨95, fun w' => by rw [e]; exact method_inside_segment w' _, cf_in3, (inside_seg h.kp i hi e).mono ?_⟩
    rintro x w' ⟨v', rfl, h1, h2⟩
    exact ⟨v', rfl, h1, h.below h2, VGo.of_below h2⟩
  · refine ⟨96, fun w' => by rw [e]; exact method_inside_port w' _, cf_in4, (inside_port h.kp i hi e).mono ?_⟩
    rintro x w' ⟨v', rfl, h1, h2, h3⟩
    exact ⟨v', rfl, h1, h.turned hi e h2 h3⟩

set_option maxHeartbeats 4000000 in
theorem tellSlot_nil (h : VK w B vb kb M ob cb qp l v xs) (i : Nat) (hi : i < 32) (hk : (M.S i).kind = 0) (hlen : xs.length + 11 ≤ 1000000) :
    Calls Try.prog 52 #[.pointer (some ⟨vb, 0, none⟩), .int .i64 i] w fun e w' => e = .returned (.tuple #[]) ∧ ∃ v', VK w' B vb kb M ob cb qp l v' (xs ++ thingM M l i) ∧ VGo M cb vb w v w' v' := by
  have et : thingM M l i = [(i : Int), 0] := by unfold thingM; rw [if_pos hk, hk]
  obtain ⟨c0, -, -, -⟩ := h.cells
  have hlt := h.lt
  have hii : (i : Int) < 32 := by omega
  have KI := hide (kindIn_any h.kp i hi)
  rw [hk] at KI
  rw [et]
  have H := hide h
  clear h et
  go_enter Try.func52, Try.ntmps52
  go_wp2_with fail
  refine KI.out.mono ?_
  clear KI
  rintro e w1 ⟨rfl, hb1⟩
  have H1 := hide (H.out.below hb1)
  have G1 : Hid (VGo M cb vb w v w1 v) := VGo.of_below hb1
  have hlt1 := H1.out.lt
  clear hb1 H
  go_wp2_with fail
  refine (tell_new H1.out #[.int .i64 i, .int .i64 0] 2 [(i : Int), 0] rfl rfl (by omega)).mono ?_
  rintro e w2 ⟨rfl, v2, h2, g2⟩
  obtain ⟨d0, -, -, -⟩ := h2.cells
  have s0 := h2.kp.slot_nil hi hk
  have hlt2 := h2.lt
  have hkl2 := h2.kp.lt
  have G2 := hide (G1.out.trans g2)
  have H2 := hide h2
  clear h2 g2 H1 G1
  go_wp2_with fail
  (try simp only [Exit.inBlock, Exit.then]); refine bodyPost_ret (results_none rfl _ _ _) rfl ?_
  exact ⟨rfl, v2, H2.out, G2.out⟩

set_option maxHeartbeats 4000000 in
theorem tellSlot_ob (h : VK w B vb kb M ob cb qp l v xs) (i : Nat) (hi : i < 32) (hk : (M.S i).kind ≠ 0) (hlen : xs.length + 11 ≤ 1000000) :
    Calls Try.prog 52 #[.pointer (some ⟨vb, 0, none⟩), .int .i64 i] w fun e w' => e = .returned (.tuple #[]) ∧ ∃ v', VK w' B vb kb M ob cb qp l v' (xs ++ thingM M l i) ∧ VGo M cb vb w v w' v' := by
  have et : xs ++ thingM M l i = ((xs ++ [(i : Int), (M.S i).kind]) ++ [((M.S i).label : Int)]) ++ (if sub (M.S i).label l = true then bodyM M i else []) := by
    unfold thingM; rw [if_neg hk]; simp
  obtain ⟨c0, -, -, -⟩ := h.cells
  have hlt := h.lt
  have hii : (i : Int) < 32 := by omega
  have KI := hide (kindIn_any h.kp i hi)
  have hbl := body_len h.inv i
  rw [et]
  have H := hide h
  clear h et
  go_enter Try.func52, Try.ntmps52
  go_wp2_with fail
  refine KI.out.mono ?_
  clear KI
  rintro e w1 ⟨rfl, hb1⟩
  have H1 := hide (H.out.below hb1)
  have G1 : Hid (VGo M cb vb w v w1 v) := VGo.of_below hb1
  have hlt1 := H1.out.lt
  clear hb1 H
  go_wp2_with fail
  refine (tell_new H1.out #[.int .i64 i, .int .i64 (M.S i).kind] 2 [(i : Int), (M.S i).kind] rfl rfl (by omega)).mono ?_
  rintro e w2 ⟨rfl, v2, h2, g2⟩
  obtain ⟨d0, -, -, -⟩ := h2.cells
  have s0 := h2.kp.slot_ob hi hk
  obtain ⟨b0, b1, b2⟩ := h2.kp.base hi hk
  have hm := method_labelOf w2 _ _ _ _ (h2.kp.kind14 hi hk) b0 b1 b2
  have hlt2 := h2.lt
  have hkl2 := h2.kp.lt
  have hol2 := h2.kp.oblt hi hk
  have G2 := hide (G1.out.trans g2)
  have H2 := hide h2
  have KK : Hid (∀ (w3 : World) (v3 : Value) (ys : List Int), VK w3 B vb kb M ob cb qp l v3 ys → Calls Try.prog 30 #[.pointer (some ⟨vb, 0, none⟩), .iface (tyOf (M.S i).kind) (.pointer (some ⟨ob i, 0, none⟩))] w3 fun e w' => e = .returned (.bool (sub (M.S i).label l)) ∧ Below w3.heap.size w3 w') := fun w3 v3 ys h3 => knows_any h3 i hi hk
  have II : Hid (∀ (w3 : World) (v3 : Value) (ys : List Int), VK w3 B vb kb M ob cb qp l v3 ys → ∃ fid, (∀ w' : World, (method 244 (tyOf (M.S i).kind) (.pointer (some ⟨ob i, 0, none⟩)) "cloister/cloister.inside").run Try.prog w' = .ok (fid, .pointer (some ⟨ob i, 0, none⟩)) w') ∧ (∀ args w, (callFunc fid args).run Try.prog w = .ok (.enter fid args) w) ∧
      Calls Try.prog fid #[.pointer (some ⟨ob i, 0, none⟩)] w3 fun e w' => ∃ v', e = .returned v' ∧ Lies w' v' (bodyM M i) ∧ VK w' B vb kb M ob cb qp l v3 ys ∧ VGo M cb vb w3 v3 w' v3) := fun w3 v3 ys h3 => inside_all h3 i hi hk
  clear h2 g2 H1 G1 b0 b1 b2 hk
  generalize tyOf (M.S i).kind = T at *
  go_wp2_with fail
  refine (labelOf_any w2 _ _ _).mono ?_
  rintro e w3 ⟨rfl, hb3⟩
  have H3 := hide (H2.out.below hb3)
  have G3 := hide (G2.out.trans (VGo.of_below (v := v2) hb3))
  have hlt3 := H3.out.lt
  clear hb3 H2 G2 hm d0 s0
  go_wp2_with fail
  refine (tell_new H3.out #[.int .i64 (M.S i).label] 1 [((M.S i).label : Int)] rfl rfl (by simp; omega)).mono ?_
  rintro e w4 ⟨rfl, v4, h4, g4⟩
  have H4 := hide h4
  have G4 := hide (G3.out.trans g4)
  have hlt4 := h4.lt
  clear h4 g4 H3 G3
  go_wp2_with fail
  refine (KK.out w4 v4 _ H4.out).mono ?_
  rintro e w5 ⟨rfl, hb5⟩
  have H5 := hide (H4.out.below hb5)
  have G5 := hide (G4.out.trans (VGo.of_below (v := v4) hb5))
  have hlt5 := H5.out.lt
  clear hb5 H4 G4 KK
  cases hsub : sub (M.S i).label l with
  | false =>
    go_wp2_with fail
    all_goals go_end0
    all_goals exact ⟨rfl, v4, by simpa using H5.out, G5.out⟩
  | true =>
    obtain ⟨fid, hm5, hcf, hc5⟩ := II.out w5 v4 _ H5.out
    clear II
    have HC := hide hc5
    clear hc5
    go_wp2_with fail
    refine HC.out.mono ?_
    clear HC
    rintro e w6 ⟨v6, rfl, ⟨lb, lo, c, rfl, hlies⟩, h6, g6⟩
    have G6 := hide (G5.out.trans g6)
    have T6 := tell_any h6 lb lo (bodyM M i).length c (bodyM M i) rfl (by simp; omega) hlies
    have HT := hide T6
    clear h6 g6 hlies T6 H5 G5
    go_wp2_with fail
    refine HT.out.mono ?_
    clear HT
    rintro e w7 ⟨rfl, v7, h7, g7⟩
    have H7 := hide h7
    have G7 := hide (G6.out.trans g7)
    clear h7 g7 G6
    go_wp2_with fail
    go_end0
    exact ⟨rfl, v7, by simpa using H7.out, G7.out⟩

theorem tellSlot_any (h : VK w B vb kb M ob cb qp l v xs) (i : Nat) (hi : i < 32) (hlen : xs.length + 11 ≤ 1000000) :
    Calls Try.prog 52 #[.pointer (some ⟨vb, 0, none⟩), .int .i64 i] w fun e w' => e = .returned (.tuple #[]) ∧ ∃ v', VK w' B vb kb M ob cb qp l v' (xs ++ thingM M l i) ∧ VGo M cb vb w v w' v' := by
  by_cases hk : (M.S i).kind = 0
  · exact tellSlot_nil h i hi hk hlen
  · exact tellSlot_ob h i hi hk hlen

set_option maxHeartbeats 4000000 in
theorem tellQuantum_any (h : VK w B vb kb M ob cb qp l v xs) (q : Nat) (hq : q < 8) (hlen : xs.length + 11 ≤ 1000000) :
    Calls Try.prog 54 #[.pointer (some ⟨vb, 0, none⟩), .int .i64 q] w fun e w' => e = .returned (.tuple #[]) ∧ ∃ v', VK w' B vb kb M ob cb qp l v' (xs ++ [(q : Int), whoM M l q]) ∧ VGo M cb vb w v w' v' := by
  obtain ⟨c0, -, -, -⟩ := h.cells
  have hlt := h.lt
  have TO := hide (threadOf_any h.kp hq)
  have H := hide h
  cases hl : M.lq q with
  | none =>
    have ew : whoM M l q = -1 := by unfold whoM; rw [hl]
    rw [ew]
    rw [hl] at TO
    clear h ew
    go_enter Try.func54, Try.ntmps54
    go_wp2_with fail
    refine TO.out.mono ?_
    clear TO
    rintro e w1 ⟨rfl, hb1⟩
    have H1 := hide (H.out.below hb1)
    have G1 : Hid (VGo M cb vb w v w1 v) := VGo.of_below hb1
    have hlt1 := H1.out.lt
    clear hb1 H
    simp only [Option.map_none, ptrV]
    go_wp2_with fail
    refine (tell_new H1.out #[.int .i64 q, .int .i64 (-1)] 2 [(q : Int), -1] rfl rfl (by omega)).mono ?_
    rintro e w2 ⟨rfl, v2, h2, g2⟩
    have G2 := hide (G1.out.trans g2)
    have H2 := hide h2
    clear h2 g2 H1 G1
    go_wp2_with fail
    (try simp only [Exit.inBlock, Exit.then]); refine bodyPost_ret (results_none rfl _ _ _) rfl ?_
    exact ⟨rfl, v2, H2.out, G2.out⟩
  | some t =>
    obtain ⟨ht, hk, -⟩ := h.kp.live hq hl
    have ew : whoM M l q = if sub (M.S t).label l = true then (t : Int) else -1 := by unfold whoM; rw [hl]
    rw [ew]
    rw [hl] at TO
    have KK : Hid (∀ (w3 : World), VK w3 B vb kb M ob cb qp l v xs → Calls Try.prog 30 #[.pointer (some ⟨vb, 0, none⟩), .iface 63 (.pointer (some ⟨ob t, 0, none⟩))] w3 fun e w' => e = .returned (.bool (sub (M.S t).label l)) ∧ Below w3.heap.size w3 w') := fun w3 h3 => by
      have := knows_any h3 t ht (by omega)
      rw [hk, tyOf2] at this
      exact this
    clear h ew
    go_enter Try.func54, Try.ntmps54
    go_wp2_with fail
    refine TO.out.mono ?_
    clear TO
    rintro e w1 ⟨rfl, hb1⟩
    have H1 := hide (H.out.below hb1)
    have G1 : Hid (VGo M cb vb w v w1 v) := VGo.of_below hb1
    have hlt1 := H1.out.lt
    clear hb1 H
    simp only [Option.map_some, ptrV]
    go_wp2_with fail
    refine (KK.out w1 H1.out).mono ?_
    clear KK
    rintro e w3 ⟨rfl, hb3⟩
    have H3 := hide (H1.out.below hb3)
    have G3 := hide (G1.out.trans (VGo.of_below (v := v) hb3))
    have hlt3 := H3.out.lt
    obtain ⟨b0, b1, b2⟩ := H3.out.kp.base ht (by omega)
    have hol3 := H3.out.kp.oblt ht (by omega)
    clear hb3 H1 G1
    cases hsub : sub (M.S t).label l with
    | false =>
      go_wp2_with fail
      refine (tell_new H3.out #[.int .i64 q, .int .i64 (-1)] 2 [(q : Int), -1] rfl rfl (by omega)).mono ?_
      rintro e w2 ⟨rfl, v2, h2, g2⟩
      have G2 := hide (G3.out.trans g2)
      have H2 := hide h2
      clear h2 g2 H3 G3
      go_wp2_with fail
      all_goals ((try simp only [Exit.inBlock, Exit.then]); refine bodyPost_ret (results_none rfl _ _ _) rfl ?_)
      all_goals exact ⟨rfl, v2, by simpa using H2.out, G2.out⟩
    | true =>
      go_wp2_with fail
      refine (place_any w3 _ _ _).mono ?_
      rintro e w4 ⟨rfl, hb4⟩
      have H4 := hide (H3.out.below hb4)
      have G4 := hide (G3.out.trans (VGo.of_below (v := v) hb4))
      have hlt4 := H4.out.lt
      clear hb4 H3 G3
      go_wp2_with fail
      refine (tell_new H4.out #[.int .i64 q, .int .i64 t] 2 [(q : Int), (t : Int)] rfl rfl (by omega)).mono ?_
      rintro e w2 ⟨rfl, v2, h2, g2⟩
      have G2 := hide (G4.out.trans g2)
      have H2 := hide h2
      clear h2 g2 H4 G4
      go_wp2_with fail
      go_end0
      exact ⟨rfl, v2, by simpa using H2.out, G2.out⟩
end

end Go.Proofs.Ytloppmepfkkblaa
end

section
/- The slots of a container, as the program lists them: 'slotsIn'. -/
open Go Go.Proofs Go.RowKit
namespace Go.Proofs.Ytloppmepfkkblaa

/-- Slots ahead of k that lie in c. -/
def slotsL (M : MS) (c : Nat) : Nat → List Int
  | 0 => []
  | k + 1 => slotsL M c k ++ (if lies M.S k = some c then [(k : Int)] else [])

theorem slotsL_len (M : MS) (c : Nat) : ∀ k, (slotsL M c k).length ≤ k
  | 0 => Nat.le_refl _
  | k + 1 => by
    have := slotsL_len M c k
    unfold slotsL
    rw [List.length_append]
    split <;> simp <;> omega
theorem slotsL_mem {M : MS} {c : Nat} : ∀ {k : Nat} {x : Int}, x ∈ slotsL M c k → ∃ s : Nat, x = s ∧ s < k ∧ lies M.S s = some c
  | 0, x, h => by simp [slotsL] at h
  | k + 1, x, h => by
    unfold slotsL at h
    rcases List.mem_append.1 h with h | h
    · obtain ⟨s, h1, h2, h3⟩ := slotsL_mem h
      exact ⟨s, h1, by omega, h3⟩
    · split at h
      · rename_i hl
        exact ⟨k, List.mem_singleton.1 h, by omega, hl⟩
      · simp at h
/-- Nothing ahead of a. -/
theorem slotsL_lo {M : MS} {c a : Nat} (ha : ∀ s : Nat, lies M.S s = some c → a ≤ s) : ∀ k, k ≤ a → slotsL M c k = []
  | 0, _ => rfl
  | k + 1, h => by
    unfold slotsL
    rw [slotsL_lo ha k (by omega), if_neg (fun e => by have := ha k e; omega)]
    rfl
/-- Nothing from b on. -/
theorem slotsL_hi {M : MS} {c b : Nat} (hb : ∀ s : Nat, lies M.S s = some c → s < b) : ∀ k, b ≤ k → slotsL M c k = slotsL M c b
  | 0, h => by have : b = 0 := by omega
               rw [this]
  | k + 1, h => by
    by_cases e : b = k + 1
    · rw [e]
    · show slotsL M c k ++ (if lies M.S k = some c then [(k : Int)] else []) = slotsL M c b
      rw [if_neg (fun e => by have := hb k e; omega), List.append_nil]
      exact slotsL_hi hb k (by omega)

section
variable {w w' : World} {B vb kb : Nat} {M : MS} {ob cb : Nat → Nat} {qp : Nat → Option Nat} {l : Nat} {v : Value} {xs : List Int}

theorem eql_home (h : KP w kb M ob cb qp) (o : Option Nat) (ho : ∀ d, o = some d → d < 32 ∧ (M.S d).kind = 1) (c : Nat) (hc : c < 32) (hck : (M.S c).kind = 1) :
    (binOp .eql 84 (ptrV (o.map ob)) (.pointer (some ⟨ob c, 0, none⟩))).run Try.prog w = .ok (.bool (decide (o = some c))) w := by
  cases o with
  | none => simp only [Option.map, ptrV]; rw [decide_eq_false (by simp)]; exact eql_nil_ptr w (ob c)
  | some d =>
    simp only [Option.map, ptrV]
    obtain ⟨hd, hdk⟩ := ho d rfl
    by_cases e : d = c
    · subst e; rw [decide_eq_true rfl]; exact eql_ptr_same w _
    · rw [decide_eq_false (fun h => e (by injection h))]
      exact eql_ptr_other w (ob d) (ob c) _ _ (fun eq => e (h.inj d c hd hc (by omega) (by omega) eq)) (h.obs d hd (by omega)) (h.obs c hc (by omega))

set_option maxRecDepth 100000 in
set_option maxHeartbeats 4000000 in
theorem slotsIn_any (h : VK w B vb kb M ob cb qp l v xs) (c : Nat) (hc : c < 32) (hck : (M.S c).kind = 1) :
    Calls Try.prog 51 #[.pointer (some ⟨vb, 0, none⟩), .pointer (some ⟨ob c, 0, none⟩)] w fun e w' => ∃ sv, e = .returned sv ∧ Outs w' w.heap.size sv (slotsL M c 32) ∧ Below w.heap.size w w' := by
  have hr := h.inv.tree.rng c hc hck
  obtain ⟨a, ha⟩ : ∃ a : Nat, (M.S c).A = a := ⟨(M.S c).A.toNat, by omega⟩
  obtain ⟨b, hb⟩ : ∃ b : Nat, (M.S c).B = b := ⟨(M.S c).B.toNat, by omega⟩
  have hab : a ≤ b ∧ b ≤ 32 := by omega
  have hin : ∀ s : Nat, lies M.S s = some c → a ≤ s ∧ s < b := fun s hs => by
    have := (lies_spec hs).2.2.1
    unfold Th.inR at this
    omega
  have EL : Hid (slotsL M c a = [] ∧ slotsL M c b = slotsL M c 32) := ⟨slotsL_lo (fun s hs => (hin s hs).1) a (Nat.le_refl _), (slotsL_hi (fun s hs => (hin s hs).2) 32 hab.2).symm⟩
  obtain ⟨d3, d4, -, -⟩ := h.kp.cont hc hck
  rw [ha] at d3
  rw [hb] at d4
  have hol := h.kp.oblt hc (by omega)
  have hvl := h.lt
  have HCC : Hid (∀ W, Below w.heap.size w W → W.cell? ⟨ob c, 3, none⟩ = some (.int .i64 a) ∧ W.cell? ⟨ob c, 4, none⟩ = some (.int .i64 b) ∧ W.cell? ⟨vb, 0, none⟩ = some (.pointer (some ⟨kb, 0, none⟩)) ∧ KP W kb M ob cb qp) := fun W hW =>
    ⟨(cell_same' (hW.block _ hol) 3).trans d3, (cell_same' (hW.block _ hol) 4).trans d4, (h.below hW).cells.1, h.kp.below hW⟩
  have HCK := hide hck
  clear h hr ha hb hin hck
  go_enter Try.func51, Try.ntmps51
  go_wp2_with fail
  clear d3 d4
  go_loopw [5, 6] (fun sv x w' => ∃ k : Nat, a ≤ k ∧ k ≤ b ∧ x = .int .i64 k ∧ Outs w' w.heap.size sv (slotsL M c k) ∧ Below w.heap.size w w') (fun _ x _ => b - (intOf x).toNat)
  case atStart => exact ⟨a, by omega, by omega, rfl, by rw [EL.out.1]; exact Outs.nil _ _, Below.refl _ _⟩
  case round =>
    obtain ⟨k, hk1, hk2, rfl, hout, hW⟩ := hrel
    obtain ⟨d3, d4, d0, hkp⟩ := HCC.out _ hW
    have HKP := hide hkp
    have HW := hide hW
    have HO := hide hout
    have hsz := hW.size
    obtain ⟨sa, sn, sc, hsv⟩ := hout.form
    subst hsv
    have hlen := slotsL_len M c k
    clear hkp hW hout
    have hol' : ob c < wr.heap.size := by omega
    have hvl' : vb < wr.heap.size := by omega
    by_cases hkb : k < b
    · have hki : (k : Int) < (b : Int) := by omega
      go_wp2_with fail
      refine (home_any HKP.out k).mono ?_
      rintro r w4 ⟨rfl, hb4⟩
      have HW4 := hide (HW.out.trans (hb4.mono hsz))
      have HO4 := hide (HO.out.later hb4)
      have hcmp := eql_home (HKP.out.below hb4) (lies M.S k) (fun d hd => lies_kind hd) c hc HCK.out
      have hz4 : w.heap.size ≤ w4.heap.size := HW4.out.size
      clear hb4 d0 d3 d4 HKP HW HO
      rcases ptrV_shape ((lies M.S k).map ob) with hv | ⟨g', hv⟩ <;> rw [hv] at hcmp ⊢
      all_goals
        by_cases hli : lies M.S k = some c
        · have es : Hid (slotsL M c (k + 1) = slotsL M c k ++ [(k : Int)]) := by
            unfold Hid
            show slotsL M c k ++ (if lies M.S k = some c then [(k : Int)] else []) = _
            rw [if_pos hli]
          rw [decide_eq_true hli] at hcmp
          clear hli
          have hle : (slotsL M c k).length + 1 ≤ 1000000 := by omega
          go_wp2_with (at_builtin; refine wpList_out_new w4 (by rfl) _ _ (by rfl) w.heap.size _ (slotsL M c k) (by rfl) HO4.out _ 1 [(k : Int)] w4.heap.size (by rfl) (by rfl) (by rfl) (by rfl) hle hz4 ?_; intro v1 w1 h1 h2 h3; have O1 := hide h1; have F1 : Hid (Below w.heap.size w w1) := HW4.out.trans h2; obtain ⟨a1, n1, m1, hs1⟩ := h1.form; subst hs1; clear h1 h2 h3)
          exact ⟨⟨k + 1, by omega, by omega, by go_num, by rw [es.out]; exact O1.out, F1.out⟩, by simp [intOf]; omega⟩
        · have es : Hid (slotsL M c (k + 1) = slotsL M c k) := by
            unfold Hid
            show slotsL M c k ++ (if lies M.S k = some c then [(k : Int)] else []) = _
            rw [if_neg hli, List.append_nil]
          rw [decide_eq_false hli] at hcmp
          clear hli
          go_wp2_with fail
          exact ⟨⟨k + 1, by omega, by omega, by go_num, by rw [es.out]; exact HO4.out, HW4.out⟩, by simp [intOf]; omega⟩
    · have : k = b := by omega
      subst this
      go_wp2_with fail
      go_ret
      exact ⟨_, rfl, by rw [← EL.out.2]; exact HO.out, HW.out⟩
end

end Go.Proofs.Ytloppmepfkkblaa
end
