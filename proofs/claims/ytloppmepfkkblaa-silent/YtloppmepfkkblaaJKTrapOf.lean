/- What the program's 'trapOf' does: the table. -/
import Derived.Test.YtloppmepfkkblaaProg
import Derived.Laws.EntriesVeiled
import Derived.Deep.MidRow
import Derived.Test.YtloppmepfkkblaaJBaseToTreeKeeps
open Go Go.Proofs Go.RowKit
namespace Go.Proofs.Ytloppmepfkkblaa

/-- The cells of a row's bound. -/
abbrev bd (x y : Int) (z : Bool) : Array Value := #[.int .i64 x, .int .i64 y, .bool z]

/-- The bounds lie in the ten blocks behind N; blocks of rows. -/
structure Bd (w W : World) (N : Nat) : Prop where
  below : Below w.heap.size w W
  n : N = w.heap.size
  b1 : Blk W (N + 1) (bd 0 31 false)
  b2 : Blk W (N + 1 + 1) (bd 0 255 false)
  b3 : Blk W (N + 1 + 1 + 1) (bd 0 7 false)
  b4 : Blk W (N + 1 + 1 + 1 + 1) (bd (-9223372036854775808) 9223372036854775807 false)
  b5 : Blk W (N + 1 + 1 + 1 + 1 + 1) (bd 1 32 false)
  b6 : Blk W (N + 1 + 1 + 1 + 1 + 1 + 1) (bd 1 32 true)
  b7 : Blk W (N + 1 + 1 + 1 + 1 + 1 + 1 + 1) (bd 0 8 false)
  b8 : Blk W (N + 1 + 1 + 1 + 1 + 1 + 1 + 1 + 1) (bd 0 8 true)
  b9 : Blk W (N + 1 + 1 + 1 + 1 + 1 + 1 + 1 + 1 + 1) (bd 0 7 false)
  b10 : Blk W (N + 1 + 1 + 1 + 1 + 1 + 1 + 1 + 1 + 1 + 1) (bd 0 255 false)
  res : Blk W N #[.slice none 0 0, .nilFunc]

def Tb (w W : World) (N : Nat) (l : List (Nat × Array Value)) : Prop := Bd w W N ∧ ∀ p ∈ l, Blk W p.1 p.2 ∧ w.heap.size ≤ p.1

theorem Bd.next {w W W' : World} {N : Nat} (h : Bd w W N) (hb : Below W.heap.size W W') : Bd w W' N :=
  ⟨h.below.trans (hb.mono h.below.size), h.n, h.b1.below hb h.b1.lt, h.b2.below hb h.b2.lt, h.b3.below hb h.b3.lt, h.b4.below hb h.b4.lt, h.b5.below hb h.b5.lt, h.b6.below hb h.b6.lt, h.b7.below hb h.b7.lt, h.b8.below hb h.b8.lt, h.b9.below hb h.b9.lt, h.b10.below hb h.b10.lt, h.res.below hb h.res.lt⟩

theorem Tb.next {w W W' : World} {N : Nat} {l : List (Nat × Array Value)} {cs : Array Value} {T : TypeId} (h : Tb w W N l) (e : W.alloc (.cells cs T) = W') : Tb w W' N ((W.heap.size, cs) :: l) := by
  subst e
  have hb : Below W.heap.size W (W.alloc (.cells cs T)) := (Below.refl _ _).alloc (Nat.le_refl _) _
  refine ⟨h.1.next hb, fun p hp => ?_⟩
  rcases List.mem_cons.1 hp with rfl | hp
  · exact ⟨Blk.new W cs T, h.1.below.size⟩
  · obtain ⟨h1, h2⟩ := h.2 p hp
    exact ⟨h1.below hb h1.lt, h2⟩

section
variable {P : Program} {ops : Array Oper} {Q : Exit → Act → World → Prop} {rest : List Oper} {a : Act} {w W : World} {N : Nat} {l : List (Nat × Array Value)} {d k ty : Nat} {ps : String} {af : Array Edge}

theorem wpl_value {o : Oper} {v : Value} {W' : World} (hw : Region.wanted o (yielded ops a.tmps) = true) (hr : (execOp a.eval o).run P W = .ok (.value v) W') (h : wpList P ops Q rest (a.put o.dst v) W') : wpList P ops Q (o :: rest) a W := by
  unfold wpList
  rw [if_pos hw]
  exact Or.inl (by unfold Oper.wp; rw [hr]; exact h)

theorem wpl_slice {o : Oper} {n : Nat} {cs : Array Value} {T : TypeId} (HT : Tb w W N l) (hw : Region.wanted o (yielded ops a.tmps) = true) (hr : (execOp a.eval o).run P W = .ok (.value (.slice (some ⟨W.heap.size, 0, none⟩) n n)) (W.alloc (.cells cs T)))
    (h : ∀ W' g, Tb w W' N ((g, cs) :: l) → wpList P ops Q rest (a.put o.dst (.slice (some ⟨g, 0, none⟩) n n)) W') : wpList P ops Q (o :: rest) a W :=
  wpl_value hw hr (h _ _ (HT.next rfl))
end

theorem run_ld (f : Operand → Value) (W : World) (d k g : Nat) (ps : String) (af : Array Edge) (x y : Int) (z : Bool) (hf : f (.tmp k) = .pointer (some ⟨g, 0, none⟩)) (hB : Blk W g (bd x y z)) :
    (execOp f { dst := some d, op := Op.load 90 (Operand.tmp k), type := 90, pos := ps, after := af, guard := none }).run Try.prog W = .ok (.value (.agg (bd x y z))) W := by
  have c0 : W.cell? ⟨g, 0, none⟩ = some (.int .i64 x) := by rw [hB.cell]; rfl
  have c1 : W.cell? ⟨g, 1, none⟩ = some (.int .i64 y) := by rw [hB.cell]; rfl
  have c2 : W.cell? ⟨g, 2, none⟩ = some (.bool z) := by rw [hB.cell]; rfl
  simp [execOp, go_sem, hf, c0, c1, c2]

theorem run_bs1 (f : Operand → Value) (W : World) (d i0 : Nat) (ps : String) (af : Array Edge) (x0 y0 : Int) (z0 : Bool) (h0 : f (.tmp i0) = .agg (bd x0 y0 z0)) :
    (execOp f { dst := some d, op := Op.buildSlice 73 1 #[(0, Operand.tmp i0)], type := 73, pos := ps, after := af, guard := none }).run Try.prog W = .ok (.value (.slice (some ⟨W.heap.size, 0, none⟩) 1 1)) (W.alloc (.cells #[.int .i64 x0, .int .i64 y0, .bool z0] 90)) := by
  simp [execOp, go_sem, h0]
theorem run_bs2 (f : Operand → Value) (W : World) (d i0 i1 : Nat) (ps : String) (af : Array Edge) (x0 y0 : Int) (z0 : Bool) (x1 y1 : Int) (z1 : Bool) (h0 : f (.tmp i0) = .agg (bd x0 y0 z0)) (h1 : f (.tmp i1) = .agg (bd x1 y1 z1)) :
    (execOp f { dst := some d, op := Op.buildSlice 73 2 #[(0, Operand.tmp i0), (1, Operand.tmp i1)], type := 73, pos := ps, after := af, guard := none }).run Try.prog W = .ok (.value (.slice (some ⟨W.heap.size, 0, none⟩) 2 2)) (W.alloc (.cells #[.int .i64 x0, .int .i64 y0, .bool z0, .int .i64 x1, .int .i64 y1, .bool z1] 90)) := by
  simp [execOp, go_sem, h0, h1]
theorem run_bs3 (f : Operand → Value) (W : World) (d i0 i1 i2 : Nat) (ps : String) (af : Array Edge) (x0 y0 : Int) (z0 : Bool) (x1 y1 : Int) (z1 : Bool) (x2 y2 : Int) (z2 : Bool) (h0 : f (.tmp i0) = .agg (bd x0 y0 z0)) (h1 : f (.tmp i1) = .agg (bd x1 y1 z1)) (h2 : f (.tmp i2) = .agg (bd x2 y2 z2)) :
    (execOp f { dst := some d, op := Op.buildSlice 73 3 #[(0, Operand.tmp i0), (1, Operand.tmp i1), (2, Operand.tmp i2)], type := 73, pos := ps, after := af, guard := none }).run Try.prog W = .ok (.value (.slice (some ⟨W.heap.size, 0, none⟩) 3 3)) (W.alloc (.cells #[.int .i64 x0, .int .i64 y0, .bool z0, .int .i64 x1, .int .i64 y1, .bool z1, .int .i64 x2, .int .i64 y2, .bool z2] 90)) := by
  simp [execOp, go_sem, h0, h1, h2]
theorem run_bs4 (f : Operand → Value) (W : World) (d i0 i1 i2 i3 : Nat) (ps : String) (af : Array Edge) (x0 y0 : Int) (z0 : Bool) (x1 y1 : Int) (z1 : Bool) (x2 y2 : Int) (z2 : Bool) (x3 y3 : Int) (z3 : Bool) (h0 : f (.tmp i0) = .agg (bd x0 y0 z0)) (h1 : f (.tmp i1) = .agg (bd x1 y1 z1)) (h2 : f (.tmp i2) = .agg (bd x2 y2 z2)) (h3 : f (.tmp i3) = .agg (bd x3 y3 z3)) :
    (execOp f { dst := some d, op := Op.buildSlice 73 4 #[(0, Operand.tmp i0), (1, Operand.tmp i1), (2, Operand.tmp i2), (3, Operand.tmp i3)], type := 73, pos := ps, after := af, guard := none }).run Try.prog W = .ok (.value (.slice (some ⟨W.heap.size, 0, none⟩) 4 4)) (W.alloc (.cells #[.int .i64 x0, .int .i64 y0, .bool z0, .int .i64 x1, .int .i64 y1, .bool z1, .int .i64 x2, .int .i64 y2, .bool z2, .int .i64 x3, .int .i64 y3, .bool z3] 90)) := by
  simp [execOp, go_sem, h0, h1, h2, h3]
theorem run_bs7 (f : Operand → Value) (W : World) (d i0 i1 i2 i3 i4 i5 i6 : Nat) (ps : String) (af : Array Edge) (x0 y0 : Int) (z0 : Bool) (x1 y1 : Int) (z1 : Bool) (x2 y2 : Int) (z2 : Bool) (x3 y3 : Int) (z3 : Bool) (x4 y4 : Int) (z4 : Bool) (x5 y5 : Int) (z5 : Bool) (x6 y6 : Int) (z6 : Bool) (h0 : f (.tmp i0) = .agg (bd x0 y0 z0)) (h1 : f (.tmp i1) = .agg (bd x1 y1 z1)) (h2 : f (.tmp i2) = .agg (bd x2 y2 z2)) (h3 : f (.tmp i3) = .agg (bd x3 y3 z3)) (h4 : f (.tmp i4) = .agg (bd x4 y4 z4)) (h5 : f (.tmp i5) = .agg (bd x5 y5 z5)) (h6 : f (.tmp i6) = .agg (bd x6 y6 z6)) :
    (execOp f { dst := some d, op := Op.buildSlice 73 7 #[(0, Operand.tmp i0), (1, Operand.tmp i1), (2, Operand.tmp i2), (3, Operand.tmp i3), (4, Operand.tmp i4), (5, Operand.tmp i5), (6, Operand.tmp i6)], type := 73, pos := ps, after := af, guard := none }).run Try.prog W = .ok (.value (.slice (some ⟨W.heap.size, 0, none⟩) 7 7)) (W.alloc (.cells #[.int .i64 x0, .int .i64 y0, .bool z0, .int .i64 x1, .int .i64 y1, .bool z1, .int .i64 x2, .int .i64 y2, .bool z2, .int .i64 x3, .int .i64 y3, .bool z3, .int .i64 x4, .int .i64 y4, .bool z4, .int .i64 x5, .int .i64 y5, .bool z5, .int .i64 x6, .int .i64 y6, .bool z6] 90)) := by
  simp [execOp, go_sem, h0, h1, h2, h3, h4, h5, h6]
theorem run_bd (f : Operand → Value) (W : World) (d : Nat) (x y : Operand) (ps : String) (af : Array Edge) (sa : Option Addr) (n m : Nat) (fn : Fn) (hx : f x = .slice sa n m) (hy : f y = .func fn #[] #[]) :
    (execOp f { dst := some d, op := Op.build 76 #[(0, x), (1, y)], type := 76, pos := ps, after := af, guard := none }).run Try.prog W = .ok (.value (.agg #[.slice sa n m, .func fn #[] #[]])) W := by
  simp [execOp, go_sem, hx, hy]

theorem run_tab (f : Operand → Value) (W : World) (ps : String) (af : Array Edge) (a1 b1 : Value) (a2 b2 : Value) (a3 b3 : Value) (a4 b4 : Value) (a5 b5 : Value) (a6 b6 : Value) (a7 b7 : Value) (a8 b8 : Value) (a9 b9 : Value) (a10 b10 : Value) (a11 b11 : Value) (a12 b12 : Value) (a13 b13 : Value) (a14 b14 : Value) (a15 b15 : Value) (a16 b16 : Value)
    (h1 : f (.tmp 25) = .agg #[a1, b1]) (h2 : f (.tmp 28) = .agg #[a2, b2]) (h3 : f (.tmp 31) = .agg #[a3, b3]) (h4 : f (.tmp 36) = .agg #[a4, b4]) (h5 : f (.tmp 40) = .agg #[a5, b5]) (h6 : f (.tmp 45) = .agg #[a6, b6]) (h7 : f (.tmp 54) = .agg #[a7, b7]) (h8 : f (.tmp 57) = .agg #[a8, b8]) (h9 : f (.tmp 63) = .agg #[a9, b9]) (h10 : f (.tmp 67) = .agg #[a10, b10]) (h11 : f (.tmp 70) = .agg #[a11, b11]) (h12 : f (.tmp 71) = .agg #[a12, b12]) (h13 : f (.tmp 74) = .agg #[a13, b13]) (h14 : f (.tmp 79) = .agg #[a14, b14]) (h15 : f (.tmp 83) = .agg #[a15, b15]) (h16 : f (.tmp 86) = .agg #[a16, b16]) :
    (execOp f { dst := some 87, op := Op.build 92 #[(1, Operand.tmp 25), (2, Operand.tmp 28), (3, Operand.tmp 31), (4, Operand.tmp 36), (5, Operand.tmp 40), (6, Operand.tmp 45), (7, Operand.tmp 54), (8, Operand.tmp 57), (9, Operand.tmp 63), (10, Operand.tmp 67), (11, Operand.tmp 70), (12, Operand.tmp 71), (13, Operand.tmp 74), (14, Operand.tmp 79), (15, Operand.tmp 83), (16, Operand.tmp 86)], type := 92, pos := ps, after := af, guard := none }).run Try.prog W = .ok (.value (.agg #[.slice none 0 0, .nilFunc, a1, b1, a2, b2, a3, b3, a4, b4, a5, b5, a6, b6, a7, b7, a8, b8, a9, b9, a10, b10, a11, b11, a12, b12, a13, b13, a14, b14, a15, b15, a16, b16])) W := by
  simp [execOp, go_sem, h1, h2, h3, h4, h5, h6, h7, h8, h9, h10, h11, h12, h13, h14, h15, h16]

theorem run_al (f : Operand → Value) (W : World) (ps : String) (af : Array Edge) :
    (execOp f { dst := some 14, op := Op.alloc 92, type := 0, pos := ps, after := af, guard := none }).run Try.prog W = .ok (.value (.pointer (some ⟨W.heap.size, 0, none⟩))) (W.alloc (.cells #[.slice none 0 0, .nilFunc, .slice none 0 0, .nilFunc, .slice none 0 0, .nilFunc, .slice none 0 0, .nilFunc, .slice none 0 0, .nilFunc, .slice none 0 0, .nilFunc, .slice none 0 0, .nilFunc, .slice none 0 0, .nilFunc, .slice none 0 0, .nilFunc, .slice none 0 0, .nilFunc, .slice none 0 0, .nilFunc, .slice none 0 0, .nilFunc, .slice none 0 0, .nilFunc, .slice none 0 0, .nilFunc, .slice none 0 0, .nilFunc, .slice none 0 0, .nilFunc, .slice none 0 0, .nilFunc] 92)) := by
  simp [execOp, go_sem]

theorem below_setCells {B : Nat} {w0 : World} {b : Nat} (hb : B ≤ b) : ∀ (vs : List Value) (o : Nat) (W : World), Below B w0 W → Below B w0 (W.setCells b o vs)
  | [], _, _, h => h
  | v :: vs, o, W, h => by
    rw [World.setCells]
    exact below_setCells hb vs (o + 1) _ (h.setCell hb _)

theorem Tb.keep {w W W' : World} {N : Nat} {l : List (Nat × Array Value)} (h : Tb w W N l) (hb : Below W.heap.size W W') : Tb w W' N l :=
  ⟨h.1.next hb, fun p hp => ⟨(h.2 p hp).1.below hb (h.2 p hp).1.lt, (h.2 p hp).2⟩⟩

/-- The functions of the traps. -/
def doesF (n : Int) : Nat :=
  if n = 1 then 33 else
  if n = 2 then 34 else
  if n = 3 then 35 else
  if n = 4 then 36 else
  if n = 5 then 37 else
  if n = 6 then 38 else
  if n = 7 then 39 else
  if n = 8 then 40 else
  if n = 9 then 41 else
  if n = 10 then 42 else
  if n = 11 then 43 else
  if n = 12 then 44 else
  if n = 13 then 45 else
  if n = 14 then 46 else
  if n = 15 then 47 else
  48

/-- The bounds of a trap's arguments, in memory. -/
def takesA (n : Int) : List Value :=
  if n = 2 then [.int .i64 0, .int .i64 31, .bool false] else
  if n = 3 then [.int .i64 0, .int .i64 31, .bool false] else
  if n = 4 then [.int .i64 0, .int .i64 31, .bool false, .int .i64 0, .int .i64 31, .bool false, .int .i64 0, .int .i64 255, .bool false] else
  if n = 5 then [.int .i64 0, .int .i64 31, .bool false, .int .i64 0, .int .i64 7, .bool false] else
  if n = 6 then [.int .i64 0, .int .i64 31, .bool false, .int .i64 0, .int .i64 7, .bool false, .int .i64 (-9223372036854775808), .int .i64 9223372036854775807, .bool false] else
  if n = 7 then [.int .i64 0, .int .i64 31, .bool false, .int .i64 0, .int .i64 31, .bool false, .int .i64 0, .int .i64 255, .bool false, .int .i64 1, .int .i64 32, .bool false, .int .i64 1, .int .i64 32, .bool true, .int .i64 0, .int .i64 8, .bool false, .int .i64 0, .int .i64 8, .bool true] else
  if n = 8 then [.int .i64 0, .int .i64 31, .bool false] else
  if n = 9 then [.int .i64 0, .int .i64 31, .bool false, .int .i64 0, .int .i64 31, .bool false, .int .i64 0, .int .i64 255, .bool false, .int .i64 0, .int .i64 255, .bool false] else
  if n = 10 then [.int .i64 0, .int .i64 7, .bool false, .int .i64 0, .int .i64 31, .bool false] else
  if n = 11 then [.int .i64 0, .int .i64 7, .bool false] else
  if n = 13 then [.int .i64 0, .int .i64 31, .bool false] else
  if n = 14 then [.int .i64 0, .int .i64 31, .bool false, .int .i64 0, .int .i64 31, .bool false, .int .i64 0, .int .i64 255, .bool false] else
  if n = 15 then [.int .i64 0, .int .i64 31, .bool false, .int .i64 (-9223372036854775808), .int .i64 9223372036854775807, .bool false] else
  if n = 16 then [.int .i64 0, .int .i64 31, .bool false] else
  []

theorem feq_func (w : World) (f : FuncId) : (binOp .eql 74 (.func (Fn.func f) #[] #[]) .nilFunc).run Try.prog w = .ok (.bool false) w := by kernel_rfl
theorem feq_nil (w : World) : (binOp .eql 74 .nilFunc .nilFunc).run Try.prog w = .ok (.bool true) w := by kernel_rfl

/-- What trapOf answers: the row of a trap, or none. -/
def RowOf (w : World) (n : Int) (e : Ending) (w' : World) : Prop :=
  Below w.heap.size w w' ∧
  if 1 ≤ n ∧ n < 17 then
    (takesA n = [] ∧ e = .returned (.tuple #[.agg #[.slice none 0 0, .func (Fn.func (doesF n)) #[] #[]], .bool true])) ∨
    ∃ g, w.heap.size ≤ g ∧ Blk w' g (takesA n).toArray ∧ e = .returned (.tuple #[.agg #[.slice (some ⟨g, 0, none⟩) ((takesA n).length / 3) ((takesA n).length / 3), .func (Fn.func (doesF n)) #[] #[]], .bool true])
  else e = .returned (.tuple #[.agg #[.slice none 0 0, .nilFunc], .bool false])

set_option maxRecDepth 100000 in
set_option maxHeartbeats 8000000 in
theorem trapOf_all (w : World) (n : Int) : Calls Try.prog 27 #[.int .i64 n] w (RowOf w n) := by
  go_enter Try.func27, Try.ntmps27
  generalize hR : Code.region 12 _ _ = R
  generalize hR1 : Code.region 11 _ _ = R1
  go_wp2_with fail
  have HB : Bd w ((((((((((((w.alloc (.cells #[.slice none 0 0, .nilFunc] 76)).alloc (.cells (bd 0 31 false) 90)).alloc (.cells (bd 0 255 false) 90)).alloc (.cells (bd 0 7 false) 90)).alloc (.cells (bd (-9223372036854775808) 9223372036854775807 false) 90)).alloc (.cells (bd 1 32 false) 90)).alloc (.cells (bd 1 32 true) 90)).alloc (.cells (bd 0 8 false) 90)).alloc (.cells (bd 0 8 true) 90)).alloc (.cells (bd 0 7 false) 90)).alloc (.cells (bd 0 255 false) 90))) w.heap.size := by
    refine ⟨by (repeat (first | exact Below.refl _ _ | refine Below.drew ?_ | refine below_drewN ?_ _ | refine Below.alloc ?_ (by simp <;> omega) _)), rfl, ?_, ?_, ?_, ?_, ?_, ?_, ?_, ?_, ?_, ?_, ?_⟩
    all_goals repeat (first | (refine Blk.new' ?_; simp; done) | refine Blk.alloc ?_ _)
  generalize hW : ((((((((((((w.alloc (.cells #[.slice none 0 0, .nilFunc] 76)).alloc (.cells (bd 0 31 false) 90)).alloc (.cells (bd 0 255 false) 90)).alloc (.cells (bd 0 7 false) 90)).alloc (.cells (bd (-9223372036854775808) 9223372036854775807 false) 90)).alloc (.cells (bd 1 32 false) 90)).alloc (.cells (bd 1 32 true) 90)).alloc (.cells (bd 0 8 false) 90)).alloc (.cells (bd 0 8 true) 90)).alloc (.cells (bd 0 7 false) 90)).alloc (.cells (bd 0 255 false) 90))) = W at *
  clear hW
  generalize hN : w.heap.size = N at *
  have HT : Hid (Tb w W N []) := ⟨HB, fun p hp => by cases hp⟩
  clear HB
  subst hR1
  refine wp_region_lit ?_
  refine wpl_value rfl (run_bd _ _ _ _ _ _ _ _ _ _ _ rfl rfl) ?_
  simp only [Act.put, List.setIfInBounds_toArray, List.set_cons_zero, List.set_cons_succ]
  refine wpl_value rfl (run_ld _ _ _ _ _ _ _ _ _ _ rfl HT.out.1.b1) ?_
  simp only [Act.put, List.setIfInBounds_toArray, List.set_cons_zero, List.set_cons_succ]
  refine wpl_slice HT.out rfl (run_bs1 _ _ _ _ _ _ _ _ _ rfl) (fun W2 g2 HT2 => ?_)
  simp only [Act.put, List.setIfInBounds_toArray, List.set_cons_zero, List.set_cons_succ]
  clear HT
  have HT := hide HT2
  clear HT2
  refine wpl_value rfl (run_bd _ _ _ _ _ _ _ _ _ _ _ rfl rfl) ?_
  simp only [Act.put, List.setIfInBounds_toArray, List.set_cons_zero, List.set_cons_succ]
  refine wpl_value rfl (run_ld _ _ _ _ _ _ _ _ _ _ rfl HT.out.1.b1) ?_
  simp only [Act.put, List.setIfInBounds_toArray, List.set_cons_zero, List.set_cons_succ]
  refine wpl_slice HT.out rfl (run_bs1 _ _ _ _ _ _ _ _ _ rfl) (fun W3 g3 HT3 => ?_)
  simp only [Act.put, List.setIfInBounds_toArray, List.set_cons_zero, List.set_cons_succ]
  clear HT
  have HT := hide HT3
  clear HT3
  refine wpl_value rfl (run_bd _ _ _ _ _ _ _ _ _ _ _ rfl rfl) ?_
  simp only [Act.put, List.setIfInBounds_toArray, List.set_cons_zero, List.set_cons_succ]
  refine wpl_value rfl (run_ld _ _ _ _ _ _ _ _ _ _ rfl HT.out.1.b1) ?_
  simp only [Act.put, List.setIfInBounds_toArray, List.set_cons_zero, List.set_cons_succ]
  refine wpl_value rfl (run_ld _ _ _ _ _ _ _ _ _ _ rfl HT.out.1.b1) ?_
  simp only [Act.put, List.setIfInBounds_toArray, List.set_cons_zero, List.set_cons_succ]
  refine wpl_value rfl (run_ld _ _ _ _ _ _ _ _ _ _ rfl HT.out.1.b2) ?_
  simp only [Act.put, List.setIfInBounds_toArray, List.set_cons_zero, List.set_cons_succ]
  refine wpl_slice HT.out rfl (run_bs3 _ _ _ _ _ _ _ _ _ _ _ _ _ _ _ _ _ rfl rfl rfl) (fun W4 g4 HT4 => ?_)
  simp only [Act.put, List.setIfInBounds_toArray, List.set_cons_zero, List.set_cons_succ]
  clear HT
  have HT := hide HT4
  clear HT4
  refine wpl_value rfl (run_bd _ _ _ _ _ _ _ _ _ _ _ rfl rfl) ?_
  simp only [Act.put, List.setIfInBounds_toArray, List.set_cons_zero, List.set_cons_succ]
  refine wpl_value rfl (run_ld _ _ _ _ _ _ _ _ _ _ rfl HT.out.1.b1) ?_
  simp only [Act.put, List.setIfInBounds_toArray, List.set_cons_zero, List.set_cons_succ]
  refine wpl_value rfl (run_ld _ _ _ _ _ _ _ _ _ _ rfl HT.out.1.b3) ?_
  simp only [Act.put, List.setIfInBounds_toArray, List.set_cons_zero, List.set_cons_succ]
  refine wpl_slice HT.out rfl (run_bs2 _ _ _ _ _ _ _ _ _ _ _ _ _ rfl rfl) (fun W5 g5 HT5 => ?_)
  simp only [Act.put, List.setIfInBounds_toArray, List.set_cons_zero, List.set_cons_succ]
  clear HT
  have HT := hide HT5
  clear HT5
  refine wpl_value rfl (run_bd _ _ _ _ _ _ _ _ _ _ _ rfl rfl) ?_
  simp only [Act.put, List.setIfInBounds_toArray, List.set_cons_zero, List.set_cons_succ]
  refine wpl_value rfl (run_ld _ _ _ _ _ _ _ _ _ _ rfl HT.out.1.b1) ?_
  simp only [Act.put, List.setIfInBounds_toArray, List.set_cons_zero, List.set_cons_succ]
  refine wpl_value rfl (run_ld _ _ _ _ _ _ _ _ _ _ rfl HT.out.1.b3) ?_
  simp only [Act.put, List.setIfInBounds_toArray, List.set_cons_zero, List.set_cons_succ]
  refine wpl_value rfl (run_ld _ _ _ _ _ _ _ _ _ _ rfl HT.out.1.b4) ?_
  simp only [Act.put, List.setIfInBounds_toArray, List.set_cons_zero, List.set_cons_succ]
  refine wpl_slice HT.out rfl (run_bs3 _ _ _ _ _ _ _ _ _ _ _ _ _ _ _ _ _ rfl rfl rfl) (fun W6 g6 HT6 => ?_)
  simp only [Act.put, List.setIfInBounds_toArray, List.set_cons_zero, List.set_cons_succ]
  clear HT
  have HT := hide HT6
  clear HT6
  refine wpl_value rfl (run_bd _ _ _ _ _ _ _ _ _ _ _ rfl rfl) ?_
  simp only [Act.put, List.setIfInBounds_toArray, List.set_cons_zero, List.set_cons_succ]
  refine wpl_value rfl (run_ld _ _ _ _ _ _ _ _ _ _ rfl HT.out.1.b1) ?_
  simp only [Act.put, List.setIfInBounds_toArray, List.set_cons_zero, List.set_cons_succ]
  refine wpl_value rfl (run_ld _ _ _ _ _ _ _ _ _ _ rfl HT.out.1.b1) ?_
  simp only [Act.put, List.setIfInBounds_toArray, List.set_cons_zero, List.set_cons_succ]
  refine wpl_value rfl (run_ld _ _ _ _ _ _ _ _ _ _ rfl HT.out.1.b2) ?_
  simp only [Act.put, List.setIfInBounds_toArray, List.set_cons_zero, List.set_cons_succ]
  refine wpl_value rfl (run_ld _ _ _ _ _ _ _ _ _ _ rfl HT.out.1.b5) ?_
  simp only [Act.put, List.setIfInBounds_toArray, List.set_cons_zero, List.set_cons_succ]
  refine wpl_value rfl (run_ld _ _ _ _ _ _ _ _ _ _ rfl HT.out.1.b6) ?_
  simp only [Act.put, List.setIfInBounds_toArray, List.set_cons_zero, List.set_cons_succ]
  refine wpl_value rfl (run_ld _ _ _ _ _ _ _ _ _ _ rfl HT.out.1.b7) ?_
  simp only [Act.put, List.setIfInBounds_toArray, List.set_cons_zero, List.set_cons_succ]
  refine wpl_value rfl (run_ld _ _ _ _ _ _ _ _ _ _ rfl HT.out.1.b8) ?_
  simp only [Act.put, List.setIfInBounds_toArray, List.set_cons_zero, List.set_cons_succ]
  refine wpl_slice HT.out rfl (run_bs7 _ _ _ _ _ _ _ _ _ _ _ _ _ _ _ _ _ _ _ _ _ _ _ _ _ _ _ _ _ _ _ _ _ rfl rfl rfl rfl rfl rfl rfl) (fun W7 g7 HT7 => ?_)
  simp only [Act.put, List.setIfInBounds_toArray, List.set_cons_zero, List.set_cons_succ]
  clear HT
  have HT := hide HT7
  clear HT7
  refine wpl_value rfl (run_bd _ _ _ _ _ _ _ _ _ _ _ rfl rfl) ?_
  simp only [Act.put, List.setIfInBounds_toArray, List.set_cons_zero, List.set_cons_succ]
  refine wpl_value rfl (run_ld _ _ _ _ _ _ _ _ _ _ rfl HT.out.1.b1) ?_
  simp only [Act.put, List.setIfInBounds_toArray, List.set_cons_zero, List.set_cons_succ]
  refine wpl_slice HT.out rfl (run_bs1 _ _ _ _ _ _ _ _ _ rfl) (fun W8 g8 HT8 => ?_)
  simp only [Act.put, List.setIfInBounds_toArray, List.set_cons_zero, List.set_cons_succ]
  clear HT
  have HT := hide HT8
  clear HT8
  refine wpl_value rfl (run_bd _ _ _ _ _ _ _ _ _ _ _ rfl rfl) ?_
  simp only [Act.put, List.setIfInBounds_toArray, List.set_cons_zero, List.set_cons_succ]
  refine wpl_value rfl (run_ld _ _ _ _ _ _ _ _ _ _ rfl HT.out.1.b1) ?_
  simp only [Act.put, List.setIfInBounds_toArray, List.set_cons_zero, List.set_cons_succ]
  refine wpl_value rfl (run_ld _ _ _ _ _ _ _ _ _ _ rfl HT.out.1.b1) ?_
  simp only [Act.put, List.setIfInBounds_toArray, List.set_cons_zero, List.set_cons_succ]
  refine wpl_value rfl (run_ld _ _ _ _ _ _ _ _ _ _ rfl HT.out.1.b2) ?_
  simp only [Act.put, List.setIfInBounds_toArray, List.set_cons_zero, List.set_cons_succ]
  refine wpl_value rfl (run_ld _ _ _ _ _ _ _ _ _ _ rfl HT.out.1.b10) ?_
  simp only [Act.put, List.setIfInBounds_toArray, List.set_cons_zero, List.set_cons_succ]
  refine wpl_slice HT.out rfl (run_bs4 _ _ _ _ _ _ _ _ _ _ _ _ _ _ _ _ _ _ _ _ _ rfl rfl rfl rfl) (fun W9 g9 HT9 => ?_)
  simp only [Act.put, List.setIfInBounds_toArray, List.set_cons_zero, List.set_cons_succ]
  clear HT
  have HT := hide HT9
  clear HT9
  refine wpl_value rfl (run_bd _ _ _ _ _ _ _ _ _ _ _ rfl rfl) ?_
  simp only [Act.put, List.setIfInBounds_toArray, List.set_cons_zero, List.set_cons_succ]
  refine wpl_value rfl (run_ld _ _ _ _ _ _ _ _ _ _ rfl HT.out.1.b9) ?_
  simp only [Act.put, List.setIfInBounds_toArray, List.set_cons_zero, List.set_cons_succ]
  refine wpl_value rfl (run_ld _ _ _ _ _ _ _ _ _ _ rfl HT.out.1.b1) ?_
  simp only [Act.put, List.setIfInBounds_toArray, List.set_cons_zero, List.set_cons_succ]
  refine wpl_slice HT.out rfl (run_bs2 _ _ _ _ _ _ _ _ _ _ _ _ _ rfl rfl) (fun W10 g10 HT10 => ?_)
  simp only [Act.put, List.setIfInBounds_toArray, List.set_cons_zero, List.set_cons_succ]
  clear HT
  have HT := hide HT10
  clear HT10
  refine wpl_value rfl (run_bd _ _ _ _ _ _ _ _ _ _ _ rfl rfl) ?_
  simp only [Act.put, List.setIfInBounds_toArray, List.set_cons_zero, List.set_cons_succ]
  refine wpl_value rfl (run_ld _ _ _ _ _ _ _ _ _ _ rfl HT.out.1.b9) ?_
  simp only [Act.put, List.setIfInBounds_toArray, List.set_cons_zero, List.set_cons_succ]
  refine wpl_slice HT.out rfl (run_bs1 _ _ _ _ _ _ _ _ _ rfl) (fun W11 g11 HT11 => ?_)
  simp only [Act.put, List.setIfInBounds_toArray, List.set_cons_zero, List.set_cons_succ]
  clear HT
  have HT := hide HT11
  clear HT11
  refine wpl_value rfl (run_bd _ _ _ _ _ _ _ _ _ _ _ rfl rfl) ?_
  simp only [Act.put, List.setIfInBounds_toArray, List.set_cons_zero, List.set_cons_succ]
  refine wpl_value rfl (run_bd _ _ _ _ _ _ _ _ _ _ _ rfl rfl) ?_
  simp only [Act.put, List.setIfInBounds_toArray, List.set_cons_zero, List.set_cons_succ]
  refine wpl_value rfl (run_ld _ _ _ _ _ _ _ _ _ _ rfl HT.out.1.b1) ?_
  simp only [Act.put, List.setIfInBounds_toArray, List.set_cons_zero, List.set_cons_succ]
  refine wpl_slice HT.out rfl (run_bs1 _ _ _ _ _ _ _ _ _ rfl) (fun W13 g13 HT13 => ?_)
  simp only [Act.put, List.setIfInBounds_toArray, List.set_cons_zero, List.set_cons_succ]
  clear HT
  have HT := hide HT13
  clear HT13
  refine wpl_value rfl (run_bd _ _ _ _ _ _ _ _ _ _ _ rfl rfl) ?_
  simp only [Act.put, List.setIfInBounds_toArray, List.set_cons_zero, List.set_cons_succ]
  refine wpl_value rfl (run_ld _ _ _ _ _ _ _ _ _ _ rfl HT.out.1.b1) ?_
  simp only [Act.put, List.setIfInBounds_toArray, List.set_cons_zero, List.set_cons_succ]
  refine wpl_value rfl (run_ld _ _ _ _ _ _ _ _ _ _ rfl HT.out.1.b1) ?_
  simp only [Act.put, List.setIfInBounds_toArray, List.set_cons_zero, List.set_cons_succ]
  refine wpl_value rfl (run_ld _ _ _ _ _ _ _ _ _ _ rfl HT.out.1.b2) ?_
  simp only [Act.put, List.setIfInBounds_toArray, List.set_cons_zero, List.set_cons_succ]
  refine wpl_slice HT.out rfl (run_bs3 _ _ _ _ _ _ _ _ _ _ _ _ _ _ _ _ _ rfl rfl rfl) (fun W14 g14 HT14 => ?_)
  simp only [Act.put, List.setIfInBounds_toArray, List.set_cons_zero, List.set_cons_succ]
  clear HT
  have HT := hide HT14
  clear HT14
  refine wpl_value rfl (run_bd _ _ _ _ _ _ _ _ _ _ _ rfl rfl) ?_
  simp only [Act.put, List.setIfInBounds_toArray, List.set_cons_zero, List.set_cons_succ]
  refine wpl_value rfl (run_ld _ _ _ _ _ _ _ _ _ _ rfl HT.out.1.b1) ?_
  simp only [Act.put, List.setIfInBounds_toArray, List.set_cons_zero, List.set_cons_succ]
  refine wpl_value rfl (run_ld _ _ _ _ _ _ _ _ _ _ rfl HT.out.1.b4) ?_
  simp only [Act.put, List.setIfInBounds_toArray, List.set_cons_zero, List.set_cons_succ]
  refine wpl_slice HT.out rfl (run_bs2 _ _ _ _ _ _ _ _ _ _ _ _ _ rfl rfl) (fun W15 g15 HT15 => ?_)
  simp only [Act.put, List.setIfInBounds_toArray, List.set_cons_zero, List.set_cons_succ]
  clear HT
  have HT := hide HT15
  clear HT15
  refine wpl_value rfl (run_bd _ _ _ _ _ _ _ _ _ _ _ rfl rfl) ?_
  simp only [Act.put, List.setIfInBounds_toArray, List.set_cons_zero, List.set_cons_succ]
  refine wpl_value rfl (run_ld _ _ _ _ _ _ _ _ _ _ rfl HT.out.1.b1) ?_
  simp only [Act.put, List.setIfInBounds_toArray, List.set_cons_zero, List.set_cons_succ]
  refine wpl_slice HT.out rfl (run_bs1 _ _ _ _ _ _ _ _ _ rfl) (fun W16 g16 HT16 => ?_)
  simp only [Act.put, List.setIfInBounds_toArray, List.set_cons_zero, List.set_cons_succ]
  clear HT
  have HT := hide HT16
  clear HT16
  refine wpl_value rfl (run_bd _ _ _ _ _ _ _ _ _ _ _ rfl rfl) ?_
  simp only [Act.put, List.setIfInBounds_toArray, List.set_cons_zero, List.set_cons_succ]
  refine wpl_value rfl (run_tab _ _ _ _ _ _ _ _ _ _ _ _ _ _ _ _ _ _ _ _ _ _ _ _ _ _ _ _ _ _ _ _ _ _ _ _ rfl rfl rfl rfl rfl rfl rfl rfl rfl rfl rfl rfl rfl rfl rfl rfl) ?_
  simp only [Act.put, List.setIfInBounds_toArray, List.set_cons_zero, List.set_cons_succ]
  refine wpl_value rfl (run_al _ _ _ _) ?_
  simp only [Act.put, List.setIfInBounds_toArray, List.set_cons_zero, List.set_cons_succ]
  have hth : (W16.alloc (.cells #[.slice none 0 0, .nilFunc, .slice none 0 0, .nilFunc, .slice none 0 0, .nilFunc, .slice none 0 0, .nilFunc, .slice none 0 0, .nilFunc, .slice none 0 0, .nilFunc, .slice none 0 0, .nilFunc, .slice none 0 0, .nilFunc, .slice none 0 0, .nilFunc, .slice none 0 0, .nilFunc, .slice none 0 0, .nilFunc, .slice none 0 0, .nilFunc, .slice none 0 0, .nilFunc, .slice none 0 0, .nilFunc, .slice none 0 0, .nilFunc, .slice none 0 0, .nilFunc, .slice none 0 0, .nilFunc] 92)).there W16.heap.size 0 34 := by
    have hB := Blk.new W16 #[.slice none 0 0, .nilFunc, .slice none 0 0, .nilFunc, .slice none 0 0, .nilFunc, .slice none 0 0, .nilFunc, .slice none 0 0, .nilFunc, .slice none 0 0, .nilFunc, .slice none 0 0, .nilFunc, .slice none 0 0, .nilFunc, .slice none 0 0, .nilFunc, .slice none 0 0, .nilFunc, .slice none 0 0, .nilFunc, .slice none 0 0, .nilFunc, .slice none 0 0, .nilFunc, .slice none 0 0, .nilFunc, .slice none 0 0, .nilFunc, .slice none 0 0, .nilFunc, .slice none 0 0, .nilFunc] 92
    intro j hj
    refine ⟨?_, hB.frozen _⟩
    rw [hB.cell, Nat.zero_add, Array.getElem?_eq_getElem (by simpa using hj)]
    rfl
  refine wpList_store_mid rfl 92 _ _ rfl W16.heap.size 0 #[.slice none 0 0, .nilFunc, .slice none 0 0, .func (Fn.func 33) #[] #[], .slice (some ⟨g2, 0, none⟩) 1 1, .func (Fn.func 34) #[] #[], .slice (some ⟨g3, 0, none⟩) 1 1, .func (Fn.func 35) #[] #[], .slice (some ⟨g4, 0, none⟩) 3 3, .func (Fn.func 36) #[] #[], .slice (some ⟨g5, 0, none⟩) 2 2, .func (Fn.func 37) #[] #[], .slice (some ⟨g6, 0, none⟩) 3 3, .func (Fn.func 38) #[] #[], .slice (some ⟨g7, 0, none⟩) 7 7, .func (Fn.func 39) #[] #[], .slice (some ⟨g8, 0, none⟩) 1 1, .func (Fn.func 40) #[] #[], .slice (some ⟨g9, 0, none⟩) 4 4, .func (Fn.func 41) #[] #[], .slice (some ⟨g10, 0, none⟩) 2 2, .func (Fn.func 42) #[] #[], .slice (some ⟨g11, 0, none⟩) 1 1, .func (Fn.func 43) #[] #[], .slice none 0 0, .func (Fn.func 44) #[] #[], .slice (some ⟨g13, 0, none⟩) 1 1, .func (Fn.func 45) #[] #[], .slice (some ⟨g14, 0, none⟩) 3 3, .func (Fn.func 46) #[] #[], .slice (some ⟨g15, 0, none⟩) 2 2, .func (Fn.func 47) #[] #[], .slice (some ⟨g16, 0, none⟩) 1 1, .func (Fn.func 48) #[] #[]] rfl rfl hth (by kernel_rfl) (by kernel_rfl) ?_
  simp only [Act.put]
  have hr := World.rangeAt_setCells_same (W16.alloc (.cells #[.slice none 0 0, .nilFunc, .slice none 0 0, .nilFunc, .slice none 0 0, .nilFunc, .slice none 0 0, .nilFunc, .slice none 0 0, .nilFunc, .slice none 0 0, .nilFunc, .slice none 0 0, .nilFunc, .slice none 0 0, .nilFunc, .slice none 0 0, .nilFunc, .slice none 0 0, .nilFunc, .slice none 0 0, .nilFunc, .slice none 0 0, .nilFunc, .slice none 0 0, .nilFunc, .slice none 0 0, .nilFunc, .slice none 0 0, .nilFunc, .slice none 0 0, .nilFunc, .slice none 0 0, .nilFunc] 92)) W16.heap.size 0 (#[.slice none 0 0, .nilFunc, .slice none 0 0, .func (Fn.func 33) #[] #[], .slice (some ⟨g2, 0, none⟩) 1 1, .func (Fn.func 34) #[] #[], .slice (some ⟨g3, 0, none⟩) 1 1, .func (Fn.func 35) #[] #[], .slice (some ⟨g4, 0, none⟩) 3 3, .func (Fn.func 36) #[] #[], .slice (some ⟨g5, 0, none⟩) 2 2, .func (Fn.func 37) #[] #[], .slice (some ⟨g6, 0, none⟩) 3 3, .func (Fn.func 38) #[] #[], .slice (some ⟨g7, 0, none⟩) 7 7, .func (Fn.func 39) #[] #[], .slice (some ⟨g8, 0, none⟩) 1 1, .func (Fn.func 40) #[] #[], .slice (some ⟨g9, 0, none⟩) 4 4, .func (Fn.func 41) #[] #[], .slice (some ⟨g10, 0, none⟩) 2 2, .func (Fn.func 42) #[] #[], .slice (some ⟨g11, 0, none⟩) 1 1, .func (Fn.func 43) #[] #[], .slice none 0 0, .func (Fn.func 44) #[] #[], .slice (some ⟨g13, 0, none⟩) 1 1, .func (Fn.func 45) #[] #[], .slice (some ⟨g14, 0, none⟩) 3 3, .func (Fn.func 46) #[] #[], .slice (some ⟨g15, 0, none⟩) 2 2, .func (Fn.func 47) #[] #[], .slice (some ⟨g16, 0, none⟩) 1 1, .func (Fn.func 48) #[] #[]] : Array Value).toList hth
  have hb : Below W16.heap.size W16 ((W16.alloc (.cells #[.slice none 0 0, .nilFunc, .slice none 0 0, .nilFunc, .slice none 0 0, .nilFunc, .slice none 0 0, .nilFunc, .slice none 0 0, .nilFunc, .slice none 0 0, .nilFunc, .slice none 0 0, .nilFunc, .slice none 0 0, .nilFunc, .slice none 0 0, .nilFunc, .slice none 0 0, .nilFunc, .slice none 0 0, .nilFunc, .slice none 0 0, .nilFunc, .slice none 0 0, .nilFunc, .slice none 0 0, .nilFunc, .slice none 0 0, .nilFunc, .slice none 0 0, .nilFunc, .slice none 0 0, .nilFunc] 92)).setCells W16.heap.size 0 (#[.slice none 0 0, .nilFunc, .slice none 0 0, .func (Fn.func 33) #[] #[], .slice (some ⟨g2, 0, none⟩) 1 1, .func (Fn.func 34) #[] #[], .slice (some ⟨g3, 0, none⟩) 1 1, .func (Fn.func 35) #[] #[], .slice (some ⟨g4, 0, none⟩) 3 3, .func (Fn.func 36) #[] #[], .slice (some ⟨g5, 0, none⟩) 2 2, .func (Fn.func 37) #[] #[], .slice (some ⟨g6, 0, none⟩) 3 3, .func (Fn.func 38) #[] #[], .slice (some ⟨g7, 0, none⟩) 7 7, .func (Fn.func 39) #[] #[], .slice (some ⟨g8, 0, none⟩) 1 1, .func (Fn.func 40) #[] #[], .slice (some ⟨g9, 0, none⟩) 4 4, .func (Fn.func 41) #[] #[], .slice (some ⟨g10, 0, none⟩) 2 2, .func (Fn.func 42) #[] #[], .slice (some ⟨g11, 0, none⟩) 1 1, .func (Fn.func 43) #[] #[], .slice none 0 0, .func (Fn.func 44) #[] #[], .slice (some ⟨g13, 0, none⟩) 1 1, .func (Fn.func 45) #[] #[], .slice (some ⟨g14, 0, none⟩) 3 3, .func (Fn.func 46) #[] #[], .slice (some ⟨g15, 0, none⟩) 2 2, .func (Fn.func 47) #[] #[], .slice (some ⟨g16, 0, none⟩) 1 1, .func (Fn.func 48) #[] #[]] : Array Value).toList) := below_setCells (Nat.le_refl _) _ _ _ ((Below.refl _ _).alloc (Nat.le_refl _) _)
  have HT2 := hide (HT.out.keep hb)
  clear HT hth hb
  generalize (W16.alloc (.cells #[.slice none 0 0, .nilFunc, .slice none 0 0, .nilFunc, .slice none 0 0, .nilFunc, .slice none 0 0, .nilFunc, .slice none 0 0, .nilFunc, .slice none 0 0, .nilFunc, .slice none 0 0, .nilFunc, .slice none 0 0, .nilFunc, .slice none 0 0, .nilFunc, .slice none 0 0, .nilFunc, .slice none 0 0, .nilFunc, .slice none 0 0, .nilFunc, .slice none 0 0, .nilFunc, .slice none 0 0, .nilFunc, .slice none 0 0, .nilFunc, .slice none 0 0, .nilFunc, .slice none 0 0, .nilFunc] 92)).setCells W16.heap.size 0 (#[.slice none 0 0, .nilFunc, .slice none 0 0, .func (Fn.func 33) #[] #[], .slice (some ⟨g2, 0, none⟩) 1 1, .func (Fn.func 34) #[] #[], .slice (some ⟨g3, 0, none⟩) 1 1, .func (Fn.func 35) #[] #[], .slice (some ⟨g4, 0, none⟩) 3 3, .func (Fn.func 36) #[] #[], .slice (some ⟨g5, 0, none⟩) 2 2, .func (Fn.func 37) #[] #[], .slice (some ⟨g6, 0, none⟩) 3 3, .func (Fn.func 38) #[] #[], .slice (some ⟨g7, 0, none⟩) 7 7, .func (Fn.func 39) #[] #[], .slice (some ⟨g8, 0, none⟩) 1 1, .func (Fn.func 40) #[] #[], .slice (some ⟨g9, 0, none⟩) 4 4, .func (Fn.func 41) #[] #[], .slice (some ⟨g10, 0, none⟩) 2 2, .func (Fn.func 42) #[] #[], .slice (some ⟨g11, 0, none⟩) 1 1, .func (Fn.func 43) #[] #[], .slice none 0 0, .func (Fn.func 44) #[] #[], .slice (some ⟨g13, 0, none⟩) 1 1, .func (Fn.func 45) #[] #[], .slice (some ⟨g14, 0, none⟩) 3 3, .func (Fn.func 46) #[] #[], .slice (some ⟨g15, 0, none⟩) 2 2, .func (Fn.func 47) #[] #[], .slice (some ⟨g16, 0, none⟩) 1 1, .func (Fn.func 48) #[] #[]] : Array Value).toList = W17 at *
  generalize W16.heap.size = gt at *
  have HR := hide hr
  clear hr
  have x0 : W17.cell? ⟨N, 0, none⟩ = some (.slice none 0 0) := by rw [HT2.out.1.res.cell]; rfl
  have x1 : W17.cell? ⟨N, 1, none⟩ = some .nilFunc := by rw [HT2.out.1.res.cell]; rfl
  have y0 := HT2.out.1.res.frozen 0
  have y1 := HT2.out.1.res.frozen 1
  have HNE : Hid (∀ g (x : Int) (cs : List Value), Blk W17 g (.int .i64 x :: cs).toArray → g ≠ N) := fun g x cs hb e => by
    subst e
    have h0 := hb.cell 0
    rw [x0] at h0
    simp at h0
  have hW := hide HT2.out.1.below
  have hNw := hide hN
  have hfin : Hid (∀ a b, Below w.heap.size w ((W17.setCell ⟨N, 0, none⟩ a).setCell ⟨N, 1, none⟩ b)) := fun a b => (hW.out.setCell (by rw [hNw.out]; exact Nat.le_refl _) _).setCell (by rw [hNw.out]; exact Nat.le_refl _) _
  clear hN
  go_wp2_with fail
  subst hR
  by_cases h0 : n < 0
  · have hfq := feq_nil
    go_wp2_with fail
    refine bodyPost_ret (v := .tuple #[.agg #[.slice none 0 0, .nilFunc], .bool false]) (by simp [results, Try.results27, go_sem, x0, x1]) rfl ⟨hfin.out _ _, ?_⟩
    rw [if_neg (by omega)]
  by_cases h17 : 17 ≤ n
  · have hfq := feq_nil
    go_wp2_with fail
    refine bodyPost_ret (v := .tuple #[.agg #[.slice none 0 0, .nilFunc], .bool false]) (by simp [results, Try.results27, go_sem, x0, x1]) rfl ⟨hfin.out _ _, ?_⟩
    rw [if_neg (by omega)]
  have hn : n = 0 ∨ n = 1 ∨ n = 2 ∨ n = 3 ∨ n = 4 ∨ n = 5 ∨ n = 6 ∨ n = 7 ∨ n = 8 ∨ n = 9 ∨ n = 10 ∨ n = 11 ∨ n = 12 ∨ n = 13 ∨ n = 14 ∨ n = 15 ∨ n = 16 := by omega
  clear h0 h17
  rcases hn with rfl | rfl | rfl | rfl | rfl | rfl | rfl | rfl | rfl | rfl | rfl | rfl | rfl | rfl | rfl | rfl | rfl
  · have hfq := feq_nil
    have c1 := HR.out 1 _ rfl
    simp only [Nat.zero_add] at c1
    go_wp2_with fail
    refine bodyPost_ret (v := .tuple #[.agg #[.slice none 0 0, .nilFunc], .bool false]) (by simp [results, Try.results27, go_sem, x0, x1]) rfl ⟨hfin.out _ _, ?_⟩
    rw [if_neg (by omega)]
  · have hfq := fun w => feq_func w 33
    have c0 := HR.out 2 _ rfl
    have c1 := HR.out 3 _ rfl
    simp only [Nat.zero_add] at c0 c1
    go_wp2_with fail
    refine bodyPost_ret (v := .tuple #[.agg #[.slice none 0 0, .func (Fn.func 33) #[] #[]], .bool true]) (by simp [results, Try.results27, go_sem, x0, x1]) rfl ⟨hfin.out _ _, ?_⟩
    rw [if_pos (by omega)]
    exact Or.inl ⟨rfl, rfl⟩
  · have hfq := fun w => feq_func w 34
    have c0 := HR.out 4 _ rfl
    have c1 := HR.out 5 _ rfl
    simp only [Nat.zero_add] at c0 c1
    go_wp2_with fail
    refine bodyPost_ret (v := .tuple #[.agg #[.slice (some ⟨g2, 0, none⟩) 1 1, .func (Fn.func 34) #[] #[]], .bool true]) (by simp [results, Try.results27, go_sem, x0, x1]) rfl ⟨hfin.out _ _, ?_⟩
    rw [if_pos (by omega)]
    obtain ⟨hb, hg⟩ := HT2.out.2 (g2, #[.int .i64 0, .int .i64 31, .bool false]) (by simp)
    exact Or.inr ⟨g2, hg, (hb.apart (HNE.out _ _ _ hb) _).apart (HNE.out _ _ _ hb) _, rfl⟩
  · have hfq := fun w => feq_func w 35
    have c0 := HR.out 6 _ rfl
    have c1 := HR.out 7 _ rfl
    simp only [Nat.zero_add] at c0 c1
    go_wp2_with fail
    refine bodyPost_ret (v := .tuple #[.agg #[.slice (some ⟨g3, 0, none⟩) 1 1, .func (Fn.func 35) #[] #[]], .bool true]) (by simp [results, Try.results27, go_sem, x0, x1]) rfl ⟨hfin.out _ _, ?_⟩
    rw [if_pos (by omega)]
    obtain ⟨hb, hg⟩ := HT2.out.2 (g3, #[.int .i64 0, .int .i64 31, .bool false]) (by simp)
    exact Or.inr ⟨g3, hg, (hb.apart (HNE.out _ _ _ hb) _).apart (HNE.out _ _ _ hb) _, rfl⟩
  · have hfq := fun w => feq_func w 36
    have c0 := HR.out 8 _ rfl
    have c1 := HR.out 9 _ rfl
    simp only [Nat.zero_add] at c0 c1
    go_wp2_with fail
    refine bodyPost_ret (v := .tuple #[.agg #[.slice (some ⟨g4, 0, none⟩) 3 3, .func (Fn.func 36) #[] #[]], .bool true]) (by simp [results, Try.results27, go_sem, x0, x1]) rfl ⟨hfin.out _ _, ?_⟩
    rw [if_pos (by omega)]
    obtain ⟨hb, hg⟩ := HT2.out.2 (g4, #[.int .i64 0, .int .i64 31, .bool false, .int .i64 0, .int .i64 31, .bool false, .int .i64 0, .int .i64 255, .bool false]) (by simp)
    exact Or.inr ⟨g4, hg, (hb.apart (HNE.out _ _ _ hb) _).apart (HNE.out _ _ _ hb) _, rfl⟩
  · have hfq := fun w => feq_func w 37
    have c0 := HR.out 10 _ rfl
    have c1 := HR.out 11 _ rfl
    simp only [Nat.zero_add] at c0 c1
    go_wp2_with fail
    refine bodyPost_ret (v := .tuple #[.agg #[.slice (some ⟨g5, 0, none⟩) 2 2, .func (Fn.func 37) #[] #[]], .bool true]) (by simp [results, Try.results27, go_sem, x0, x1]) rfl ⟨hfin.out _ _, ?_⟩
    rw [if_pos (by omega)]
    obtain ⟨hb, hg⟩ := HT2.out.2 (g5, #[.int .i64 0, .int .i64 31, .bool false, .int .i64 0, .int .i64 7, .bool false]) (by simp)
    exact Or.inr ⟨g5, hg, (hb.apart (HNE.out _ _ _ hb) _).apart (HNE.out _ _ _ hb) _, rfl⟩
  · have hfq := fun w => feq_func w 38
    have c0 := HR.out 12 _ rfl
    have c1 := HR.out 13 _ rfl
    simp only [Nat.zero_add] at c0 c1
    go_wp2_with fail
    refine bodyPost_ret (v := .tuple #[.agg #[.slice (some ⟨g6, 0, none⟩) 3 3, .func (Fn.func 38) #[] #[]], .bool true]) (by simp [results, Try.results27, go_sem, x0, x1]) rfl ⟨hfin.out _ _, ?_⟩
    rw [if_pos (by omega)]
    obtain ⟨hb, hg⟩ := HT2.out.2 (g6, #[.int .i64 0, .int .i64 31, .bool false, .int .i64 0, .int .i64 7, .bool false, .int .i64 (-9223372036854775808), .int .i64 9223372036854775807, .bool false]) (by simp)
    exact Or.inr ⟨g6, hg, (hb.apart (HNE.out _ _ _ hb) _).apart (HNE.out _ _ _ hb) _, rfl⟩
  · have hfq := fun w => feq_func w 39
    have c0 := HR.out 14 _ rfl
    have c1 := HR.out 15 _ rfl
    simp only [Nat.zero_add] at c0 c1
    go_wp2_with fail
    refine bodyPost_ret (v := .tuple #[.agg #[.slice (some ⟨g7, 0, none⟩) 7 7, .func (Fn.func 39) #[] #[]], .bool true]) (by simp [results, Try.results27, go_sem, x0, x1]) rfl ⟨hfin.out _ _, ?_⟩
    rw [if_pos (by omega)]
    obtain ⟨hb, hg⟩ := HT2.out.2 (g7, #[.int .i64 0, .int .i64 31, .bool false, .int .i64 0, .int .i64 31, .bool false, .int .i64 0, .int .i64 255, .bool false, .int .i64 1, .int .i64 32, .bool false, .int .i64 1, .int .i64 32, .bool true, .int .i64 0, .int .i64 8, .bool false, .int .i64 0, .int .i64 8, .bool true]) (by simp)
    exact Or.inr ⟨g7, hg, (hb.apart (HNE.out _ _ _ hb) _).apart (HNE.out _ _ _ hb) _, rfl⟩
  · have hfq := fun w => feq_func w 40
    have c0 := HR.out 16 _ rfl
    have c1 := HR.out 17 _ rfl
    simp only [Nat.zero_add] at c0 c1
    go_wp2_with fail
    refine bodyPost_ret (v := .tuple #[.agg #[.slice (some ⟨g8, 0, none⟩) 1 1, .func (Fn.func 40) #[] #[]], .bool true]) (by simp [results, Try.results27, go_sem, x0, x1]) rfl ⟨hfin.out _ _, ?_⟩
    rw [if_pos (by omega)]
    obtain ⟨hb, hg⟩ := HT2.out.2 (g8, #[.int .i64 0, .int .i64 31, .bool false]) (by simp)
    exact Or.inr ⟨g8, hg, (hb.apart (HNE.out _ _ _ hb) _).apart (HNE.out _ _ _ hb) _, rfl⟩
  · have hfq := fun w => feq_func w 41
    have c0 := HR.out 18 _ rfl
    have c1 := HR.out 19 _ rfl
    simp only [Nat.zero_add] at c0 c1
    go_wp2_with fail
    refine bodyPost_ret (v := .tuple #[.agg #[.slice (some ⟨g9, 0, none⟩) 4 4, .func (Fn.func 41) #[] #[]], .bool true]) (by simp [results, Try.results27, go_sem, x0, x1]) rfl ⟨hfin.out _ _, ?_⟩
    rw [if_pos (by omega)]
    obtain ⟨hb, hg⟩ := HT2.out.2 (g9, #[.int .i64 0, .int .i64 31, .bool false, .int .i64 0, .int .i64 31, .bool false, .int .i64 0, .int .i64 255, .bool false, .int .i64 0, .int .i64 255, .bool false]) (by simp)
    exact Or.inr ⟨g9, hg, (hb.apart (HNE.out _ _ _ hb) _).apart (HNE.out _ _ _ hb) _, rfl⟩
  · have hfq := fun w => feq_func w 42
    have c0 := HR.out 20 _ rfl
    have c1 := HR.out 21 _ rfl
    simp only [Nat.zero_add] at c0 c1
    go_wp2_with fail
    refine bodyPost_ret (v := .tuple #[.agg #[.slice (some ⟨g10, 0, none⟩) 2 2, .func (Fn.func 42) #[] #[]], .bool true]) (by simp [results, Try.results27, go_sem, x0, x1]) rfl ⟨hfin.out _ _, ?_⟩
    rw [if_pos (by omega)]
    obtain ⟨hb, hg⟩ := HT2.out.2 (g10, #[.int .i64 0, .int .i64 7, .bool false, .int .i64 0, .int .i64 31, .bool false]) (by simp)
    exact Or.inr ⟨g10, hg, (hb.apart (HNE.out _ _ _ hb) _).apart (HNE.out _ _ _ hb) _, rfl⟩
  · have hfq := fun w => feq_func w 43
    have c0 := HR.out 22 _ rfl
    have c1 := HR.out 23 _ rfl
    simp only [Nat.zero_add] at c0 c1
    go_wp2_with fail
    refine bodyPost_ret (v := .tuple #[.agg #[.slice (some ⟨g11, 0, none⟩) 1 1, .func (Fn.func 43) #[] #[]], .bool true]) (by simp [results, Try.results27, go_sem, x0, x1]) rfl ⟨hfin.out _ _, ?_⟩
    rw [if_pos (by omega)]
    obtain ⟨hb, hg⟩ := HT2.out.2 (g11, #[.int .i64 0, .int .i64 7, .bool false]) (by simp)
    exact Or.inr ⟨g11, hg, (hb.apart (HNE.out _ _ _ hb) _).apart (HNE.out _ _ _ hb) _, rfl⟩
  · have hfq := fun w => feq_func w 44
    have c0 := HR.out 24 _ rfl
    have c1 := HR.out 25 _ rfl
    simp only [Nat.zero_add] at c0 c1
    go_wp2_with fail
    refine bodyPost_ret (v := .tuple #[.agg #[.slice none 0 0, .func (Fn.func 44) #[] #[]], .bool true]) (by simp [results, Try.results27, go_sem, x0, x1]) rfl ⟨hfin.out _ _, ?_⟩
    rw [if_pos (by omega)]
    exact Or.inl ⟨rfl, rfl⟩
  · have hfq := fun w => feq_func w 45
    have c0 := HR.out 26 _ rfl
    have c1 := HR.out 27 _ rfl
    simp only [Nat.zero_add] at c0 c1
    go_wp2_with fail
    refine bodyPost_ret (v := .tuple #[.agg #[.slice (some ⟨g13, 0, none⟩) 1 1, .func (Fn.func 45) #[] #[]], .bool true]) (by simp [results, Try.results27, go_sem, x0, x1]) rfl ⟨hfin.out _ _, ?_⟩
    rw [if_pos (by omega)]
    obtain ⟨hb, hg⟩ := HT2.out.2 (g13, #[.int .i64 0, .int .i64 31, .bool false]) (by simp)
    exact Or.inr ⟨g13, hg, (hb.apart (HNE.out _ _ _ hb) _).apart (HNE.out _ _ _ hb) _, rfl⟩
  · have hfq := fun w => feq_func w 46
    have c0 := HR.out 28 _ rfl
    have c1 := HR.out 29 _ rfl
    simp only [Nat.zero_add] at c0 c1
    go_wp2_with fail
    refine bodyPost_ret (v := .tuple #[.agg #[.slice (some ⟨g14, 0, none⟩) 3 3, .func (Fn.func 46) #[] #[]], .bool true]) (by simp [results, Try.results27, go_sem, x0, x1]) rfl ⟨hfin.out _ _, ?_⟩
    rw [if_pos (by omega)]
    obtain ⟨hb, hg⟩ := HT2.out.2 (g14, #[.int .i64 0, .int .i64 31, .bool false, .int .i64 0, .int .i64 31, .bool false, .int .i64 0, .int .i64 255, .bool false]) (by simp)
    exact Or.inr ⟨g14, hg, (hb.apart (HNE.out _ _ _ hb) _).apart (HNE.out _ _ _ hb) _, rfl⟩
  · have hfq := fun w => feq_func w 47
    have c0 := HR.out 30 _ rfl
    have c1 := HR.out 31 _ rfl
    simp only [Nat.zero_add] at c0 c1
    go_wp2_with fail
    refine bodyPost_ret (v := .tuple #[.agg #[.slice (some ⟨g15, 0, none⟩) 2 2, .func (Fn.func 47) #[] #[]], .bool true]) (by simp [results, Try.results27, go_sem, x0, x1]) rfl ⟨hfin.out _ _, ?_⟩
    rw [if_pos (by omega)]
    obtain ⟨hb, hg⟩ := HT2.out.2 (g15, #[.int .i64 0, .int .i64 31, .bool false, .int .i64 (-9223372036854775808), .int .i64 9223372036854775807, .bool false]) (by simp)
    exact Or.inr ⟨g15, hg, (hb.apart (HNE.out _ _ _ hb) _).apart (HNE.out _ _ _ hb) _, rfl⟩
  · have hfq := fun w => feq_func w 48
    have c0 := HR.out 32 _ rfl
    have c1 := HR.out 33 _ rfl
    simp only [Nat.zero_add] at c0 c1
    go_wp2_with fail
    refine bodyPost_ret (v := .tuple #[.agg #[.slice (some ⟨g16, 0, none⟩) 1 1, .func (Fn.func 48) #[] #[]], .bool true]) (by simp [results, Try.results27, go_sem, x0, x1]) rfl ⟨hfin.out _ _, ?_⟩
    rw [if_pos (by omega)]
    obtain ⟨hb, hg⟩ := HT2.out.2 (g16, #[.int .i64 0, .int .i64 31, .bool false]) (by simp)
    exact Or.inr ⟨g16, hg, (hb.apart (HNE.out _ _ _ hb) _).apart (HNE.out _ _ _ hb) _, rfl⟩

end Go.Proofs.Ytloppmepfkkblaa
