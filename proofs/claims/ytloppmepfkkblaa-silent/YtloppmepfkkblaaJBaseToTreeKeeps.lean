/- Plain facts on labels, worlds and frames that the walks of this seat lean on. -/
import Derived.WalkKit
import Derived.WalkSpells
import Derived.WalkLawsBesides
import Derived.Below
import Derived.Deep.QuietTactic
import Derived.BigQuiet
import Derived.Laws.BitsAllLaws

section
open Go Go.RowKit
namespace Go.Proofs.Ytloppmepfkkblaa

theorem hide {p : Prop} (h : p) : Hid p := h
theorem unhide {p : Prop} (h : Hid p) : p := h

theorem ret_bool {a b : Bool} (h : a = b) : Ending.returned (.bool a) = .returned (.bool b) := by rw [h]
theorem ret_i64 {a b : Int} (h : a = b) : Ending.returned (.int .i64 a) = .returned (.int .i64 b) := by rw [h]

/-! ### labels: sets of categories as numbers -/

theorem ofInt_i64 (a : Nat) (ha : a < 18446744073709551616) : (BitVec.ofInt 64 (a : Int)).toNat = a := by
  rw [BitVec.ofInt_natCast, BitVec.toNat_ofNat]; exact Nat.mod_eq_of_lt (by omega)

theorem wrap_i64_small (n : Nat) (h : n < 256) : IntKind.i64.wrap (n : Int) = n := by
  simp [IntKind.wrap, IntKind.bits, IntKind.signed]
  omega

theorem or_lt {a b : Nat} (ha : a < 256) (hb : b < 256) : a ||| b < 256 := Nat.or_lt_two_pow (n := 8) ha hb
theorem and_lt {a : Nat} (b : Nat) (ha : a < 256) : a &&& b < 256 := Nat.lt_of_le_of_lt Nat.and_le_left ha

theorem i64_or (a b : Nat) (ha : a < 256) (hb : b < 256) : bits .or .i64 (a : Int) (b : Int) = ((a ||| b : Nat) : Int) := by
  show IntKind.i64.wrap ((BitVec.ofInt 64 (a : Int) ||| BitVec.ofInt 64 (b : Int)).toNat : Int) = _
  rw [BitVec.toNat_or, ofInt_i64 a (by omega), ofInt_i64 b (by omega), wrap_i64_small _ (or_lt ha hb)]

theorem i64_and (a b : Nat) (ha : a < 256) (hb : b < 256) : bits .and .i64 (a : Int) (b : Int) = ((a &&& b : Nat) : Int) := by
  show IntKind.i64.wrap ((BitVec.ofInt 64 (a : Int) &&& BitVec.ofInt 64 (b : Int)).toNat : Int) = _
  rw [BitVec.toNat_and, ofInt_i64 a (by omega), ofInt_i64 b (by omega), wrap_i64_small _ (and_lt b ha)]

/-- What of a label is not in another one. -/
def mis (x y : Nat) : Nat := x - (x &&& y)

theorem mis_le (x y : Nat) : mis x y ≤ x := Nat.sub_le _ _
theorem mis_lt {x : Nat} (y : Nat) (h : x < 256) : mis x y < 256 := Nat.lt_of_le_of_lt (mis_le x y) h

theorem bv_split (x y : BitVec 64) : (x &&& y) + (x &&& ~~~y) = x := by
  have h : (x &&& y) &&& (x &&& ~~~y) = 0#64 := by
    ext i hi
    simp
    cases x[i] <;> cases y[i] <;> simp
  rw [BitVec.add_eq_or_of_and_eq_zero _ _ h]
  ext i hi
  simp
  cases x[i] <;> cases y[i] <;> simp

theorem mis_bv (x y : Nat) (hx : x < 256) (hy : y < 256) : (BitVec.ofInt 64 (x : Int) &&& ~~~BitVec.ofInt 64 (y : Int)).toNat = mis x y := by
  have h := congrArg BitVec.toNat (bv_split (BitVec.ofInt 64 (x : Int)) (BitVec.ofInt 64 (y : Int)))
  rw [BitVec.toNat_add, BitVec.toNat_and (y := BitVec.ofInt 64 (y : Int)), ofInt_i64 x (by omega), ofInt_i64 y (by omega)] at h
  have h1 := and_lt y hx
  have h2 : (BitVec.ofInt 64 (x : Int) &&& ~~~BitVec.ofInt 64 (y : Int)).toNat ≤ x := by
    rw [BitVec.toNat_and, ofInt_i64 x (by omega)]; exact Nat.and_le_left
  unfold mis
  omega

theorem i64_andNot (a b : Nat) (ha : a < 256) (hb : b < 256) : bits .andNot .i64 (a : Int) (b : Int) = ((mis a b : Nat) : Int) := by
  show IntKind.i64.wrap ((BitVec.ofInt 64 (a : Int) &&& ~~~BitVec.ofInt 64 (b : Int)).toNat : Int) = _
  rw [mis_bv a b ha hb, wrap_i64_small _ (mis_lt b ha)]

/-- Is all of a label in another one? -/
def sub (a b : Nat) : Bool := a ||| b == b

theorem and_le_self (a b : Nat) : a &&& b ≤ a := Nat.and_le_left

/-! ### frames -/

/-- All blocks that were there are as they were, but those of a set; the streams are as they were. -/
structure Fr (S : Nat → Prop) (w w' : World) : Prop where
  os : w'.os = w.os
  tape : w'.tape = w.tape
  output : w'.output = w.output
  size : w.heap.size ≤ w'.heap.size
  block : ∀ k, k < w.heap.size → ¬ S k → w'.heap[k]? = w.heap[k]?

theorem Fr.refl (S : Nat → Prop) (w : World) : Fr S w w := ⟨rfl, rfl, rfl, Nat.le_refl _, fun _ _ _ => rfl⟩

theorem Fr.trans {S : Nat → Prop} {a b c : World} (h : Fr S a b) (k : Fr S b c) : Fr S a c :=
  ⟨k.os.trans h.os, k.tape.trans h.tape, k.output.trans h.output, Nat.le_trans h.size k.size,
   fun i hi hs => (k.block i (Nat.lt_of_lt_of_le hi h.size) hs).trans (h.block i hi hs)⟩

theorem Fr.mono {S S' : Nat → Prop} {w w' : World} (h : Fr S w w') (hs : ∀ k, k < w.heap.size → S k → S' k) : Fr S' w w' :=
  ⟨h.os, h.tape, h.output, h.size, fun k hk hn => h.block k hk fun hk' => hn (hs k hk hk')⟩

theorem Fr.of_below {S : Nat → Prop} {w w' : World} (h : Below w.heap.size w w') : Fr S w w' :=
  ⟨h.os, h.tape, h.output, h.size, fun k hk _ => h.block k hk⟩

theorem Fr.below {w w' : World} (h : Fr (fun _ => False) w w') : Below w.heap.size w w' :=
  ⟨h.os, h.tape, h.output, h.size, fun k hk => h.block k hk id⟩

theorem Fr.drewN {S : Nat → Prop} {a w : World} (h : Fr S a w) (n : Nat) : Fr S a (w.drewN n) := ⟨h.os, h.tape, h.output, h.size, h.block⟩
theorem Fr.drew {S : Nat → Prop} {a w : World} (h : Fr S a w) : Fr S a w.drew := ⟨h.os, h.tape, h.output, h.size, h.block⟩

theorem Fr.alloc {S : Nat → Prop} {a w : World} (h : Fr S a w) (o : Obj) : Fr S a (w.alloc o) :=
  h.trans ⟨rfl, rfl, rfl, by simp, fun k hk _ => Below.heap_alloc _ _ _ hk⟩

/-- A store into a block of the set, or into a new one. -/
theorem Fr.setCell {S : Nat → Prop} {a w : World} (h : Fr S a w) {p : Addr} (hp : S p.block ∨ a.heap.size ≤ p.block) (u : Value) : Fr S a (w.setCell p u) :=
  ⟨h.os, h.tape, h.output, by simpa [World.setCell] using h.size, fun k hk hs => by
    rw [Below.heap_setCell _ _ _ _ (fun e => by
      rcases hp with hp | hp
      · exact hs (e ▸ hp)
      · omega)]
    exact h.block k hk hs⟩

/-- A store into one block. -/
theorem Fr.own (w : World) (b n : Nat) (u : Value) : Fr (fun k => k = b) w (w.setCell ⟨b, n, none⟩ u) :=
  Fr.setCell (S := fun k => k = b) (p := ⟨b, n, none⟩) (Fr.refl _ w) (Or.inl rfl) u

/-- Stores into one block: below it nothing turns. -/
theorem Fr.below_of {b : Nat} {w w' : World} (h : Fr (fun k => k = b) w w') (hb : b < w.heap.size) : Below b w w' :=
  ⟨h.os, h.tape, h.output, h.size, fun k hk => h.block k (by omega) (by omega)⟩

/-- Behind a first part that turned new blocks too: those of the second part's set that are new count for nothing. -/
theorem Fr.trans' {S S' : Nat → Prop} {a b c : World} (h : Fr S a b) (k : Fr S' b c) (hs : ∀ i, i < a.heap.size → S' i → S i) : Fr S a c :=
  ⟨k.os.trans h.os, k.tape.trans h.tape, k.output.trans h.output, Nat.le_trans h.size k.size,
   fun i hi hn => (k.block i (Nat.lt_of_lt_of_le hi h.size) (fun h' => hn (hs i hi h'))).trans (h.block i hi hn)⟩

/-! ### blocks that are known whole -/

/-- Block b holds these cells, and may be written. -/
def Blk (w : World) (b : Nat) (cs : Array Value) : Prop := ∃ T : TypeId, w.heap[b]? = some (.cells cs T (0, 0))

theorem Blk.lt {w : World} {b : Nat} {cs : Array Value} (h : Blk w b cs) : b < w.heap.size := by
  obtain ⟨T, h1⟩ := h
  exact (Array.getElem?_eq_some_iff.1 h1).1

theorem Blk.cell {w : World} {b : Nat} {cs : Array Value} (h : Blk w b cs) (n : Nat) : w.cell? ⟨b, n, none⟩ = cs[n]? := by
  obtain ⟨T, h1⟩ := h
  simp [World.cell?, h1]

theorem Blk.frozen {w : World} {b : Nat} {cs : Array Value} (h : Blk w b cs) (n : Nat) : w.frozen? ⟨b, n, none⟩ = false := by
  obtain ⟨T, h1⟩ := h
  simp [World.frozen?, h1]

theorem Blk.same {w w' : World} {b : Nat} {cs : Array Value} (h : Blk w b cs) (e : w'.heap[b]? = w.heap[b]?) : Blk w' b cs := by
  obtain ⟨T, h1⟩ := h
  exact ⟨T, e.trans h1⟩

theorem Blk.fr {S : Nat → Prop} {w w' : World} {b : Nat} {cs : Array Value} (h : Blk w b cs) (f : Fr S w w') (hs : ¬ S b) : Blk w' b cs :=
  h.same (f.block b h.lt hs)

theorem Blk.below {w w' : World} {b B : Nat} {cs : Array Value} (h : Blk w b cs) (f : Below B w w') (hs : b < B) : Blk w' b cs :=
  h.same (f.block b hs)

theorem Blk.drewN {w : World} {b : Nat} {cs : Array Value} (h : Blk w b cs) (n : Nat) : Blk (w.drewN n) b cs := h.same rfl
theorem Blk.drew {w : World} {b : Nat} {cs : Array Value} (h : Blk w b cs) : Blk w.drew b cs := h.same rfl

theorem Blk.alloc {w : World} {b : Nat} {cs : Array Value} (h : Blk w b cs) (o : Obj) : Blk (w.alloc o) b cs := h.same (Below.heap_alloc _ _ _ h.lt)

theorem Blk.new (w : World) (cs : Array Value) (T : TypeId) : Blk (w.alloc (.cells cs T)) w.heap.size cs :=
  ⟨T, by show (w.heap.push _)[w.heap.size]? = _; simp⟩

theorem Blk.new' {w : World} {cs : Array Value} {T : TypeId} {g : Nat} (h : g = w.heap.size) : Blk (w.alloc (.cells cs T)) g cs := h ▸ Blk.new w cs T

theorem Blk.set {w : World} {b : Nat} {cs : Array Value} (h : Blk w b cs) (n : Nat) (v : Value) : Blk (w.setCell ⟨b, n, none⟩ v) b (cs.setIfInBounds n v) := by
  obtain ⟨T, h1⟩ := h
  refine ⟨T, ?_⟩
  simp only [World.setCell, Array.getElem?_modify, if_true, h1]
  rfl

theorem Blk.apart {w : World} {b : Nat} {cs : Array Value} (h : Blk w b cs) {p : Addr} (hp : b ≠ p.block) (v : Value) : Blk (w.setCell p v) b cs :=
  h.same (Below.heap_setCell _ _ _ _ hp)

theorem cell_same' {w w' : World} {b : Nat} (e : w'.heap[b]? = w.heap[b]?) (n : Nat) : w'.cell? ⟨b, n, none⟩ = w.cell? ⟨b, n, none⟩ := by
  simp only [World.cell?, e]
theorem frozen_same' {w w' : World} {b : Nat} (e : w'.heap[b]? = w.heap[b]?) (n : Nat) : w'.frozen? ⟨b, n, none⟩ = w.frozen? ⟨b, n, none⟩ := by
  simp only [World.frozen?, e]

/-! ### regions that draw their order, read, and call what makes memory alone -/

/-- Worlds in which all that was there is as it was. -/
def Later (w : World) : Type := { w1 : World // Below w.heap.size w w1 }

theorem later_cell {w : World} {b n : Nat} {v : Value} (h : w.cell? ⟨b, n, none⟩ = some v) (hb : b < w.heap.size) (x : Later w) : x.1.cell? ⟨b, n, none⟩ = some v := by
  have e := x.2.block b hb
  simp only [World.cell?, e] at *
  exact h

theorem Calls.later_of {P : Program} {f : FuncId} {args : Array Value} {w : World} {x : Later w} {v : Value}
    (h : Calls P f args x.1 fun e w' => e = .returned v ∧ Below x.1.heap.size x.1 w') : Calls P f args x.1 fun e w'' => e = .returned v ∧ ∃ y : Later w, w'' = y.1 :=
  h.mono fun _ w' ⟨he, hb⟩ => ⟨he, ⟨w', x.2.trans (hb.mono x.2.size)⟩, rfl⟩

theorem Calls.later_same {P : Program} {f : FuncId} {args : Array Value} {w : World} {x : Later w} {v : Value}
    (h : Calls P f args x.1 fun e w' => e = .returned v ∧ w' = x.1) : Calls P f args x.1 fun e w'' => e = .returned v ∧ ∃ y : Later w, w'' = y.1 :=
  h.mono fun _ _ ⟨he, hb⟩ => ⟨he, x, hb⟩

theorem wp_region_later {P : Program} {id : Nat} {Q : Exit → Act → World → Prop} {a : Act} {w : World} {l : List Oper} (hm : P.follows .mixedOrders = true) (hB : Region.lexB .any l.toArray = true)
    (h : wpQuiet P l.toArray (fun w' => ∃ x : Later w, w' = x.1) (fun a' => ∀ w', (∃ x : Later w, w' = x.1) → Q .normal a' w') l a) : (Code.region id l.toArray true).wp P Q a w :=
  wp_region_quiet (C := fun w' => ∃ x : Later w, w' = x.1) hm hB ⟨⟨_, (Below.refl _ _).drew⟩, rfl⟩ (by simpa using h)

end Go.Proofs.Ytloppmepfkkblaa
end

section
/- The reference's kernel in memory, and the plain functions that its checks and its search come to. -/
open Go Go.RowKit
namespace Go.Proofs.Ytloppmepfkkblaa

/-- A thing of the reference's. -/
structure Th where
  kind : Int
  label : Nat
  id : Int
  Wa : Option Addr
  Wn : Nat
  Wc : Nat
  owns : Nat
  awake : Bool
  A : Int
  B : Int
  G : Int
  H : Int

def Th.cell (t : Th) (j : Nat) : Value :=
  if j = 0 then .int .i64 t.kind else if j = 1 then .int .i64 t.label else if j = 2 then .int .i64 t.id
  else if j = 3 then .slice t.Wa t.Wn t.Wc else if j = 4 then .int .i64 t.owns else if j = 5 then .bool t.awake
  else if j = 6 then .int .i64 t.A else if j = 7 then .int .i64 t.B else if j = 8 then .int .i64 t.G else .int .i64 t.H

/-- The reference's kernel: things, turns (slot and number), the phase, how many were made. -/
structure RSt where
  S : Nat → Th
  qs : Nat → Nat
  qi : Nat → Int
  phase : Nat
  made : Int

def RSt.cell (r : RSt) (n : Nat) : Value :=
  if n < 320 then (r.S (n / 10)).cell (n % 10)
  else if n < 336 then (if n % 2 = 0 then .int .i64 (r.qs ((n - 320) / 2)) else .int .i64 (r.qi ((n - 320) / 2)))
  else if n = 336 then .int .i64 r.phase else .int .i64 r.made

/-- The reference's kernel lies in block b. -/
def RK (w : World) (b : Nat) (r : RSt) : Prop := ∃ cs : Array Value, Blk w b cs ∧ cs.size = 338 ∧ ∀ n, n < 338 → cs[n]? = some (r.cell n)

theorem RK.lt {w : World} {b : Nat} {r : RSt} (h : RK w b r) : b < w.heap.size := by
  obtain ⟨cs, h1, _⟩ := h
  exact h1.lt

theorem RK.at {w : World} {b : Nat} {r : RSt} (h : RK w b r) {n : Nat} (hn : n < 338) : w.cell? ⟨b, n, none⟩ = some (r.cell n) := by
  obtain ⟨cs, h1, _, h3⟩ := h
  rw [h1.cell, h3 n hn]

theorem RK.frozen {w : World} {b : Nat} {r : RSt} (h : RK w b r) (n : Nat) : w.frozen? ⟨b, n, none⟩ = false := by
  obtain ⟨cs, h1, _⟩ := h
  exact h1.frozen n

theorem cell_thing (r : RSt) {k j : Nat} (hk : k < 32) (hj : j < 10) : r.cell (k * 10 + j) = (r.S k).cell j := by
  unfold RSt.cell
  rw [if_pos (by omega)]
  have e1 : (k * 10 + j) / 10 = k := by omega
  have e2 : (k * 10 + j) % 10 = j := by omega
  rw [e1, e2]

theorem RK.thing {w : World} {b : Nat} {r : RSt} (h : RK w b r) {k j : Nat} (hk : k < 32) (hj : j < 10) : w.cell? ⟨b, k * 10 + j, none⟩ = some ((r.S k).cell j) := by
  rw [h.at (by omega), cell_thing r hk hj]

/-- All cells of a thing, in the walk's spelling. -/
theorem RK.things {w : World} {b : Nat} {r : RSt} (h : RK w b r) {k : Nat} (hk : k < 32) :
    w.cell? ⟨b, k * 10, none⟩ = some (.int .i64 (r.S k).kind) ∧ w.cell? ⟨b, k * 10 + 1, none⟩ = some (.int .i64 (r.S k).label) ∧
    w.cell? ⟨b, k * 10 + 2, none⟩ = some (.int .i64 (r.S k).id) ∧ w.cell? ⟨b, k * 10 + 3, none⟩ = some (.slice (r.S k).Wa (r.S k).Wn (r.S k).Wc) ∧
    w.cell? ⟨b, k * 10 + 4, none⟩ = some (.int .i64 (r.S k).owns) ∧ w.cell? ⟨b, k * 10 + 5, none⟩ = some (.bool (r.S k).awake) ∧
    w.cell? ⟨b, k * 10 + 6, none⟩ = some (.int .i64 (r.S k).A) ∧ w.cell? ⟨b, k * 10 + 7, none⟩ = some (.int .i64 (r.S k).B) ∧
    w.cell? ⟨b, k * 10 + 8, none⟩ = some (.int .i64 (r.S k).G) ∧ w.cell? ⟨b, k * 10 + 9, none⟩ = some (.int .i64 (r.S k).H) :=
  ⟨h.thing (j := 0) hk (by omega), h.thing (j := 1) hk (by omega), h.thing (j := 2) hk (by omega), h.thing (j := 3) hk (by omega), h.thing (j := 4) hk (by omega),
   h.thing (j := 5) hk (by omega), h.thing (j := 6) hk (by omega), h.thing (j := 7) hk (by omega), h.thing (j := 8) hk (by omega), h.thing (j := 9) hk (by omega)⟩

theorem RK.turn {w : World} {b : Nat} {r : RSt} (h : RK w b r) {q : Nat} (hq : q < 8) :
    w.cell? ⟨b, 320 + q * 2, none⟩ = some (.int .i64 (r.qs q)) ∧ w.cell? ⟨b, 320 + q * 2 + 1, none⟩ = some (.int .i64 (r.qi q)) := by
  constructor
  · rw [h.at (by omega)]
    unfold RSt.cell
    rw [if_neg (by omega), if_pos (by omega), if_pos (by omega)]
    have e : (320 + q * 2 - 320) / 2 = q := by omega
    rw [e]
  · rw [h.at (by omega)]
    unfold RSt.cell
    rw [if_neg (by omega), if_pos (by omega), if_neg (by omega)]
    have e : (320 + q * 2 + 1 - 320) / 2 = q := by omega
    rw [e]

theorem RK.phase {w : World} {b : Nat} {r : RSt} (h : RK w b r) : w.cell? ⟨b, 336, none⟩ = some (.int .i64 r.phase) := by
  rw [h.at (by omega)]; rfl
theorem RK.made {w : World} {b : Nat} {r : RSt} (h : RK w b r) : w.cell? ⟨b, 337, none⟩ = some (.int .i64 r.made) := by
  rw [h.at (by omega)]; rfl

theorem RK.same {w w' : World} {b : Nat} {r : RSt} (h : RK w b r) (e : w'.heap[b]? = w.heap[b]?) : RK w' b r := by
  obtain ⟨cs, h1, h2⟩ := h
  exact ⟨cs, h1.same e, h2⟩
theorem RK.drew {w : World} {b : Nat} {r : RSt} (h : RK w b r) : RK w.drew b r := h.same rfl
theorem RK.drewN {w : World} {b : Nat} {r : RSt} (h : RK w b r) (n : Nat) : RK (w.drewN n) b r := h.same rfl
theorem RK.alloc {w : World} {b : Nat} {r : RSt} (h : RK w b r) (o : Obj) : RK (w.alloc o) b r := h.same (Below.heap_alloc _ _ _ h.lt)
theorem RK.fr {S : Nat → Prop} {w w' : World} {b : Nat} {r : RSt} (h : RK w b r) (f : Fr S w w') (hs : ¬ S b) : RK w' b r := h.same (f.block b h.lt hs)
theorem RK.below {w w' : World} {b : Nat} {r : RSt} (h : RK w b r) {B : Nat} (hb : Below B w w') (hB : b < B) : RK w' b r := h.same (hb.block b hB)

/-! ### stores into the reference's kernel -/

theorem RK.cell_set {w : World} {b : Nat} {c : Nat → Value} (n : Nat) (v : Value) (h : ∃ cs : Array Value, Blk w b cs ∧ cs.size = 338 ∧ ∀ m, m < 338 → cs[m]? = some (c m)) :
    ∃ cs : Array Value, Blk (w.setCell ⟨b, n, none⟩ v) b cs ∧ cs.size = 338 ∧ ∀ m, m < 338 → cs[m]? = some (if m = n then v else c m) := by
  obtain ⟨cs, h1, h2, h3⟩ := h
  refine ⟨_, h1.set n v, by simpa using h2, fun m hm => ?_⟩
  by_cases e : m = n
  · subst e
    rw [if_pos rfl, Array.getElem?_setIfInBounds_self_of_lt (by omega)]
  · rw [if_neg e, Array.getElem?_setIfInBounds_ne (Ne.symm e)]
    exact h3 m hm

/-- One thing in another one's place. -/
def upd {α : Type} (f : Nat → α) (s : Nat) (t : α) : Nat → α := fun i => if i = s then t else f i

theorem upd_same {α : Type} (f : Nat → α) (s : Nat) (t : α) : upd f s t s = t := if_pos rfl
theorem upd_ne {α : Type} (f : Nat → α) {s i : Nat} (t : α) (h : i ≠ s) : upd f s t i = f i := if_neg h

def RSt.put (r : RSt) (s : Nat) (t : Th) : RSt := { r with S := upd r.S s t }

/-- The world behind the store of a whole thing. -/
def World.putTh (w : World) (b o : Nat) (t : Th) : World :=
  (((((((((w.setCell ⟨b, o, none⟩ (.int .i64 t.kind)).setCell ⟨b, o + 1, none⟩ (.int .i64 t.label)).setCell ⟨b, o + 2, none⟩ (.int .i64 t.id)).setCell ⟨b, o + 3, none⟩ (.slice t.Wa t.Wn t.Wc)).setCell
    ⟨b, o + 4, none⟩ (.int .i64 t.owns)).setCell ⟨b, o + 5, none⟩ (.bool t.awake)).setCell ⟨b, o + 6, none⟩ (.int .i64 t.A)).setCell ⟨b, o + 7, none⟩ (.int .i64 t.B)).setCell ⟨b, o + 8, none⟩ (.int .i64 t.G)).setCell ⟨b, o + 9, none⟩ (.int .i64 t.H)

theorem RK.put {w : World} {b : Nat} {r : RSt} (h : RK w b r) {s : Nat} (hs : s < 32) (t : Th) : RK (World.putTh w b (s * 10) t) b (r.put s t) := by
  have h1 := RK.cell_set (s * 10 + 9) (.int .i64 t.H) (RK.cell_set (s * 10 + 8) (.int .i64 t.G) (RK.cell_set (s * 10 + 7) (.int .i64 t.B) (RK.cell_set (s * 10 + 6) (.int .i64 t.A)
    (RK.cell_set (s * 10 + 5) (.bool t.awake) (RK.cell_set (s * 10 + 4) (.int .i64 t.owns) (RK.cell_set (s * 10 + 3) (.slice t.Wa t.Wn t.Wc) (RK.cell_set (s * 10 + 2) (.int .i64 t.id)
    (RK.cell_set (s * 10 + 1) (.int .i64 t.label) (RK.cell_set (s * 10) (.int .i64 t.kind) h)))))))))
  obtain ⟨cs, g1, g2, g3⟩ := h1
  refine ⟨cs, g1, g2, fun m hm => ?_⟩
  rw [g3 m hm]
  congr 1
  by_cases hm3 : m < 320 ∧ m / 10 = s
  · obtain ⟨h3, rfl⟩ := hm3
    have hc : (r.put (m / 10) t).cell m = t.cell (m % 10) := by
      unfold RSt.cell RSt.put
      dsimp only
      rw [if_pos h3, upd_same]
    rw [hc]
    unfold Th.cell
    have hm10 : m % 10 = 0 ∨ m % 10 = 1 ∨ m % 10 = 2 ∨ m % 10 = 3 ∨ m % 10 = 4 ∨ m % 10 = 5 ∨ m % 10 = 6 ∨ m % 10 = 7 ∨ m % 10 = 8 ∨ m % 10 = 9 := by omega
    rcases hm10 with e | e | e | e | e | e | e | e | e | e
    all_goals
      rw [e]
      repeat (first | rw [if_pos (by omega)] | rw [if_neg (by omega)])
  · repeat rw [if_neg (by omega)]
    unfold RSt.cell RSt.put
    dsimp only
    split
    · rw [upd_ne _ _ (by omega)]
    · rfl

theorem Fr.putTh (w : World) (b o : Nat) (t : Th) : Fr (fun k => k = b) w (World.putTh w b o t) :=
  (((((((((Fr.own w b o _).trans (Fr.own _ b _ _)).trans (Fr.own _ b _ _)).trans (Fr.own _ b _ _)).trans (Fr.own _ b _ _)).trans (Fr.own _ b _ _)).trans (Fr.own _ b _ _)).trans (Fr.own _ b _ _)).trans (Fr.own _ b _ _)).trans (Fr.own _ b _ _)

def RSt.mk1 (r : RSt) (n : Int) : RSt := { r with made := n }
theorem RK.putMade {w : World} {b : Nat} {r : RSt} (h : RK w b r) (n : Int) : RK (w.setCell ⟨b, 337, none⟩ (.int .i64 n)) b (r.mk1 n) := by
  obtain ⟨cs, g1, g2, g3⟩ := RK.cell_set 337 (.int .i64 n) h
  refine ⟨cs, g1, g2, fun m hm => ?_⟩
  rw [g3 m hm]
  congr 1
  unfold RSt.cell RSt.mk1
  by_cases e : m = 337
  · subst e; simp
  · rw [if_neg e]
    repeat (first | rfl | split)
    all_goals omega

theorem RK.putPhase {w : World} {b : Nat} {r : RSt} (h : RK w b r) (n : Nat) : RK (w.setCell ⟨b, 336, none⟩ (.int .i64 n)) b { r with phase := n } := by
  obtain ⟨cs, g1, g2, g3⟩ := RK.cell_set 336 (.int .i64 n) h
  refine ⟨cs, g1, g2, fun m hm => ?_⟩
  rw [g3 m hm]
  congr 1
  unfold RSt.cell
  by_cases e : m = 336
  · subst e; simp
  · rw [if_neg e]
    dsimp only
    repeat (first | rfl | rw [if_neg e] | split)

def RSt.turn (r : RSt) (q : Nat) (s : Nat) (i : Int) : RSt := { r with qs := upd r.qs q s, qi := upd r.qi q i }
theorem RK.putTurn {w : World} {b : Nat} {r : RSt} (h : RK w b r) {q : Nat} (hq : q < 8) (s : Nat) (i : Int) :
    RK ((w.setCell ⟨b, 320 + q * 2, none⟩ (.int .i64 s)).setCell ⟨b, 320 + q * 2 + 1, none⟩ (.int .i64 i)) b (r.turn q s i) := by
  obtain ⟨cs, g1, g2, g3⟩ := RK.cell_set (320 + q * 2 + 1) (.int .i64 i) (RK.cell_set (320 + q * 2) (.int .i64 s) h)
  refine ⟨cs, g1, g2, fun m hm => ?_⟩
  rw [g3 m hm]
  congr 1
  unfold RSt.cell RSt.turn
  dsimp only
  by_cases e : m = 320 + q * 2 + 1
  · rw [if_pos e, if_neg (by omega), if_pos (by omega), if_neg (by omega)]
    have e2 : (m - 320) / 2 = q := by omega
    rw [e2, upd_same]
  · rw [if_neg e]
    by_cases e' : m = 320 + q * 2
    · rw [if_pos e', if_neg (by omega), if_pos (by omega), if_pos (by omega)]
      have e2 : (m - 320) / 2 = q := by omega
      rw [e2, upd_same]
    · rw [if_neg e']
      split
      · rfl
      · split
        · rw [upd_ne _ _ (by omega), upd_ne _ _ (by omega)]
        · rfl

/-- What holds of every thing that the reference ever has. -/
def Th.wf (t : Th) : Prop := 0 ≤ t.A ∧ t.A ≤ 32 ∧ 0 ≤ t.B ∧ t.B ≤ 32 ∧ t.label < 256 ∧ t.owns < 256
def RSt.wf (r : RSt) : Prop := ∀ i, i < 32 → (r.S i).wf

theorem RSt.wf.put {r : RSt} (h : r.wf) (s : Nat) {t : Th} (ht : t.wf) : (r.put s t).wf := fun i hi => by
  unfold RSt.put upd
  dsimp only
  split
  · exact ht
  · exact h i hi


/-- The container with the least range of slots of all those ahead of k whose range (lo, hi) has s; -1: none. -/
def seek (S : Nat → Th) (lo hi : Th → Int) (s : Int) : Nat → Int
  | 0 => -1
  | k + 1 =>
    if (S k).kind ≠ 1 ∨ s < lo (S k) ∨ hi (S k) ≤ s then seek S lo hi s k
    else if seek S lo hi s k < 0 ∨ (S k).B - (S k).A < (S (seek S lo hi s k).toNat).B - (S (seek S lo hi s k).toNat).A then k
    else seek S lo hi s k

section
variable {S : Nat → Th} {lo hi : Th → Int} {s : Int}
theorem seek_lt (S : Nat → Th) (lo hi : Th → Int) (s : Int) (k : Nat) : -1 ≤ seek S lo hi s k ∧ seek S lo hi s k < k := by
  induction k with
  | zero => simp [seek]
  | succ k ih =>
    unfold seek
    split
    · omega
    · split <;> omega

theorem seek_skip {k : Nat} (h : (S k).kind ≠ 1 ∨ s < lo (S k) ∨ hi (S k) ≤ s) : seek S lo hi s (k + 1) = seek S lo hi s k := by
  conv => lhs; unfold seek
  rw [if_pos h]
theorem seek_take {k : Nat} (h1 : (S k).kind = 1) (h2 : lo (S k) ≤ s) (h3 : s < hi (S k))
    (h : seek S lo hi s k < 0 ∨ (S k).B - (S k).A < (S (seek S lo hi s k).toNat).B - (S (seek S lo hi s k).toNat).A) : seek S lo hi s (k + 1) = k := by
  conv => lhs; unfold seek
  rw [if_neg (by simp [h1]; omega), if_pos h]
theorem seek_stay {k n : Nat} (hn : seek S lo hi s k = n) (h : (S n).B - (S n).A ≤ (S k).B - (S k).A) : seek S lo hi s (k + 1) = n := by
  conv => lhs; unfold seek
  split
  · exact hn
  · rw [if_neg, hn]
    rw [hn, Int.toNat_natCast]
    omega
end

/-- A slot or none, as the reference tells it. -/
def oi : Option Nat → Int
  | none => -1
  | some c => c

/-- In which container a slot lies. -/
def lies (S : Nat → Th) (s : Int) : Option Nat := if seek S Th.A Th.B s 32 < 0 then none else some (seek S Th.A Th.B s 32).toNat
/-- In which container a quantum lies. -/
def has (S : Nat → Th) (q : Int) : Option Nat := if seek S Th.G Th.H q 32 < 0 then none else some (seek S Th.G Th.H q 32).toNat

theorem lies_oi (S : Nat → Th) (s : Int) : seek S Th.A Th.B s 32 = oi (lies S s) := by
  have := seek_lt S Th.A Th.B s 32
  unfold lies oi
  split <;> rename_i h <;> split at h <;> simp at h <;> omega
theorem has_oi (S : Nat → Th) (s : Int) : seek S Th.G Th.H s 32 = oi (has S s) := by
  have := seek_lt S Th.G Th.H s 32
  unfold has oi
  split <;> rename_i h <;> split at h <;> simp at h <;> omega
theorem lies_lt {S : Nat → Th} {s : Int} {c : Nat} (h : lies S s = some c) : c < 32 := by
  have := seek_lt S Th.A Th.B s 32
  unfold lies at h
  split at h <;> simp at h
  omega
theorem has_lt {S : Nat → Th} {s : Int} {c : Nat} (h : has S s = some c) : c < 32 := by
  have := seek_lt S Th.G Th.H s 32
  unfold has at h
  split at h <;> simp at h
  omega

/-- The current thread's slot. -/
def curF (r : RSt) : Option Nat :=
  if r.qi r.phase = 0 ∨ (r.S (r.qs r.phase)).id ≠ r.qi r.phase ∨ (r.S (r.qs r.phase)).awake = false then none else some (r.qs r.phase)

/-- What holds of turns and of the phase. -/
def RSt.wq (r : RSt) : Prop := r.phase < 8 ∧ ∀ q, q < 8 → r.qs q < 32

/-! ### a trap on its way: what was needed, and what is wrong first -/

/-- What a check makes of 'used' and 'err'. -/
def chk (O x y : Nat) (p : Nat × Int) : Nat × Int :=
  if p.2 ≠ 0 then p else if sub (mis x y) O then (p.1 ||| mis x y, 0) else (p.1, 4)

/-- From the root on all containers in which a slot lies are read. -/
def pathF (S : Nat → Th) (O T : Nat) : Nat → Int → Nat × Int → Nat × Int
  | 0, _, p => p
  | n + 1, s, p => match lies S s with
    | none => p
    | some c => chk O (S c).label T (pathF S O T n c p)

/-- The root is reached within n steps. -/
def deep (S : Nat → Th) : Nat → Int → Prop
  | 0, _ => False
  | n + 1, s => match lies S s with
    | none => True
    | some c => deep S n c

def failed (e : Int) (p : Nat × Int) : Nat × Int := if p.2 = 0 then (p.1, e) else p

/-- 'there' and 'a kind stands'. -/
def thereF (S : Nat → Th) (s : Nat) (p : Nat × Int) : Nat × Int := if (S s).kind = 0 then failed 5 p else p
def kindF (S : Nat → Th) (s : Nat) (k : Int) (p : Nat × Int) : Nat × Int := if (S s).kind = k then p else failed 6 p

/-- Making an object in c, s with the label l. -/
def makingF (S : Nat → Th) (O T n c s l : Nat) (p : Nat × Int) : Nat × Int :=
  chk O T l
    ((fun p => if sub (S c).label l = true then p else failed 4 p)
      ((fun p => if (S s).kind = 0 ∧ lies S s = some c then p else failed 7 p)
        ((fun p => if (S c).kind = 1 then p else failed 6 p)
          (chk O T (S c).label (chk O (S c).label T
            ((fun p => if (S c).kind = 0 then failed 5 p else p) (pathF S O T n c p)))))))

theorem oi_eq {x : Option Nat} {c : Nat} : oi x = (c : Int) ↔ x = some c := by
  cases x <;> simp [oi] <;> omega

/-- The trap on its way lies in block ab: its kernel's block, its thread's label and what that owns, used, err. -/
def AskAt (w : World) (ab b T O : Nat) (p : Nat × Int) : Prop :=
  Blk w ab #[.pointer (some ⟨b, 0, none⟩), .int .i64 T, .int .i64 O, .int .i64 p.1, .int .i64 p.2]

/-- The trap and its kernel. -/
structure AK (w : World) (ab b T O : Nat) (p : Nat × Int) (r : RSt) : Prop where
  ask : AskAt w ab b T O p
  rk : RK w b r
  ne : ab ≠ b
  hT : T < 256
  hO : O < 256
  hu : p.1 < 256
  wf : r.wf

theorem AskAt.cells {w : World} {ab b T O : Nat} {p : Nat × Int} (h : AskAt w ab b T O p) :
    w.cell? ⟨ab, 0, none⟩ = some (.pointer (some ⟨b, 0, none⟩)) ∧ w.cell? ⟨ab, 1, none⟩ = some (.int .i64 T) ∧ w.cell? ⟨ab, 2, none⟩ = some (.int .i64 O) ∧
    w.cell? ⟨ab, 3, none⟩ = some (.int .i64 p.1) ∧ w.cell? ⟨ab, 4, none⟩ = some (.int .i64 p.2) ∧ w.frozen? ⟨ab, 3, none⟩ = false ∧ w.frozen? ⟨ab, 4, none⟩ = false := by
  refine ⟨?_, ?_, ?_, ?_, ?_, Blk.frozen h 3, Blk.frozen h 4⟩ <;> rw [Blk.cell h] <;> rfl

theorem AskAt.used {w : World} {ab b T O : Nat} {p : Nat × Int} (h : AskAt w ab b T O p) (u : Nat) : AskAt (w.setCell ⟨ab, 3, none⟩ (.int .i64 u)) ab b T O (u, p.2) := Blk.set h 3 _
theorem AskAt.err {w : World} {ab b T O : Nat} {p : Nat × Int} (h : AskAt w ab b T O p) (e : Int) : AskAt (w.setCell ⟨ab, 4, none⟩ (.int .i64 e)) ab b T O (p.1, e) := Blk.set h 4 _

theorem chk_lt {O x : Nat} (y : Nat) {p : Nat × Int} (hx : x < 256) (hu : p.1 < 256) : (chk O x y p).1 < 256 := by
  unfold chk
  split
  · exact hu
  · split
    · exact or_lt hu (mis_lt y hx)
    · exact hu

theorem pathF_lt {S : Nat → Th} {O T : Nat} (hS : ∀ i, i < 32 → (S i).label < 256) : ∀ (n : Nat) (s : Int) (p : Nat × Int), p.1 < 256 → (pathF S O T n s p).1 < 256
  | 0, _, _, h => h
  | n + 1, s, p, h => by
    unfold pathF
    split
    · exact h
    · rename_i c hc
      exact chk_lt _ (hS c (lies_lt hc)) (pathF_lt hS n c p h)

theorem failed_lt {e : Int} {p : Nat × Int} (hu : p.1 < 256) : (failed e p).1 < 256 := by
  unfold failed; split <;> exact hu

theorem AK.fr {w w' : World} {ab b T O : Nat} {p : Nat × Int} {r : RSt} (h : AK w ab b T O p r) (f : Fr (fun _ => False) w w') : AK w' ab b T O p r :=
  ⟨Blk.fr h.ask f id, h.rk.fr f id, h.ne, h.hT, h.hO, h.hu, h.wf⟩

/-- .. behind stores into the kernel's block. -/
theorem AK.kturned {w w' : World} {ab b T O : Nat} {p : Nat × Int} {r r' : RSt} (h : AK w ab b T O p r) (f : Fr (fun k => k = b) w w') (hr : RK w' b r') (hw : r'.wf) : AK w' ab b T O p r' :=
  ⟨Blk.fr h.ask f h.ne, hr, h.ne, h.hT, h.hO, h.hu, hw⟩

/-- .. behind a store into the trap's own block. -/
theorem AK.turned {w w' : World} {ab b T O : Nat} {p p' : Nat × Int} {r : RSt} (h : AK w ab b T O p r) (f : Fr (fun k => k = ab) w w') (ha : AskAt w' ab b T O p') (hu : p'.1 < 256) : AK w' ab b T O p' r :=
  ⟨ha, h.rk.fr f (fun e => h.ne e.symm), h.ne, h.hT, h.hO, hu, h.wf⟩

end Go.Proofs.Ytloppmepfkkblaa
end

section
/- The kernel of the document as a plain function: what each trap tells, and what is behind it; and what always holds of the tree. Without conditions. -/
open Go Go.RowKit
namespace Go.Proofs.Ytloppmepfkkblaa

/-- All of the kernel: what lies in the slots, the words, the threads of the quanta, the phase. -/
structure MS where
  S : Nat → Th
  ws : Nat → List Int
  lq : Nat → Option Nat
  ph : Nat

/-- A free slot. -/
def fth : Th := ⟨0, 0, 0, none, 0, 0, 0, false, 0, 0, 0, 0⟩
def segT (l : Nat) : Th := ⟨3, l, 0, none, 0, 0, 0, false, 0, 0, 0, 0⟩
def contT (l a e g h : Nat) : Th := ⟨1, l, 0, none, 0, 0, 0, false, a, e, g, h⟩
def thrT (l o : Nat) : Th := ⟨2, l, 0, none, 0, 0, o, true, 0, 0, 0, 0⟩
def portT (l : Nat) : Th := ⟨4, l, 0, none, 0, 0, 0, false, 0, 0, 0, 0⟩

/-- The current thread's slot. -/
def MS.cur (M : MS) : Option Nat :=
  match M.lq M.ph with
  | none => none
  | some s => if (M.S s).awake = true then some s else none

/-- How deep the tree can be. -/
abbrev DEEP : Nat := 40

/-! ### what is asked -/
def mFind (S : Nat → Th) (O T s : Nat) : Nat × Int := thereF S s (pathF S O T DEEP s (0, 0))
def mRead (S : Nat → Th) (O T s : Nat) : Nat × Int := kindF S s 3 (chk O (S s).label T (mFind S O T s))
def mWrite (S : Nat → Th) (O T s : Nat) : Nat × Int := kindF S s 3 (chk O T (S s).label (mFind S O T s))
def mMake (S : Nat → Th) (O T c s l : Nat) : Nat × Int := makingF S O T DEEP c s l (0, 0)

/-- May the container not have these ranges? -/
def busyB (S : Nat → Th) (c s a e g h : Nat) : Bool :=
  decide (a ≤ s ∧ s < e) || (List.range 32).any (fun i => decide (a ≤ i ∧ i < e) && !decide ((S i).kind = 0 ∧ lies S i = some c)) ||
    (List.range 8).any (fun q => decide (g ≤ q ∧ q < h) && !decide (has S q = some c))

def mCont (S : Nat → Th) (O T c s l a e g h : Nat) : Nat × Int := if busyB S c s a e g h then failed 7 (mMake S O T c s l) else mMake S O T c s l
def mThread (S : Nat → Th) (O T c s l o : Nat) : Nat × Int := if sub o O = true then mMake S O T c s l else failed 4 (mMake S O T c s l)
def mFree (S : Nat → Th) (O T s : Nat) : Nat × Int :=
  if s = 0 then failed 3 (pathF S O T DEEP s (0, 0)) else chk O T (S ((lies S s).getD 0)).label (mFind S O T s)
def mDrop (S : Nat → Th) (O T q : Nat) : Nat × Int :=
  chk O T (S ((has S q).getD 0)).label (chk O (S ((has S q).getD 0)).label T (pathF S O T DEEP (((has S q).getD 0 : Nat) : Int) (0, 0)))
def mGive (S : Nat → Th) (O T q s : Nat) : Nat × Int :=
  chk O (S ((has S q).getD 0)).label (S s).label (kindF S s 2 (thereF S s (pathF S O T DEEP s (mDrop S O T q))))
def mWake (S : Nat → Th) (O T s : Nat) : Nat × Int := kindF S s 2 (chk O T (S s).label (mFind S O T s))
def mSend (S : Nat → Th) (O T s n : Nat) : Nat × Int :=
  (fun p => if 4 ≤ n ∧ sub (S s).label T = true then failed 8 p else p) (kindF S s 4 (chk O T (S s).label (mFind S O T s)))
def mRecv (S : Nat → Th) (O T s n : Nat) : Nat × Int :=
  (fun p => if n = 0 then failed 9 p else p) (kindF S s 4 (chk O T (S s).label (chk O (S s).label T (mFind S O T s))))

/-! ### what is done -/
def MS.put (M : MS) (s : Nat) (t : Th) (ws : List Int) : MS := { M with S := upd M.S s t, ws := upd M.ws s ws }
def MS.idle (M : MS) (g h : Nat) : MS := { M with lq := fun q => if g ≤ q ∧ q < h then none else M.lq q }
/-- Does slot i go with slot s? -/
def goes (S : Nat → Th) (s i : Nat) : Prop := i = s ∨ (S s).kind = 1 ∧ (S s).A ≤ i ∧ (i : Int) < (S s).B
instance (S : Nat → Th) (s i : Nat) : Decidable (goes S s i) := by unfold goes; infer_instance
def MS.gone (M : MS) (s : Nat) : MS :=
  { M with
    S := fun i => if goes M.S s i then fth else M.S i
    ws := fun i => if goes M.S s i then [] else M.ws i
    lq := fun q => if (M.S s).kind = 1 ∧ (M.S s).G ≤ q ∧ (q : Int) < (M.S s).H then none else (M.lq q).bind fun t => if goes M.S s t then none else some t }
def MS.awake (M : MS) (s : Nat) (v : Bool) : MS := { M with S := upd M.S s { M.S s with awake := v } }
def MS.turn (M : MS) (q : Nat) (t : Option Nat) : MS := { M with lq := upd M.lq q t }
def MS.words (M : MS) (s : Nat) (l : List Int) : MS := { M with ws := upd M.ws s l }

def arg (xs : List Int) (i : Nat) : Nat := (xs.getD i 0).toNat

/-- What a trap needs, and what is wrong first. -/
def MS.ask (M : MS) (me : Nat) (n : Int) (xs : List Int) : Nat × Int :=
  let O := (M.S me).owns
  let T := (M.S me).label
  if n = 2 then pathF M.S O T DEEP (arg xs 0) (0, 0)
  else if n = 3 then mFind M.S O T (arg xs 0)
  else if n = 4 then mMake M.S O T (arg xs 0) (arg xs 1) (arg xs 2)
  else if n = 5 then mRead M.S O T (arg xs 0)
  else if n = 6 then mWrite M.S O T (arg xs 0)
  else if n = 7 then mCont M.S O T (arg xs 0) (arg xs 1) (arg xs 2) (arg xs 3) (arg xs 4) (arg xs 5) (arg xs 6)
  else if n = 8 then mFree M.S O T (arg xs 0)
  else if n = 9 then mThread M.S O T (arg xs 0) (arg xs 1) (arg xs 2) (arg xs 3)
  else if n = 10 then mGive M.S O T (arg xs 0) (arg xs 1)
  else if n = 11 then mDrop M.S O T (arg xs 0)
  else if n = 13 then mWake M.S O T (arg xs 0)
  else if n = 14 then mMake M.S O T (arg xs 0) (arg xs 1) (arg xs 2)
  else if n = 15 then mSend M.S O T (arg xs 0) (M.ws (arg xs 0)).length
  else if n = 16 then mRecv M.S O T (arg xs 0) (M.ws (arg xs 0)).length
  else (0, 0)

/-- What a trap tells, if nothing is wrong. -/
def MS.val (M : MS) (me : Nat) (n : Int) (xs : List Int) : Int :=
  if n = 1 then me else if n = 2 then (M.S (arg xs 0)).kind else if n = 3 then (M.S (arg xs 0)).label
  else if n = 5 then (M.ws (arg xs 0)).getD (arg xs 1) 0 else if n = 16 then (M.ws (arg xs 0)).getD 0 0 else 0

/-- What is behind it, if nothing is wrong. -/
def MS.next (M : MS) (me : Nat) (n : Int) (xs : List Int) : MS :=
  if n = 4 then M.put (arg xs 1) (segT (arg xs 2)) [0, 0, 0, 0, 0, 0, 0, 0]
  else if n = 6 then M.words (arg xs 0) ((M.ws (arg xs 0)).set (arg xs 1) (xs.getD 2 0))
  else if n = 7 then (M.put (arg xs 1) (contT (arg xs 2) (arg xs 3) (arg xs 4) (arg xs 5) (arg xs 6)) []).idle (arg xs 5) (arg xs 6)
  else if n = 8 then M.gone (arg xs 0)
  else if n = 9 then M.put (arg xs 1) (thrT (arg xs 2) (arg xs 3)) []
  else if n = 10 then M.turn (arg xs 0) (some (arg xs 1))
  else if n = 11 then M.turn (arg xs 0) none
  else if n = 12 then M.awake me false
  else if n = 13 then M.awake (arg xs 0) true
  else if n = 14 then M.put (arg xs 1) (portT (arg xs 2)) []
  else if n = 15 then (if 4 ≤ (M.ws (arg xs 0)).length then M else M.words (arg xs 0) (M.ws (arg xs 0) ++ [xs.getD 1 0]))
  else if n = 16 then M.words (arg xs 0) (M.ws (arg xs 0)).tail
  else M

/-- The letters of a trap's arguments. -/
def shapeL (n : Int) : List UInt8 :=
  if n = 2 then [115] else
  if n = 3 then [115] else
  if n = 4 then [115, 115, 108] else
  if n = 5 then [115, 105] else
  if n = 6 then [115, 105, 118] else
  if n = 7 then [115, 115, 108, 97, 98, 103, 104] else
  if n = 8 then [115] else
  if n = 9 then [115, 115, 108, 108] else
  if n = 10 then [113, 115] else
  if n = 11 then [113] else
  if n = 13 then [115] else
  if n = 14 then [115, 115, 108] else
  if n = 15 then [115, 118] else
  if n = 16 then [115] else
  []

/-- May an argument be (its letter, the one ahead of it)? -/
def okAt (c : UInt8) (pre x : Int) : Bool :=
  if c = 115 then decide (0 ≤ x ∧ x ≤ 31) else if c = 113 then decide (0 ≤ x ∧ x ≤ 7) else if c = 108 then decide (0 ≤ x ∧ x ≤ 255)
  else if c = 105 then decide (0 ≤ x ∧ x ≤ 7) else if c = 97 then decide (1 ≤ x ∧ x ≤ 32) else if c = 98 then decide (pre ≤ x ∧ x ≤ 32)
  else if c = 103 then decide (0 ≤ x ∧ x ≤ 8) else if c = 104 then decide (pre ≤ x ∧ x ≤ 8) else true

/-- The arguments ahead of k may be. -/
def mayTo (cs : List UInt8) (xs : List Int) : Nat → Bool
  | 0 => true
  | k + 1 => mayTo cs xs k && okAt (cs.getD k 0) (xs.getD (k - 1) 0) (xs.getD k 0)

/-- A trap: what it tells (error, value, used), and what is behind it. -/
def MS.trap (M : MS) (n : Int) (xs : List Int) : (Int × Int × Nat) × MS :=
  match M.cur with
  | none => ((1, 0, 0), M)
  | some me =>
    if n < 1 ∨ 17 ≤ n ∨ (shapeL n).length ≠ xs.length then ((2, 0, 0), M)
    else if mayTo (shapeL n) xs xs.length = false then ((3, 0, 0), M)
    else if (M.ask me n xs).2 = 0 then ((0, M.val me n xs, (M.ask me n xs).1), M.next me n xs)
    else (((M.ask me n xs).2, 0, (M.ask me n xs).1), M)

end Go.Proofs.Ytloppmepfkkblaa
end

section
/- Arguments in memory; what the calls tell, in memory. Without conditions. -/
open Go Go.RowKit
namespace Go.Proofs.Ytloppmepfkkblaa

theorem cell_same {w w' : World} {b : Nat} (e : w'.heap[b]? = w.heap[b]?) (n : Nat) : w'.cell? ⟨b, n, none⟩ = w.cell? ⟨b, n, none⟩ := by
  simp only [World.cell?, e]

/-- Numbers lie in block lb, from lo on. -/
structure Arg (w : World) (lb lo : Nat) (xs : List Int) : Prop where
  lt : lb < w.heap.size
  cell : ∀ i x, xs[i]? = some x → w.cell? ⟨lb, lo + i, none⟩ = some (.int .i64 x)

theorem Arg.fr {S : Nat → Prop} {w w' : World} {lb lo : Nat} {xs : List Int} (h : Arg w lb lo xs) (f : Fr S w w') (hs : ¬ S lb) : Arg w' lb lo xs :=
  ⟨Nat.lt_of_lt_of_le h.lt f.size, fun i x hx => by rw [cell_same (f.block lb h.lt hs)]; exact h.cell i x hx⟩
theorem Arg.below {w w' : World} {lb lo B : Nat} {xs : List Int} (h : Arg w lb lo xs) (f : Below B w w') (hs : lb < B) : Arg w' lb lo xs :=
  ⟨Nat.lt_of_lt_of_le h.lt f.size, fun i x hx => by rw [cell_same (f.block lb hs)]; exact h.cell i x hx⟩

section
variable {w : World} {lb lo : Nat} {x0 x1 x2 x3 x4 x5 x6 : Int} {xs : List Int}
theorem Arg.c0 (h : Arg w lb lo (x0 :: xs)) : w.cell? ⟨lb, lo, none⟩ = some (.int .i64 x0) := h.cell 0 x0 rfl
theorem Arg.c1 (h : Arg w lb lo (x0 :: x1 :: xs)) : w.cell? ⟨lb, lo + 1, none⟩ = some (.int .i64 x1) := h.cell 1 x1 rfl
theorem Arg.c2 (h : Arg w lb lo (x0 :: x1 :: x2 :: xs)) : w.cell? ⟨lb, lo + 2, none⟩ = some (.int .i64 x2) := h.cell 2 x2 rfl
theorem Arg.c3 (h : Arg w lb lo (x0 :: x1 :: x2 :: x3 :: xs)) : w.cell? ⟨lb, lo + 3, none⟩ = some (.int .i64 x3) := h.cell 3 x3 rfl
theorem Arg.c4 (h : Arg w lb lo (x0 :: x1 :: x2 :: x3 :: x4 :: xs)) : w.cell? ⟨lb, lo + 4, none⟩ = some (.int .i64 x4) := h.cell 4 x4 rfl
theorem Arg.c5 (h : Arg w lb lo (x0 :: x1 :: x2 :: x3 :: x4 :: x5 :: xs)) : w.cell? ⟨lb, lo + 5, none⟩ = some (.int .i64 x5) := h.cell 5 x5 rfl
theorem Arg.c6 (h : Arg w lb lo (x0 :: x1 :: x2 :: x3 :: x4 :: x5 :: x6 :: xs)) : w.cell? ⟨lb, lo + 6, none⟩ = some (.int .i64 x6) := h.cell 6 x6 rfl
end

/-- What a trap tells. -/
def outV (e v : Int) (u : Nat) : Value := .agg #[.int .i64 e, .int .i64 v, .int .i64 u]

/-- The result's cell behind what stood ahead of it. -/
theorem Below.first {w w1 : World} {o : Obj} (hb : Below (w.alloc o).heap.size (w.alloc o) w1) : Below w.heap.size w w1 :=
  Below.trans ((Below.refl w.heap.size w).alloc (Nat.le_refl _) o) (hb.mono (by simp))

theorem Blk.zero3 {w w1 : World} {cs : Array Value} {T : TypeId} (hb : Below (w.alloc (.cells cs T)).heap.size (w.alloc (.cells cs T)) w1) : Blk w1 w.heap.size cs :=
  Blk.below (Blk.new w cs T) hb (by simp)

def nowV (p : Nat) (t : Int) (l : Nat) : Value := .agg #[.int .i64 p, .int .i64 t, .int .i64 l]

/-- What a trap tells, in memory. -/
def MS.out (M : MS) (n : Int) (xs : List Int) : Value := outV (M.trap n xs).1.1 (M.trap n xs).1.2.1 (M.trap n xs).1.2.2

/-- What Now tells, in memory. -/
def MS.now (M : MS) : Value := match M.cur with
  | none => nowV M.ph (-1) 0
  | some s => nowV M.ph s (M.S s).label


end Go.Proofs.Ytloppmepfkkblaa
end

section
/- What always holds of the tree of containers, and what follows for where slots and quanta lie. Without conditions. -/
open Go Go.RowKit
namespace Go.Proofs.Ytloppmepfkkblaa

def Th.inR (t : Th) (x : Int) : Prop := t.A ≤ x ∧ x < t.B
def Th.inQ (t : Th) (q : Int) : Prop := t.G ≤ q ∧ q < t.H
def Th.len (t : Th) : Int := t.B - t.A

/-- c lies within d. -/
structure inside (S : Nat → Th) (c d : Nat) : Prop where
  slot : (S d).inR c
  sub : ∀ x, (S c).inR x → (S d).inR x
  subq : ∀ q, (S c).inQ q → (S d).inQ q

theorem inside.trans {S : Nat → Th} {c d e : Nat} (h : inside S c d) (k : inside S d e) : inside S c e :=
  ⟨k.sub _ h.slot, fun x hx => k.sub x (h.sub x hx), fun q hq => k.subq q (h.subq q hq)⟩

structure Tree (S : Nat → Th) : Prop where
  root : (S 0).kind = 1 ∧ (S 0).A = 1 ∧ (S 0).B = 32 ∧ (S 0).G = 0 ∧ (S 0).H = 8 ∧ (S 0).label = 0
  rng : ∀ c, c < 32 → (S c).kind = 1 → 1 ≤ (S c).A ∧ (S c).A ≤ (S c).B ∧ (S c).B ≤ 32 ∧ 0 ≤ (S c).G ∧ (S c).G ≤ (S c).H ∧ (S c).H ≤ 8
  own : ∀ c, c < 32 → (S c).kind = 1 → ¬ (S c).inR c
  sib : ∀ c d, c < 32 → d < 32 → (S c).kind = 1 → (S d).kind = 1 → c ≠ d → ((∃ x, (S c).inR x ∧ (S d).inR x) ∨ (∃ q, (S c).inQ q ∧ (S d).inQ q) ∨ (S d).inR c) → inside S c d ∨ inside S d c
  oth : ∀ i, i < 32 → (S i).kind ≠ 1 → (S i).A = 0 ∧ (S i).B = 0 ∧ (S i).G = 0 ∧ (S i).H = 0
  wf : ∀ i, i < 32 → (S i).label < 256 ∧ (S i).owns < 256
  lab : ∀ s c, s < 32 → (S s).kind ≠ 0 → lies S s = some c → sub (S c).label (S s).label = true

section
variable {S : Nat → Th} {lo hi : Th → Int} {s : Int}

theorem seek_spec (S : Nat → Th) (lo hi : Th → Int) (s : Int) : ∀ k, (seek S lo hi s k = -1 ∧ ∀ d, d < k → (S d).kind = 1 → lo (S d) ≤ s → hi (S d) ≤ s) ∨
    ∃ c : Nat, c < k ∧ seek S lo hi s k = c ∧ (S c).kind = 1 ∧ lo (S c) ≤ s ∧ s < hi (S c) ∧ ∀ d, d < k → (S d).kind = 1 → lo (S d) ≤ s → s < hi (S d) → (S c).len ≤ (S d).len
  | 0 => Or.inl ⟨rfl, fun d hd => by omega⟩
  | k + 1 => by
    by_cases hk : (S k).kind ≠ 1 ∨ s < lo (S k) ∨ hi (S k) ≤ s
    · rw [seek_skip hk]
      rcases seek_spec S lo hi s k with ⟨h1, h2⟩ | ⟨c, hc, h1, h2, h3, h4, h5⟩
      · refine Or.inl ⟨h1, fun d hd hd1 hd2 => ?_⟩
        by_cases e : d = k
        · subst e
          rcases hk with h | h | h
          · exact absurd hd1 h
          · omega
          · exact h
        · exact h2 d (by omega) hd1 hd2
      · refine Or.inr ⟨c, by omega, h1, h2, h3, h4, fun d hd hd1 hd2 hd3 => ?_⟩
        by_cases e : d = k
        · subst e
          rcases hk with h | h | h
          · exact absurd hd1 h
          · omega
          · omega
        · exact h5 d (by omega) hd1 hd2 hd3
    · have k1 : (S k).kind = 1 := Classical.not_not.1 (fun h => hk (Or.inl h))
      have k2 : lo (S k) ≤ s := Int.not_lt.1 (fun h => hk (Or.inr (Or.inl h)))
      have k3 : s < hi (S k) := Int.not_le.1 (fun h => hk (Or.inr (Or.inr h)))
      rcases seek_spec S lo hi s k with ⟨h1, h2⟩ | ⟨c, hc, h1, h2, h3, h4, h5⟩
      · refine Or.inr ⟨k, by omega, seek_take k1 k2 k3 (Or.inl (by omega)), k1, k2, k3, fun d hd hd1 hd2 hd3 => ?_⟩
        by_cases e : d = k
        · subst e; exact Int.le_refl _
        · have := h2 d (by omega) hd1 hd2; omega
      · by_cases hlt : (S k).B - (S k).A < (S c).B - (S c).A
        · refine Or.inr ⟨k, by omega, seek_take k1 k2 k3 (Or.inr (by rw [h1, Int.toNat_natCast]; exact hlt)), k1, k2, k3, fun d hd hd1 hd2 hd3 => ?_⟩
          by_cases e : d = k
          · subst e; exact Int.le_refl _
          · have := h5 d (by omega) hd1 hd2 hd3
            unfold Th.len at *
            omega
        · refine Or.inr ⟨c, by omega, seek_stay h1 (by omega), h2, h3, h4, fun d hd hd1 hd2 hd3 => ?_⟩
          by_cases e : d = k
          · subst e; unfold Th.len; omega
          · exact h5 d (by omega) hd1 hd2 hd3

theorem lies_spec {c : Nat} (h : lies S s = some c) : c < 32 ∧ (S c).kind = 1 ∧ (S c).inR s ∧ ∀ d, d < 32 → (S d).kind = 1 → (S d).inR s → (S c).len ≤ (S d).len := by
  rcases seek_spec S Th.A Th.B s 32 with ⟨h1, _⟩ | ⟨d, hd, h1, h2, h3, h4, h5⟩
  · unfold lies at h; rw [h1] at h; simp at h
  · unfold lies at h
    rw [h1, if_neg (by omega), Int.toNat_natCast] at h
    injection h with h
    subst h
    exact ⟨hd, h2, ⟨h3, h4⟩, fun d hd h6 h7 => h5 d hd h6 h7.1 h7.2⟩

theorem has_spec {c : Nat} (h : has S s = some c) : c < 32 ∧ (S c).kind = 1 ∧ (S c).inQ s ∧ ∀ d, d < 32 → (S d).kind = 1 → (S d).inQ s → (S c).len ≤ (S d).len := by
  rcases seek_spec S Th.G Th.H s 32 with ⟨h1, _⟩ | ⟨d, hd, h1, h2, h3, h4, h5⟩
  · unfold has at h; rw [h1] at h; simp at h
  · unfold has at h
    rw [h1, if_neg (by omega), Int.toNat_natCast] at h
    injection h with h
    subst h
    exact ⟨hd, h2, ⟨h3, h4⟩, fun d hd h6 h7 => h5 d hd h6 h7.1 h7.2⟩

theorem lies_some {c : Nat} (hc : c < 32) (h1 : (S c).kind = 1) (h2 : (S c).inR s) : ∃ d, lies S s = some d := by
  rcases seek_spec S Th.A Th.B s 32 with ⟨_, h⟩ | ⟨d, hd, h, _⟩
  · have := h c hc h1 h2.1
    have := h2.2
    omega
  · exact ⟨d, by unfold lies; rw [h, if_neg (by omega), Int.toNat_natCast]⟩

theorem has_some {c : Nat} (hc : c < 32) (h1 : (S c).kind = 1) (h2 : (S c).inQ s) : ∃ d, has S s = some d := by
  rcases seek_spec S Th.G Th.H s 32 with ⟨_, h⟩ | ⟨d, hd, h, _⟩
  · have := h c hc h1 h2.1
    have := h2.2
    omega
  · exact ⟨d, by unfold has; rw [h, if_neg (by omega), Int.toNat_natCast]⟩
end

section
variable {S : Nat → Th} (h : Tree S)
include h

theorem Tree.len_pos {c : Nat} (hc : c < 32) (h1 : (S c).kind = 1) : 0 ≤ (S c).len ∧ (S c).len ≤ 31 := by
  have := h.rng c hc h1
  unfold Th.len
  omega

theorem Tree.len_lt {c d : Nat} (hc : c < 32) (h1 : (S c).kind = 1) (hd : d < 32) (h2 : (S d).kind = 1) (hi : inside S c d) : (S c).len < (S d).len := by
  have r1 := h.rng c hc h1
  have r2 := h.rng d hd h2
  have o1 := h.own c hc h1
  have s1 := hi.slot
  unfold Th.inR at o1 s1
  unfold Th.len
  by_cases e : (S c).A = (S c).B
  · omega
  · have a1 := hi.sub (S c).A ⟨Int.le_refl _, by omega⟩
    have a2 := hi.sub ((S c).B - 1) ⟨by omega, by omega⟩
    unfold Th.inR at a1 a2
    omega

theorem Tree.slot_inside {c d : Nat} (hc : c < 32) (h1 : (S c).kind = 1) (hd : d < 32) (h2 : (S d).kind = 1) (hs : (S d).inR c) : inside S c d := by
  have hne : c ≠ d := fun e => h.own c hc h1 (e ▸ hs)
  rcases h.sib c d hc hd h1 h2 hne (Or.inr (Or.inr hs)) with h3 | h3
  · exact h3
  · exact absurd (h3.sub _ hs) (h.own c hc h1)

/-- The innermost one is within each other one. -/
theorem Tree.lies_inside {s : Int} {c d : Nat} (hl : lies S s = some c) (hd : d < 32) (h2 : (S d).kind = 1) (hs : (S d).inR s) : d = c ∨ inside S c d := by
  obtain ⟨hc, h1, h3, h4⟩ := lies_spec hl
  by_cases e : d = c
  · exact Or.inl e
  · rcases h.sib c d hc hd h1 h2 (Ne.symm e) (Or.inl ⟨s, h3, hs⟩) with h5 | h5
    · exact Or.inr h5
    · have := h.len_lt hd h2 hc h1 h5
      have := h4 d hd h2 hs
      omega

theorem Tree.has_inside {s : Int} {c d : Nat} (hl : has S s = some c) (hd : d < 32) (h2 : (S d).kind = 1) (hs : (S d).inQ s) : d = c ∨ inside S c d := by
  obtain ⟨hc, h1, h3, h4⟩ := has_spec hl
  by_cases e : d = c
  · exact Or.inl e
  · rcases h.sib c d hc hd h1 h2 (Ne.symm e) (Or.inr (Or.inl ⟨s, h3, hs⟩)) with h5 | h5
    · exact Or.inr h5
    · have := h.len_lt hd h2 hc h1 h5
      have := h4 d hd h2 hs
      omega

theorem Tree.lies_of {s : Int} {c : Nat} (hc : c < 32) (h1 : (S c).kind = 1) (h2 : (S c).inR s) (h3 : ∀ d, d < 32 → (S d).kind = 1 → (S d).inR s → d = c ∨ inside S c d) : lies S s = some c := by
  obtain ⟨d, hd⟩ := lies_some hc h1 h2
  obtain ⟨h4, h5, h6, h7⟩ := lies_spec hd
  rcases h3 d h4 h5 h6 with rfl | h8
  · exact hd
  · have := h.len_lt hc h1 h4 h5 h8
    have := h7 c hc h1 h2
    omega

theorem Tree.has_of {s : Int} {c : Nat} (hc : c < 32) (h1 : (S c).kind = 1) (h2 : (S c).inQ s) (h3 : ∀ d, d < 32 → (S d).kind = 1 → (S d).inQ s → d = c ∨ inside S c d) : has S s = some c := by
  obtain ⟨d, hd⟩ := has_some hc h1 h2
  obtain ⟨h4, h5, h6, h7⟩ := has_spec hd
  rcases h3 d h4 h5 h6 with rfl | h8
  · exact hd
  · have := h.len_lt hc h1 h4 h5 h8
    have := h7 c hc h1 h2
    omega

theorem Tree.lies_root {s : Nat} (h1 : 1 ≤ s) (h2 : s < 32) : ∃ c, lies S s = some c := by
  obtain ⟨r1, r2, r3, _⟩ := h.root
  exact lies_some (c := 0) (by omega) r1 ⟨by rw [r2]; omega, by rw [r3]; omega⟩

theorem Tree.lies_zero : lies S ((0 : Nat) : Int) = none := by
  rcases hl : lies S ((0 : Nat) : Int) with _ | c
  · rfl
  · obtain ⟨h1, h2, h3, _⟩ := lies_spec hl
    have := h.rng c h1 h2
    have := h3.1
    omega

theorem Tree.has_root {q : Nat} (h2 : q < 8) : ∃ c, has S q = some c := by
  obtain ⟨r1, r2, r3, r4, r5, _⟩ := h.root
  exact has_some (c := 0) (by omega) r1 ⟨by rw [r4]; omega, by rw [r5]; omega⟩

theorem Tree.deepC : ∀ (n c : Nat), c < 32 → (S c).kind = 1 → 33 ≤ (n : Int) + (S c).len → deep S n c
  | 0, c, hc, h1, hn => by have := h.len_pos hc h1; omega
  | n + 1, c, hc, h1, hn => by
    unfold deep
    rcases hl : lies S c with _ | d
    · trivial
    · obtain ⟨h4, h5, h6, _⟩ := lies_spec hl
      have := h.len_lt hc h1 h4 h5 (h.slot_inside hc h1 h4 h5 h6)
      exact Tree.deepC n d h4 h5 (by omega)

theorem Tree.deep (s : Int) : deep S DEEP s := by
  unfold DEEP Go.Proofs.Ytloppmepfkkblaa.deep
  rcases hl : lies S s with _ | d
  · trivial
  · obtain ⟨h4, h5, h6, _⟩ := lies_spec hl
    have := h.len_pos h4 h5
    exact h.deepC 39 d h4 h5 (by omega)
end

end Go.Proofs.Ytloppmepfkkblaa
end

section
/- What is made, and what goes, keeps the tree. Without conditions. -/
open Go Go.RowKit
namespace Go.Proofs.Ytloppmepfkkblaa

/-- The same containers, with the same ranges. -/
def SameC (S S' : Nat → Th) : Prop := ∀ i, i < 32 → ((S' i).kind = 1 ↔ (S i).kind = 1) ∧ ((S i).kind = 1 → (S' i).A = (S i).A ∧ (S' i).B = (S i).B ∧ (S' i).G = (S i).G ∧ (S' i).H = (S i).H)

theorem seek_at (S : Nat → Th) (lo hi : Th → Int) (s : Int) {k : Nat} (h : ¬ seek S lo hi s k < 0) : (S (seek S lo hi s k).toNat).kind = 1 ∧ (seek S lo hi s k).toNat < k := by
  rcases seek_spec S lo hi s k with ⟨h1, _⟩ | ⟨c, hc, h1, h2, _⟩
  · omega
  · rw [h1, Int.toNat_natCast]; exact ⟨h2, hc⟩

theorem seek_congr {S S' : Nat → Th} {lo hi : Th → Int} {s : Int} (hk : ∀ i, i < 32 → ((S' i).kind = 1 ↔ (S i).kind = 1)) (hr : ∀ i, i < 32 → (S i).kind = 1 → lo (S' i) = lo (S i) ∧ hi (S' i) = hi (S i) ∧ (S' i).A = (S i).A ∧ (S' i).B = (S i).B) :
    ∀ k, k ≤ 32 → seek S' lo hi s k = seek S lo hi s k
  | 0, _ => rfl
  | k + 1, hk32 => by
    have ih := seek_congr hk hr (lo := lo) (hi := hi) (s := s) k (by omega)
    unfold seek
    by_cases h1 : (S k).kind = 1
    · obtain ⟨e1, e2, e3, e4⟩ := hr k (by omega) h1
      rw [ih, e1, e2, e3, e4]
      have h1' := (hk k (by omega)).2 h1
      by_cases h2 : s < lo (S k) ∨ hi (S k) ≤ s
      · rw [if_pos (Or.inr h2), if_pos (Or.inr h2)]
      · have n1 : ¬ ((S' k).kind ≠ 1 ∨ s < lo (S k) ∨ hi (S k) ≤ s) := fun h => h.elim (fun h => h h1') h2
        have n2 : ¬ ((S k).kind ≠ 1 ∨ s < lo (S k) ∨ hi (S k) ≤ s) := fun h => h.elim (fun h => h h1) h2
        rw [if_neg n1, if_neg n2]
        by_cases h3 : seek S lo hi s k < 0
        · rw [if_pos (Or.inl h3), if_pos (Or.inl h3)]
        · obtain ⟨h4, h5⟩ := seek_at S lo hi s h3
          obtain ⟨_, _, e5, e6⟩ := hr _ (by omega) h4
          rw [e5, e6]
    · have h1' : ¬ (S' k).kind = 1 := fun h => h1 ((hk k (by omega)).1 h)
      rw [if_pos (Or.inl h1), if_pos (Or.inl h1')]
      exact ih

theorem lies_congr {S S' : Nat → Th} (h : SameC S S') (s : Int) : lies S' s = lies S s := by
  unfold lies
  rw [seek_congr (fun i hi => (h i hi).1) (fun i hi h1 => by obtain ⟨a, b, c, d⟩ := (h i hi).2 h1; exact ⟨a, b, a, b⟩) 32 (Nat.le_refl _)]
theorem has_congr {S S' : Nat → Th} (h : SameC S S') (s : Int) : has S' s = has S s := by
  unfold has
  rw [seek_congr (fun i hi => (h i hi).1) (fun i hi h1 => by obtain ⟨a, b, c, d⟩ := (h i hi).2 h1; exact ⟨c, d, a, b⟩) 32 (Nat.le_refl _)]

theorem sameC_upd {S : Nat → Th} {s : Nat} {t : Th} (h1 : (S s).kind ≠ 1) (h2 : t.kind ≠ 1) : SameC S (upd S s t) := fun i _ => by
  by_cases e : i = s
  · subst e
    rw [upd_same]
    exact ⟨⟨fun h => absurd h h2, fun h => absurd h h1⟩, fun h => absurd h h1⟩
  · rw [upd_ne _ _ e]
    exact ⟨Iff.rfl, fun _ => ⟨rfl, rfl, rfl, rfl⟩⟩

theorem inside_congr {S S' : Nat → Th} {c d : Nat} (hc : (S' c).A = (S c).A ∧ (S' c).B = (S c).B ∧ (S' c).G = (S c).G ∧ (S' c).H = (S c).H) (hd : (S' d).A = (S d).A ∧ (S' d).B = (S d).B ∧ (S' d).G = (S d).G ∧ (S' d).H = (S d).H)
    (h : inside S c d) : inside S' c d := by
  obtain ⟨a1, a2, a3, a4⟩ := hc
  obtain ⟨b1, b2, b3, b4⟩ := hd
  refine ⟨?_, fun x hx => ?_, fun q hq => ?_⟩
  · unfold Th.inR; rw [b1, b2]; exact h.slot
  · unfold Th.inR at *; rw [b1, b2]; rw [a1, a2] at hx; exact h.sub x hx
  · unfold Th.inQ at *; rw [b3, b4]; rw [a3, a4] at hq; exact h.subq q hq

/-- Something that is no container in the place of something that is none. -/
theorem Tree.upd {S : Nat → Th} (h : Tree S) {s : Nat} {t : Th} (h1 : (S s).kind ≠ 1) (h2 : t.kind ≠ 1) (h3 : t.A = 0 ∧ t.B = 0 ∧ t.G = 0 ∧ t.H = 0) (h4 : t.label < 256 ∧ t.owns < 256)
    (h5 : t.kind ≠ 0 → ∀ c, lies S s = some c → sub (S c).label t.label = true) : Tree (upd S s t) := by
  have hS := sameC_upd h1 h2 (S := S)
  have hk : ∀ i, (Go.Proofs.Ytloppmepfkkblaa.upd S s t i).kind = 1 → Go.Proofs.Ytloppmepfkkblaa.upd S s t i = S i := fun i hi => by
    by_cases e : i = s
    · subst e; rw [upd_same] at hi; exact absurd hi h2
    · exact upd_ne _ _ e
  have hs0 : s ≠ 0 := fun e => h1 (e ▸ h.root.1)
  refine ⟨?_, fun c hc hc1 => ?_, fun c hc hc1 => ?_, fun c d hc hd hc1 hd1 hne hx => ?_, fun i hi hi1 => ?_, fun i hi => ?_, fun x c hx hx1 hl => ?_⟩
  · rw [upd_ne _ _ (Ne.symm hs0)]; exact h.root
  · have e := hk c hc1; rw [e] at hc1 ⊢; exact h.rng c hc hc1
  · have e := hk c hc1; rw [e] at hc1 ⊢; exact h.own c hc hc1
  · have e := hk c hc1
    have e' := hk d hd1
    rw [e] at hc1
    rw [e'] at hd1
    rw [e, e'] at hx
    rcases h.sib c d hc hd hc1 hd1 hne hx with h6 | h6
    · exact Or.inl (inside_congr (by rw [e]; exact ⟨rfl, rfl, rfl, rfl⟩) (by rw [e']; exact ⟨rfl, rfl, rfl, rfl⟩) h6)
    · exact Or.inr (inside_congr (by rw [e']; exact ⟨rfl, rfl, rfl, rfl⟩) (by rw [e]; exact ⟨rfl, rfl, rfl, rfl⟩) h6)
  · by_cases e : i = s
    · subst e; rw [upd_same]; exact h3
    · rw [upd_ne _ _ e] at hi1 ⊢; exact h.oth i hi hi1
  · by_cases e : i = s
    · subst e; rw [upd_same]; exact h4
    · rw [upd_ne _ _ e]; exact h.wf i hi
  · rw [lies_congr hS] at hl
    have hc1 := (lies_spec hl).2.1
    have hcs : c ≠ s := fun e => h1 (e ▸ hc1)
    rw [upd_ne _ _ hcs]
    by_cases e : x = s
    · subst e; rw [upd_same] at hx1 ⊢; exact h5 hx1 c hl
    · rw [upd_ne _ _ e] at hx1 ⊢; exact h.lab x c hx hx1 hl

/-- What the making of a container asks of its ranges. -/
structure Roomy (S : Nat → Th) (c s a e g k : Nat) : Prop where
  own : ¬ (a ≤ s ∧ s < e)
  slots : ∀ i, a ≤ i → i < e → (S i).kind = 0 ∧ lies S i = some c
  quanta : ∀ q, g ≤ q → q < k → has S q = some c

theorem seek_more {S : Nat → Th} {lo hi : Th → Int} {x : Int} {s : Nat} {t : Th} (h1 : (S s).kind ≠ 1) (h2 : x < lo t ∨ hi t ≤ x) : ∀ k, seek (upd S s t) lo hi x k = seek S lo hi x k
  | 0 => rfl
  | k + 1 => by
    have ih := seek_more (x := x) h1 h2 k (lo := lo) (hi := hi)
    by_cases e : k = s
    · subst e
      rw [seek_skip (Or.inl h1), seek_skip (by rw [upd_same]; exact Or.inr h2), ih]
    · unfold seek
      rw [ih, upd_ne _ _ e]
      by_cases h3 : seek S lo hi x k < 0
      · simp only [h3, true_or, if_true]
      · have h4 := (seek_at S lo hi x h3).1
        have hne : (seek S lo hi x k).toNat ≠ s := fun e => h1 (e ▸ h4)
        rw [upd_ne _ _ hne]

theorem lies_more {S : Nat → Th} {x : Int} {s : Nat} {t : Th} (h1 : (S s).kind ≠ 1) (h2 : ¬ t.inR x) : lies (upd S s t) x = lies S x := by
  unfold lies
  rw [seek_more h1 (by unfold Th.inR at h2; omega)]
theorem has_more {S : Nat → Th} {x : Int} {s : Nat} {t : Th} (h1 : (S s).kind ≠ 1) (h2 : ¬ t.inQ x) : has (upd S s t) x = has S x := by
  unfold has
  rw [seek_more h1 (by unfold Th.inQ at h2; omega)]

theorem Tree.cont {S : Nat → Th} (h : Tree S) {c s l a e g k : Nat} (hs : s < 32) (hk : (S s).kind = 0) (hl : lies S s = some c) (hr : Roomy S c s a e g k) (ha : 1 ≤ a) (hae : a ≤ e) (he : e ≤ 32) (hgk : g ≤ k) (hk8 : k ≤ 8) (hlab : l < 256) (hsub : sub (S c).label l = true) :
    Tree (Go.Proofs.Ytloppmepfkkblaa.upd S s (contT l a e g k)) := by
  obtain ⟨hc, hc1, hc2, _⟩ := lies_spec hl
  have hne1 : (S s).kind ≠ 1 := by omega
  have hcs : c ≠ s := fun e => hne1 (e ▸ hc1)
  have hs0 : s ≠ 0 := fun e => hne1 (e ▸ h.root.1)
  have hRx : ∀ x : Int, (contT l a e g k).inR x → ∃ i : Nat, x = i ∧ a ≤ i ∧ i < e := fun x hx => by
    unfold Th.inR contT at hx
    dsimp only at hx
    exact ⟨x.toNat, by omega, by omega, by omega⟩
  have hQx : ∀ x : Int, (contT l a e g k).inQ x → ∃ i : Nat, x = i ∧ g ≤ i ∧ i < k := fun x hx => by
    unfold Th.inQ contT at hx
    dsimp only at hx
    exact ⟨x.toNat, by omega, by omega, by omega⟩
  have hin : ∀ d, d < 32 → (S d).kind = 1 → (d = c ∨ inside S c d) → inside (Go.Proofs.Ytloppmepfkkblaa.upd S s (contT l a e g k)) s d := fun d hd hd1 hcd => by
    have hds : d ≠ s := fun e => hne1 (e ▸ hd1)
    have sR : ∀ x, (S c).inR x → (S d).inR x := fun x hx => by
      rcases hcd with rfl | hcd
      · exact hx
      · exact hcd.sub x hx
    have sQ : ∀ x, (S c).inQ x → (S d).inQ x := fun x hx => by
      rcases hcd with rfl | hcd
      · exact hx
      · exact hcd.subq x hx
    refine ⟨?_, fun x hx => ?_, fun x hx => ?_⟩
    · rw [upd_ne _ _ hds]; exact sR _ hc2
    · rw [upd_same] at hx
      rw [upd_ne _ _ hds]
      obtain ⟨i, rfl, hi1, hi2⟩ := hRx x hx
      exact sR _ (lies_spec (hr.slots i hi1 hi2).2).2.2.1
    · rw [upd_same] at hx
      rw [upd_ne _ _ hds]
      obtain ⟨i, rfl, hi1, hi2⟩ := hQx x hx
      exact sQ _ (has_spec (hr.quanta i hi1 hi2)).2.2.1
  have hnew : ∀ d, d < 32 → (S d).kind = 1 → ((∃ x, (contT l a e g k).inR x ∧ (S d).inR x) ∨ (∃ q, (contT l a e g k).inQ q ∧ (S d).inQ q) ∨ (S d).inR s) → inside (Go.Proofs.Ytloppmepfkkblaa.upd S s (contT l a e g k)) s d := fun d hd hd1 hx => by
    rcases hx with ⟨x, hx1, hx2⟩ | ⟨x, hx1, hx2⟩ | hx
    · obtain ⟨i, rfl, hi1, hi2⟩ := hRx x hx1
      exact hin d hd hd1 (h.lies_inside (hr.slots i hi1 hi2).2 hd hd1 hx2)
    · obtain ⟨i, rfl, hi1, hi2⟩ := hQx x hx1
      exact hin d hd hd1 (h.has_inside (hr.quanta i hi1 hi2) hd hd1 hx2)
    · exact hin d hd hd1 (h.lies_inside hl hd hd1 hx)
  have hold : ∀ c d, c ≠ s → d ≠ s → inside S c d → inside (Go.Proofs.Ytloppmepfkkblaa.upd S s (contT l a e g k)) c d := fun c d h1 h2 h3 =>
    inside_congr (by rw [upd_ne _ _ h1]; exact ⟨rfl, rfl, rfl, rfl⟩) (by rw [upd_ne _ _ h2]; exact ⟨rfl, rfl, rfl, rfl⟩) h3
  refine ⟨?_, fun d hd hd1 => ?_, fun d hd hd1 => ?_, fun d f hd hf hd1 hf1 hne hx => ?_, fun i hi hi1 => ?_, fun i hi => ?_, fun x d hx hx1 hld => ?_⟩
  · rw [upd_ne _ _ (Ne.symm hs0)]; exact h.root
  · by_cases e1 : d = s
    · subst e1; rw [upd_same]; unfold contT; dsimp only; omega
    · rw [upd_ne _ _ e1] at hd1 ⊢; exact h.rng d hd hd1
  · by_cases e1 : d = s
    · subst e1; rw [upd_same]; intro hx; exact hr.own (by unfold Th.inR contT at hx; dsimp only at hx; omega)
    · rw [upd_ne _ _ e1] at hd1 ⊢; exact h.own d hd hd1
  · by_cases e1 : d = s
    · subst e1
      have hfd : f ≠ d := Ne.symm hne
      rw [upd_ne _ _ hfd] at hf1
      rw [upd_same, upd_ne _ _ hfd] at hx
      exact Or.inl (hnew f hf hf1 hx)
    · rw [upd_ne _ _ e1] at hd1
      by_cases e2 : f = s
      · subst e2
        rw [upd_same, upd_ne _ _ e1] at hx
        refine Or.inr (hnew d hd hd1 ?_)
        rcases hx with ⟨x, hx1, hx2⟩ | ⟨x, hx1, hx2⟩ | hx
        · exact Or.inl ⟨x, hx2, hx1⟩
        · exact Or.inr (Or.inl ⟨x, hx2, hx1⟩)
        · obtain ⟨i, hi, hi1, hi2⟩ := hRx _ hx
          have : d = i := by omega
          subst this
          have := (hr.slots d hi1 hi2).1
          omega
      · rw [upd_ne _ _ e2] at hf1
        rw [upd_ne _ _ e1, upd_ne _ _ e2] at hx
        rcases h.sib d f hd hf hd1 hf1 hne hx with h6 | h6
        · exact Or.inl (hold d f e1 e2 h6)
        · exact Or.inr (hold f d e2 e1 h6)
  · by_cases e1 : i = s
    · subst e1; rw [upd_same] at hi1; exact absurd rfl hi1
    · rw [upd_ne _ _ e1] at hi1 ⊢; exact h.oth i hi hi1
  · by_cases e1 : i = s
    · subst e1; rw [upd_same]; exact ⟨hlab, by unfold contT; simp⟩
    · rw [upd_ne _ _ e1]; exact h.wf i hi
  · have hnot : ¬ (contT l a e g k).inR x := fun hx2 => by
      obtain ⟨i, hi, hi1, hi2⟩ := hRx _ hx2
      have : x = i := by omega
      subst this
      by_cases e1 : x = s
      · exact hr.own (e1 ▸ ⟨hi1, hi2⟩)
      · rw [upd_ne _ _ e1] at hx1
        exact hx1 (hr.slots x hi1 hi2).1
    rw [lies_more hne1 hnot] at hld
    have hds : d ≠ s := fun e => hne1 (e ▸ (lies_spec hld).2.1)
    rw [upd_ne _ _ hds]
    by_cases e1 : x = s
    · subst e1
      rw [hl] at hld
      injection hld with hld
      subst hld
      rw [upd_same]
      exact hsub
    · rw [upd_ne _ _ e1] at hx1 ⊢; exact h.lab x d hx hx1 hld

/-- What stays when slot s goes. -/
theorem Tree.stays {S : Nat → Th} (h : Tree S) {s : Nat} (hs : s < 32) {x d : Nat} (hx : ¬ goes S s x) (hld : lies S x = some d) : ¬ goes S s d := by
  obtain ⟨hd, hd1, hd2, _⟩ := lies_spec hld
  intro hg
  rcases hg with rfl | ⟨hk, h1, h2⟩
  · exact hx (Or.inr ⟨hd1, hd2.1, hd2.2⟩)
  · have hi := h.slot_inside hd hd1 hs hk ⟨h1, h2⟩
    have := hi.sub _ hd2
    exact hx (Or.inr ⟨hk, this.1, this.2⟩)

def wiped (S : Nat → Th) (s : Nat) : Nat → Th := fun i => if goes S s i then fth else S i

theorem wiped_kind {S : Nat → Th} {s i : Nat} (h : (wiped S s i).kind = 1) : ¬ goes S s i ∧ wiped S s i = S i := by
  unfold wiped at *
  split at h
  · exact absurd h (by simp [fth])
  · rename_i h1; exact ⟨h1, if_neg h1⟩

theorem wiped_in {S : Nat → Th} {s i : Nat} (h : ¬ goes S s i) : wiped S s i = S i := if_neg h

theorem Tree.wiped {S : Nat → Th} (h : Tree S) {s : Nat} (hs : s < 32) (hs0 : s ≠ 0) : Tree (wiped S s) := by
  have h0 : ¬ goes S s 0 := by
    rintro (e | ⟨hk, h1, _⟩)
    · exact hs0 e.symm
    · have := h.rng s hs hk; omega
  have hT : ∀ c d, ¬ goes S s c → ¬ goes S s d → inside S c d → inside (Go.Proofs.Ytloppmepfkkblaa.wiped S s) c d := fun c d h1 h2 h3 =>
    inside_congr (by rw [wiped_in h1]; exact ⟨rfl, rfl, rfl, rfl⟩) (by rw [wiped_in h2]; exact ⟨rfl, rfl, rfl, rfl⟩) h3
  have pre : Tree (Go.Proofs.Ytloppmepfkkblaa.wiped S s) ∨ True := Or.inr trivial
  clear pre
  have hlies : ∀ x d : Nat, ¬ goes S s x → lies S x = some d → lies (Go.Proofs.Ytloppmepfkkblaa.wiped S s) x = some d := fun x d hx hld => by
    obtain ⟨hd, hd1, hd2, hd3⟩ := lies_spec hld
    have hdg := h.stays hs hx hld
    obtain ⟨f, hf⟩ := lies_some (S := Go.Proofs.Ytloppmepfkkblaa.wiped S s) (s := x) hd (by rw [wiped_in hdg]; exact hd1) (by rw [wiped_in hdg]; exact hd2)
    obtain ⟨f1, f2, f3, f4⟩ := lies_spec hf
    obtain ⟨g1, g2⟩ := wiped_kind f2
    rw [g2] at f2 f3
    rcases h.lies_inside hld f1 f2 f3 with e | e
    · rw [hf, e]
    · have := h.len_lt hd hd1 f1 f2 e
      have := f4 d hd (by rw [wiped_in hdg]; exact hd1) (by rw [wiped_in hdg]; exact hd2)
      rw [g2, wiped_in hdg] at this
      omega
  refine ⟨?_, fun c hc hc1 => ?_, fun c hc hc1 => ?_, fun c d hc hd hc1 hd1 hne hx => ?_, fun i hi hi1 => ?_, fun i hi => ?_, fun x c hx hx1 hl => ?_⟩
  · rw [wiped_in h0]; exact h.root
  · obtain ⟨_, e⟩ := wiped_kind hc1; rw [e] at hc1 ⊢; exact h.rng c hc hc1
  · obtain ⟨_, e⟩ := wiped_kind hc1; rw [e] at hc1 ⊢; exact h.own c hc hc1
  · obtain ⟨n1, e1⟩ := wiped_kind hc1
    obtain ⟨n2, e2⟩ := wiped_kind hd1
    rw [e1] at hc1
    rw [e2] at hd1
    rw [e1, e2] at hx
    rcases h.sib c d hc hd hc1 hd1 hne hx with h6 | h6
    · exact Or.inl (hT c d n1 n2 h6)
    · exact Or.inr (hT d c n2 n1 h6)
  · unfold Go.Proofs.Ytloppmepfkkblaa.wiped at hi1 ⊢
    split
    · simp [fth]
    · rename_i h1; rw [if_neg h1] at hi1; exact h.oth i hi hi1
  · unfold Go.Proofs.Ytloppmepfkkblaa.wiped
    split
    · simp [fth]
    · exact h.wf i hi
  · have hxg : ¬ goes S s x := fun hg => hx1 (by unfold Go.Proofs.Ytloppmepfkkblaa.wiped; rw [if_pos hg]; rfl)
    rw [wiped_in hxg] at hx1 ⊢
    have hx0 : x = 0 ∨ 1 ≤ x := by omega
    rcases hx0 with rfl | hx0
    · exfalso
      obtain ⟨f1, f2, f3, f4⟩ := lies_spec hl
      obtain ⟨_, e⟩ := wiped_kind f2
      rw [e] at f2 f3
      have := h.rng c f1 f2
      have := f3.1
      omega
    · obtain ⟨d, hd⟩ := h.lies_root hx0 hx
      have := hlies x d hxg hd
      rw [this] at hl
      injection hl with hl
      subst hl
      rw [wiped_in (h.stays hs hxg hd)]
      exact h.lab x d hx hx1 hd

end Go.Proofs.Ytloppmepfkkblaa
end
