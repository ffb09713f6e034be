/- Plain facts on labels, worlds and frames that the walks of this seat lean on. -/
import Derived.WalkKit
import Derived.WalkSpells
import Derived.WalkLawsBesides
import Derived.Below
import Derived.Deep.QuietTactic
import Derived.BigQuiet
import Derived.Laws.BitsAllLaws
open Go Go.RowKit
namespace Go.Proofs.Ytflniddofmnkaaa

theorem hide {p : Prop} (h : p) : Hid p := h
theorem unhide {p : Prop} (h : Hid p) : p := h

theorem ret_bool {a b : Bool} (h : a = b) : Ending.returned (.bool a) = .returned (.bool b) := by rw [h]
theorem ret_i64 {a b : Int} (h : a = b) : Ending.returned (.int .i64 a) = .returned (.int .i64 b) := by rw [h]

/-! ### labels: sets of categories as numbers -/

theorem ofInt_i64 (a : Nat) (ha : a < 18446744073709551616) : (BitVec.ofInt 64 (a : Int)).toNat = a := by
  rw [BitVec.ofInt_natCast, BitVec.toNat_ofNat]; exact Nat.mod_eq_of_lt (by omega)

theorem wrap_i64_small (n : Nat) (h : n < 256) : IntKind.i64.wrap (n : Int) = n := by
  simp [IntKind.wrap, IntKind.bits, IntKind.signed]
  omega

theorem or_lt {a b : Nat} (ha : a < 256) (hb : b < 256) : a ||| b < 256 := Nat.or_lt_two_pow (n := 8) ha hb
theorem and_lt {a : Nat} (b : Nat) (ha : a < 256) : a &&& b < 256 := Nat.lt_of_le_of_lt Nat.and_le_left ha

theorem i64_or (a b : Nat) (ha : a < 256) (hb : b < 256) : bits .or .i64 (a : Int) (b : Int) = ((a ||| b : Nat) : Int) := by
  show IntKind.i64.wrap ((BitVec.ofInt 64 (a : Int) ||| BitVec.ofInt 64 (b : Int)).toNat : Int) = _
  rw [BitVec.toNat_or, ofInt_i64 a (by omega), ofInt_i64 b (by omega), wrap_i64_small _ (or_lt ha hb)]

theorem i64_and (a b : Nat) (ha : a < 256) (hb : b < 256) : bits .and .i64 (a : Int) (b : Int) = ((a &&& b : Nat) : Int) := by
  show IntKind.i64.wrap ((BitVec.ofInt 64 (a : Int) &&& BitVec.ofInt 64 (b : Int)).toNat : Int) = _
  rw [BitVec.toNat_and, ofInt_i64 a (by omega), ofInt_i64 b (by omega), wrap_i64_small _ (and_lt b ha)]

/-- What of a label is not in another one. -/
def mis (x y : Nat) : Nat := x - (x &&& y)

theorem mis_le (x y : Nat) : mis x y ≤ x := Nat.sub_le _ _
theorem mis_lt {x : Nat} (y : Nat) (h : x < 256) : mis x y < 256 := Nat.lt_of_le_of_lt (mis_le x y) h

theorem bv_split (x y : BitVec 64) : (x &&& y) + (x &&& ~~~y) = x := by
  have h : (x &&& y) &&& (x &&& ~~~y) = 0#64 := by
    ext i hi
    simp
    cases x[i] <;> cases y[i] <;> simp
  rw [BitVec.add_eq_or_of_and_eq_zero _ _ h]
  ext i hi
  simp
  cases x[i] <;> cases y[i] <;> simp

theorem mis_bv (x y : Nat) (hx : x < 256) (hy : y < 256) : (BitVec.ofInt 64 (x : Int) &&& ~~~BitVec.ofInt 64 (y : Int)).toNat = mis x y := by
  have h := congrArg BitVec.toNat (bv_split (BitVec.ofInt 64 (x : Int)) (BitVec.ofInt 64 (y : Int)))
  rw [BitVec.toNat_add, BitVec.toNat_and (y := BitVec.ofInt 64 (y : Int)), ofInt_i64 x (by omega), ofInt_i64 y (by omega)] at h
  have h1 := and_lt y hx
  have h2 : (BitVec.ofInt 64 (x : Int) &&& ~~~BitVec.ofInt 64 (y : Int)).toNat ≤ x := by
    rw [BitVec.toNat_and, ofInt_i64 x (by omega)]; exact Nat.and_le_left
  unfold mis
  omega

theorem i64_andNot (a b : Nat) (ha : a < 256) (hb : b < 256) : bits .andNot .i64 (a : Int) (b : Int) = ((mis a b : Nat) : Int) := by
  show IntKind.i64.wrap ((BitVec.ofInt 64 (a : Int) &&& ~~~BitVec.ofInt 64 (b : Int)).toNat : Int) = _
  rw [mis_bv a b ha hb, wrap_i64_small _ (mis_lt b ha)]

/-- Is all of a label in another one? -/
def sub (a b : Nat) : Bool := a ||| b == b

theorem and_le_self (a b : Nat) : a &&& b ≤ a := Nat.and_le_left

/-! ### frames -/

/-- All blocks that were there are as they were, but those of a set; the streams are as they were. -/
structure Fr (S : Nat → Prop) (w w' : World) : Prop where
  os : w'.os = w.os
  tape : w'.tape = w.tape
  output : w'.output = w.output
  size : w.heap.size ≤ w'.heap.size
  block : ∀ k, k < w.heap.size → ¬ S k → w'.heap[k]? = w.heap[k]?

theorem Fr.refl (S : Nat → Prop) (w : World) : Fr S w w := ⟨rfl, rfl, rfl, Nat.le_refl _, fun _ _ _ => rfl⟩

theorem Fr.trans {S : Nat → Prop} {a b c : World} (h : Fr S a b) (k : Fr S b c) : Fr S a c :=
  ⟨k.os.trans h.os, k.tape.trans h.tape, k.output.trans h.output, Nat.le_trans h.size k.size,
   fun i hi hs => (k.block i (Nat.lt_of_lt_of_le hi h.size) hs).trans (h.block i hi hs)⟩

theorem Fr.mono {S S' : Nat → Prop} {w w' : World} (h : Fr S w w') (hs : ∀ k, k < w.heap.size → S k → S' k) : Fr S' w w' :=
  ⟨h.os, h.tape, h.output, h.size, fun k hk hn => h.block k hk fun hk' => hn (hs k hk hk')⟩

theorem Fr.of_below {S : Nat → Prop} {w w' : World} (h : Below w.heap.size w w') : Fr S w w' :=
  ⟨h.os, h.tape, h.output, h.size, fun k hk _ => h.block k hk⟩

theorem Fr.below {w w' : World} (h : Fr (fun _ => False) w w') : Below w.heap.size w w' :=
  ⟨h.os, h.tape, h.output, h.size, fun k hk => h.block k hk id⟩

theorem Fr.drewN {S : Nat → Prop} {a w : World} (h : Fr S a w) (n : Nat) : Fr S a (w.drewN n) := ⟨h.os, h.tape, h.output, h.size, h.block⟩
theorem Fr.drew {S : Nat → Prop} {a w : World} (h : Fr S a w) : Fr S a w.drew := ⟨h.os, h.tape, h.output, h.size, h.block⟩

theorem Fr.alloc {S : Nat → Prop} {a w : World} (h : Fr S a w) (o : Obj) : Fr S a (w.alloc o) :=
  h.trans ⟨rfl, rfl, rfl, by simp, fun k hk _ => Below.heap_alloc _ _ _ hk⟩

/-- A store into a block of the set, or into a new one. -/
theorem Fr.setCell {S : Nat → Prop} {a w : World} (h : Fr S a w) {p : Addr} (hp : S p.block ∨ a.heap.size ≤ p.block) (u : Value) : Fr S a (w.setCell p u) :=
  ⟨h.os, h.tape, h.output, by simpa [World.setCell] using h.size, fun k hk hs => by
    rw [Below.heap_setCell _ _ _ _ (fun e => by
      rcases hp with hp | hp
      · exact hs (e ▸ hp)
      · omega)]
    exact h.block k hk hs⟩

/-- A store into one block. -/
theorem Fr.own (w : World) (b n : Nat) (u : Value) : Fr (fun k => k = b) w (w.setCell ⟨b, n, none⟩ u) :=
  Fr.setCell (S := fun k => k = b) (p := ⟨b, n, none⟩) (Fr.refl _ w) (Or.inl rfl) u

/-- Stores into one block: below it nothing turns. -/
theorem Fr.below_of {b : Nat} {w w' : World} (h : Fr (fun k => k = b) w w') (hb : b < w.heap.size) : Below b w w' :=
  ⟨h.os, h.tape, h.output, h.size, fun k hk => h.block k (by omega) (by omega)⟩

/-- Behind a first part that turned new blocks too: those of the second part's set that are new count for nothing. -/
theorem Fr.trans' {S S' : Nat → Prop} {a b c : World} (h : Fr S a b) (k : Fr S' b c) (hs : ∀ i, i < a.heap.size → S' i → S i) : Fr S a c :=
  ⟨k.os.trans h.os, k.tape.trans h.tape, k.output.trans h.output, Nat.le_trans h.size k.size,
   fun i hi hn => (k.block i (Nat.lt_of_lt_of_le hi h.size) (fun h' => hn (hs i hi h'))).trans (h.block i hi hn)⟩

/-! ### blocks that are known whole -/

/-- Block b holds these cells, and may be written. -/
def Blk (w : World) (b : Nat) (cs : Array Value) : Prop := ∃ T : TypeId, w.heap[b]? = some (.cells cs T (0, 0))

theorem Blk.lt {w : World} {b : Nat} {cs : Array Value} (h : Blk w b cs) : b < w.heap.size := by
  obtain ⟨T, h1⟩ := h
  exact (Array.getElem?_eq_some_iff.1 h1).1

theorem Blk.cell {w : World} {b : Nat} {cs : Array Value} (h : Blk w b cs) (n : Nat) : w.cell? ⟨b, n, none⟩ = cs[n]? := by
  obtain ⟨T, h1⟩ := h
  simp [World.cell?, h1]

theorem Blk.frozen {w : World} {b : Nat} {cs : Array Value} (h : Blk w b cs) (n : Nat) : w.frozen? ⟨b, n, none⟩ = false := by
  obtain ⟨T, h1⟩ := h
  simp [World.frozen?, h1]

theorem Blk.same {w w' : World} {b : Nat} {cs : Array Value} (h : Blk w b cs) (e : w'.heap[b]? = w.heap[b]?) : Blk w' b cs := by
  obtain ⟨T, h1⟩ := h
  exact ⟨T, e.trans h1⟩

theorem Blk.fr {S : Nat → Prop} {w w' : World} {b : Nat} {cs : Array Value} (h : Blk w b cs) (f : Fr S w w') (hs : ¬ S b) : Blk w' b cs :=
  h.same (f.block b h.lt hs)

theorem Blk.below {w w' : World} {b B : Nat} {cs : Array Value} (h : Blk w b cs) (f : Below B w w') (hs : b < B) : Blk w' b cs :=
  h.same (f.block b hs)

theorem Blk.drewN {w : World} {b : Nat} {cs : Array Value} (h : Blk w b cs) (n : Nat) : Blk (w.drewN n) b cs := h.same rfl
theorem Blk.drew {w : World} {b : Nat} {cs : Array Value} (h : Blk w b cs) : Blk w.drew b cs := h.same rfl

theorem Blk.alloc {w : World} {b : Nat} {cs : Array Value} (h : Blk w b cs) (o : Obj) : Blk (w.alloc o) b cs := h.same (Below.heap_alloc _ _ _ h.lt)

theorem Blk.new (w : World) (cs : Array Value) (T : TypeId) : Blk (w.alloc (.cells cs T)) w.heap.size cs :=
  ⟨T, by show (w.heap.push _)[w.heap.size]? = _; simp⟩

theorem Blk.new' {w : World} {cs : Array Value} {T : TypeId} {g : Nat} (h : g = w.heap.size) : Blk (w.alloc (.cells cs T)) g cs := h ▸ Blk.new w cs T

theorem Blk.set {w : World} {b : Nat} {cs : Array Value} (h : Blk w b cs) (n : Nat) (v : Value) : Blk (w.setCell ⟨b, n, none⟩ v) b (cs.setIfInBounds n v) := by
  obtain ⟨T, h1⟩ := h
  refine ⟨T, ?_⟩
  simp only [World.setCell, Array.getElem?_modify, if_true, h1]
  rfl

theorem Blk.apart {w : World} {b : Nat} {cs : Array Value} (h : Blk w b cs) {p : Addr} (hp : b ≠ p.block) (v : Value) : Blk (w.setCell p v) b cs :=
  h.same (Below.heap_setCell _ _ _ _ hp)

theorem cell_same' {w w' : World} {b : Nat} (e : w'.heap[b]? = w.heap[b]?) (n : Nat) : w'.cell? ⟨b, n, none⟩ = w.cell? ⟨b, n, none⟩ := by
  simp only [World.cell?, e]
theorem frozen_same' {w w' : World} {b : Nat} (e : w'.heap[b]? = w.heap[b]?) (n : Nat) : w'.frozen? ⟨b, n, none⟩ = w.frozen? ⟨b, n, none⟩ := by
  simp only [World.frozen?, e]

/-! ### regions that draw their order, read, and call what makes memory alone -/

/-- Worlds in which all that was there is as it was. -/
def Later (w : World) : Type := { w1 : World // Below w.heap.size w w1 }

theorem later_cell {w : World} {b n : Nat} {v : Value} (h : w.cell? ⟨b, n, none⟩ = some v) (hb : b < w.heap.size) (x : Later w) : x.1.cell? ⟨b, n, none⟩ = some v := by
  have e := x.2.block b hb
  simp only [World.cell?, e] at *
  exact h

theorem Calls.later_of {P : Program} {f : FuncId} {args : Array Value} {w : World} {x : Later w} {v : Value}
    (h : Calls P f args x.1 fun e w' => e = .returned v ∧ Below x.1.heap.size x.1 w') : Calls P f args x.1 fun e w'' => e = .returned v ∧ ∃ y : Later w, w'' = y.1 :=
  h.mono fun _ w' ⟨he, hb⟩ => ⟨he, ⟨w', x.2.trans (hb.mono x.2.size)⟩, rfl⟩

theorem Calls.later_same {P : Program} {f : FuncId} {args : Array Value} {w : World} {x : Later w} {v : Value}
    (h : Calls P f args x.1 fun e w' => e = .returned v ∧ w' = x.1) : Calls P f args x.1 fun e w'' => e = .returned v ∧ ∃ y : Later w, w'' = y.1 :=
  h.mono fun _ _ ⟨he, hb⟩ => ⟨he, x, hb⟩

theorem wp_region_later {P : Program} {id : Nat} {Q : Exit → Act → World → Prop} {a : Act} {w : World} {l : List Oper} (hm : P.follows .mixedOrders = true) (hB : Region.lexB .any l.toArray = true)
    (h : wpQuiet P l.toArray (fun w' => ∃ x : Later w, w' = x.1) (fun a' => ∀ w', (∃ x : Later w, w' = x.1) → Q .normal a' w') l a) : (Code.region id l.toArray true).wp P Q a w :=
  wp_region_quiet (C := fun w' => ∃ x : Later w, w' = x.1) hm hB ⟨⟨_, (Below.refl _ _).drew⟩, rfl⟩ (by simpa using h)

end Go.Proofs.Ytflniddofmnkaaa
