/- The program's kernel in memory. -/
import Derived.Test.YtflniddofmnkaaaPBase0
import Derived.Test.YtflniddofmnkaaaRefBase
import Derived.LaidEql
open Go Go.Proofs Go.RowKit
namespace Go.Proofs.Ytflniddofmnkaaa

/-- What stands in a slot: an interface value that points to the object in block g. -/
def obV (t : Th) (g : Nat) : Value :=
  if t.kind = 1 then .iface 116 (.pointer (some ⟨g, 0, none⟩))
  else if t.kind = 2 then .iface 75 (.pointer (some ⟨g, 0, none⟩))
  else if t.kind = 3 then .iface 136 (.pointer (some ⟨g, 0, none⟩))
  else .nilIface

def ints (l : List Int) : List Value := l.map (Value.int .i64)

/-- The cells of an object. -/
def obCells (i : Nat) (t : Th) (ws : List Int) : Array Value :=
  if t.kind = 1 then #[.int .i64 i, .int .i64 1, .int .i64 t.label, .int .i64 t.A, .int .i64 t.B, .int .i64 t.G, .int .i64 t.H]
  else if t.kind = 2 then #[.int .i64 i, .int .i64 2, .int .i64 t.label, .int .i64 t.owns, .bool t.awake]
  else (.int .i64 i :: .int .i64 3 :: .int .i64 t.label :: ints ws).toArray

/-- A pointer, or nil. -/
def ptrV : Option Nat → Value
  | none => .pointer none
  | some g => .pointer (some ⟨g, 0, none⟩)

/-- A quantum's thread: g's block, and whether it is the thread that lies in its slot. -/
def QOK (w : World) (kb : Nat) (S : Nat → Th) (ob : Nat → Nat) (o : Option Nat) (l : Option Nat) : Prop :=
  match o with
  | none => l = none
  | some g => g ≠ kb ∧ ∃ (sl : Nat) (lb ow : Nat) (aw : Bool), sl < 32 ∧ Blk w g #[.int .i64 sl, .int .i64 2, .int .i64 lb, .int .i64 ow, .bool aw] ∧ l = if (S sl).kind = 2 ∧ ob sl = g then some sl else none

/-- The program's kernel lies in block kb: what is in the slots (S, words ws) and which threads the quanta have (slots). -/
structure PK (w : World) (kb : Nat) (S : Nat → Th) (ws : Nat → List Int) (lq : Nat → Option Nat) (ph : Nat) (ob : Nat → Nat) (qp : Nat → Option Nat) : Prop where
  kern : ∃ cs : Array Value, Blk w kb cs ∧ cs.size = 41 ∧ (∀ i, i < 32 → cs[i]? = some (obV (S i) (ob i))) ∧ (∀ q, q < 8 → cs[32 + q]? = some (ptrV (qp q))) ∧ cs[40]? = some (Value.int .i64 ph)
  obs : ∀ i, i < 32 → (S i).kind ≠ 0 → Blk w (ob i) (obCells i (S i) (ws i))
  kinds : ∀ i, i < 32 → (S i).kind = 0 ∨ (S i).kind = 1 ∨ (S i).kind = 2 ∨ (S i).kind = 3
  inj : ∀ i j, i < 32 → j < 32 → (S i).kind ≠ 0 → (S j).kind ≠ 0 → ob i = ob j → i = j
  off : ∀ i, i < 32 → (S i).kind ≠ 0 → ob i ≠ kb
  quanta : ∀ q, q < 8 → QOK w kb S ob (qp q) (lq q)
  ph8 : ph < 8
  segs : ∀ i, i < 32 → (S i).kind = 3 → (ws i).length = 8
  wf : ∀ i, i < 32 → (S i).wf

section
variable {w : World} {kb : Nat} {S : Nat → Th} {ws : Nat → List Int} {lq : Nat → Option Nat} {ph : Nat} {ob : Nat → Nat} {qp : Nat → Option Nat}

theorem PK.lt (h : PK w kb S ws lq ph ob qp) : kb < w.heap.size := by
  obtain ⟨cs, h1, _⟩ := h.kern
  exact h1.lt

theorem PK.slot (h : PK w kb S ws lq ph ob qp) {i : Nat} (hi : i < 32) : w.cell? ⟨kb, i, none⟩ = some (obV (S i) (ob i)) := by
  obtain ⟨cs, h1, _, h3, _⟩ := h.kern
  rw [h1.cell, h3 i hi]

theorem PK.quant (h : PK w kb S ws lq ph ob qp) {q : Nat} (hq : q < 8) : w.cell? ⟨kb, 32 + q, none⟩ = some (ptrV (qp q)) := by
  obtain ⟨cs, h1, _, _, h4, _⟩ := h.kern
  rw [h1.cell, h4 q hq]

theorem PK.phase (h : PK w kb S ws lq ph ob qp) : w.cell? ⟨kb, 40, none⟩ = some (.int .i64 ph) := by
  obtain ⟨cs, h1, _, _, _, h5⟩ := h.kern
  rw [h1.cell, h5]

theorem PK.frozen (h : PK w kb S ws lq ph ob qp) (n : Nat) : w.frozen? ⟨kb, n, none⟩ = false := by
  obtain ⟨cs, h1, _⟩ := h.kern
  exact h1.frozen n

/-- What all objects have. -/
theorem PK.base (h : PK w kb S ws lq ph ob qp) {i : Nat} (hi : i < 32) (hk : (S i).kind ≠ 0) :
    w.cell? ⟨ob i, 0, none⟩ = some (.int .i64 i) ∧ w.cell? ⟨ob i, 1, none⟩ = some (.int .i64 (S i).kind) ∧ w.cell? ⟨ob i, 2, none⟩ = some (.int .i64 (S i).label) := by
  have hb := h.obs i hi hk
  rw [hb.cell, hb.cell, hb.cell]
  unfold obCells
  rcases h.kinds i hi with e | e | e | e
  · exact absurd e hk
  · simp [e]
  · simp [e]
  · simp [e]

theorem PK.cont (h : PK w kb S ws lq ph ob qp) {i : Nat} (hi : i < 32) (hk : (S i).kind = 1) :
    w.cell? ⟨ob i, 3, none⟩ = some (.int .i64 (S i).A) ∧ w.cell? ⟨ob i, 4, none⟩ = some (.int .i64 (S i).B) ∧ w.cell? ⟨ob i, 5, none⟩ = some (.int .i64 (S i).G) ∧ w.cell? ⟨ob i, 6, none⟩ = some (.int .i64 (S i).H) := by
  have hb := h.obs i hi (by omega)
  rw [hb.cell, hb.cell, hb.cell, hb.cell]
  unfold obCells
  simp [hk]

theorem PK.thr (h : PK w kb S ws lq ph ob qp) {i : Nat} (hi : i < 32) (hk : (S i).kind = 2) :
    w.cell? ⟨ob i, 3, none⟩ = some (.int .i64 (S i).owns) ∧ w.cell? ⟨ob i, 4, none⟩ = some (.bool (S i).awake) := by
  have hb := h.obs i hi (by omega)
  rw [hb.cell, hb.cell]
  unfold obCells
  simp [hk]

theorem PK.word (h : PK w kb S ws lq ph ob qp) {i : Nat} (hi : i < 32) (hk : (S i).kind = 3) {j : Nat} {x : Int} (hx : (ws i)[j]? = some x) :
    w.cell? ⟨ob i, 3 + j, none⟩ = some (.int .i64 x) := by
  have hb := h.obs i hi (by omega)
  rw [hb.cell]
  unfold obCells ints
  rw [if_neg (by omega), if_neg (by omega)]
  have e : 3 + j = j + 1 + 1 + 1 := by omega
  rw [e]
  simp [hx]

theorem PK.oblt (h : PK w kb S ws lq ph ob qp) {i : Nat} (hi : i < 32) (hk : (S i).kind ≠ 0) : ob i < w.heap.size := (h.obs i hi hk).lt

/-- The kernel's own blocks. -/
def Foot (kb : Nat) (S : Nat → Th) (ob : Nat → Nat) (qp : Nat → Option Nat) (k : Nat) : Prop := k = kb ∨ (∃ i, i < 32 ∧ (S i).kind ≠ 0 ∧ ob i = k) ∨ ∃ q, q < 8 ∧ qp q = some k

theorem PK.foot_lt (h : PK w kb S ws lq ph ob qp) {k : Nat} (hk : Foot kb S ob qp k) : k < w.heap.size := by
  rcases hk with rfl | ⟨i, hi, h1, rfl⟩ | ⟨q, hq, h1⟩
  · exact h.lt
  · exact h.oblt hi h1
  · have := h.quanta q hq
    rw [h1] at this
    obtain ⟨_, sl, lb, ow, aw, _, hb, _⟩ := this
    exact hb.lt

theorem PK.same {w' : World} (h : PK w kb S ws lq ph ob qp) (e : ∀ k, Foot kb S ob qp k → w'.heap[k]? = w.heap[k]?) : PK w' kb S ws lq ph ob qp := by
  obtain ⟨cs, h1, h2⟩ := h.kern
  refine ⟨⟨cs, h1.same (e kb (Or.inl rfl)), h2⟩, fun i hi hk => (h.obs i hi hk).same (e _ (Or.inr (Or.inl ⟨i, hi, hk, rfl⟩))), h.kinds, h.inj, h.off, fun q hq => ?_, h.ph8, h.segs, h.wf⟩
  have hQ := h.quanta q hq
  unfold QOK at *
  cases hqp : qp q with
  | none => rw [hqp] at hQ; exact hQ
  | some g =>
    rw [hqp] at hQ
    obtain ⟨a1, sl, lb, ow, aw, a2, a3, a4⟩ := hQ
    exact ⟨a1, sl, lb, ow, aw, a2, a3.same (e g (Or.inr (Or.inr ⟨q, hq, hqp⟩))), a4⟩

theorem PK.fr {P : Nat → Prop} {w' : World} (h : PK w kb S ws lq ph ob qp) (f : Fr P w w') (hp : ∀ k, Foot kb S ob qp k → ¬ P k) : PK w' kb S ws lq ph ob qp :=
  h.same fun k hk => f.block k (h.foot_lt hk) (hp k hk)
theorem PK.below {w' : World} (h : PK w kb S ws lq ph ob qp) (f : Below w.heap.size w w') : PK w' kb S ws lq ph ob qp :=
  h.same fun k hk => f.block k (h.foot_lt hk)
end

end Go.Proofs.Ytflniddofmnkaaa
