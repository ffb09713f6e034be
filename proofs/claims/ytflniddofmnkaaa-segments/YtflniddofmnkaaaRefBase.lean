/- The reference's kernel in memory, and the plain functions that its checks and its search come to. -/
import Derived.Test.YtflniddofmnkaaaBase
open Go Go.RowKit
namespace Go.Proofs.Ytflniddofmnkaaa

/-- A thing of the reference's. -/
structure Th where
  kind : Int
  label : Nat
  id : Int
  Wa : Option Addr
  Wn : Nat
  Wc : Nat
  owns : Nat
  awake : Bool
  A : Int
  B : Int
  G : Int
  H : Int

def Th.cell (t : Th) (j : Nat) : Value :=
  if j = 0 then .int .i64 t.kind else if j = 1 then .int .i64 t.label else if j = 2 then .int .i64 t.id
  else if j = 3 then .slice t.Wa t.Wn t.Wc else if j = 4 then .int .i64 t.owns else if j = 5 then .bool t.awake
  else if j = 6 then .int .i64 t.A else if j = 7 then .int .i64 t.B else if j = 8 then .int .i64 t.G else .int .i64 t.H

/-- The reference's kernel: things, turns (slot and number), the phase, how many were made. -/
structure RSt where
  S : Nat → Th
  qs : Nat → Nat
  qi : Nat → Int
  phase : Nat
  made : Int

def RSt.cell (r : RSt) (n : Nat) : Value :=
  if n < 320 then (r.S (n / 10)).cell (n % 10)
  else if n < 336 then (if n % 2 = 0 then .int .i64 (r.qs ((n - 320) / 2)) else .int .i64 (r.qi ((n - 320) / 2)))
  else if n = 336 then .int .i64 r.phase else .int .i64 r.made

/-- The reference's kernel lies in block b. -/
def RK (w : World) (b : Nat) (r : RSt) : Prop := ∃ cs : Array Value, Blk w b cs ∧ cs.size = 338 ∧ ∀ n, n < 338 → cs[n]? = some (r.cell n)

theorem RK.lt {w : World} {b : Nat} {r : RSt} (h : RK w b r) : b < w.heap.size := by
  obtain ⟨cs, h1, _⟩ := h
  exact h1.lt

theorem RK.at {w : World} {b : Nat} {r : RSt} (h : RK w b r) {n : Nat} (hn : n < 338) : w.cell? ⟨b, n, none⟩ = some (r.cell n) := by
  obtain ⟨cs, h1, _, h3⟩ := h
  rw [h1.cell, h3 n hn]

theorem RK.frozen {w : World} {b : Nat} {r : RSt} (h : RK w b r) (n : Nat) : w.frozen? ⟨b, n, none⟩ = false := by
  obtain ⟨cs, h1, _⟩ := h
  exact h1.frozen n

theorem cell_thing (r : RSt) {k j : Nat} (hk : k < 32) (hj : j < 10) : r.cell (k * 10 + j) = (r.S k).cell j := by
  unfold RSt.cell
  rw [if_pos (by omega)]
  have e1 : (k * 10 + j) / 10 = k := by omega
  have e2 : (k * 10 + j) % 10 = j := by omega
  rw [e1, e2]

theorem RK.thing {w : World} {b : Nat} {r : RSt} (h : RK w b r) {k j : Nat} (hk : k < 32) (hj : j < 10) : w.cell? ⟨b, k * 10 + j, none⟩ = some ((r.S k).cell j) := by
  rw [h.at (by omega), cell_thing r hk hj]

/-- All cells of a thing, in the walk's spelling. -/
theorem RK.things {w : World} {b : Nat} {r : RSt} (h : RK w b r) {k : Nat} (hk : k < 32) :
    w.cell? ⟨b, k * 10, none⟩ = some (.int .i64 (r.S k).kind) ∧ w.cell? ⟨b, k * 10 + 1, none⟩ = some (.int .i64 (r.S k).label) ∧
    w.cell? ⟨b, k * 10 + 2, none⟩ = some (.int .i64 (r.S k).id) ∧ w.cell? ⟨b, k * 10 + 3, none⟩ = some (.slice (r.S k).Wa (r.S k).Wn (r.S k).Wc) ∧
    w.cell? ⟨b, k * 10 + 4, none⟩ = some (.int .i64 (r.S k).owns) ∧ w.cell? ⟨b, k * 10 + 5, none⟩ = some (.bool (r.S k).awake) ∧
    w.cell? ⟨b, k * 10 + 6, none⟩ = some (.int .i64 (r.S k).A) ∧ w.cell? ⟨b, k * 10 + 7, none⟩ = some (.int .i64 (r.S k).B) ∧
    w.cell? ⟨b, k * 10 + 8, none⟩ = some (.int .i64 (r.S k).G) ∧ w.cell? ⟨b, k * 10 + 9, none⟩ = some (.int .i64 (r.S k).H) :=
  ⟨h.thing (j := 0) hk (by omega), h.thing (j := 1) hk (by omega), h.thing (j := 2) hk (by omega), h.thing (j := 3) hk (by omega), h.thing (j := 4) hk (by omega),
   h.thing (j := 5) hk (by omega), h.thing (j := 6) hk (by omega), h.thing (j := 7) hk (by omega), h.thing (j := 8) hk (by omega), h.thing (j := 9) hk (by omega)⟩

theorem RK.turn {w : World} {b : Nat} {r : RSt} (h : RK w b r) {q : Nat} (hq : q < 8) :
    w.cell? ⟨b, 320 + q * 2, none⟩ = some (.int .i64 (r.qs q)) ∧ w.cell? ⟨b, 320 + q * 2 + 1, none⟩ = some (.int .i64 (r.qi q)) := by
  constructor
  · rw [h.at (by omega)]
    unfold RSt.cell
    rw [if_neg (by omega), if_pos (by omega), if_pos (by omega)]
    have e : (320 + q * 2 - 320) / 2 = q := by omega
    rw [e]
  · rw [h.at (by omega)]
    unfold RSt.cell
    rw [if_neg (by omega), if_pos (by omega), if_neg (by omega)]
    have e : (320 + q * 2 + 1 - 320) / 2 = q := by omega
    rw [e]

theorem RK.phase {w : World} {b : Nat} {r : RSt} (h : RK w b r) : w.cell? ⟨b, 336, none⟩ = some (.int .i64 r.phase) := by
  rw [h.at (by omega)]; rfl
theorem RK.made {w : World} {b : Nat} {r : RSt} (h : RK w b r) : w.cell? ⟨b, 337, none⟩ = some (.int .i64 r.made) := by
  rw [h.at (by omega)]; rfl

theorem RK.same {w w' : World} {b : Nat} {r : RSt} (h : RK w b r) (e : w'.heap[b]? = w.heap[b]?) : RK w' b r := by
  obtain ⟨cs, h1, h2⟩ := h
  exact ⟨cs, h1.same e, h2⟩
theorem RK.drew {w : World} {b : Nat} {r : RSt} (h : RK w b r) : RK w.drew b r := h.same rfl
theorem RK.drewN {w : World} {b : Nat} {r : RSt} (h : RK w b r) (n : Nat) : RK (w.drewN n) b r := h.same rfl
theorem RK.alloc {w : World} {b : Nat} {r : RSt} (h : RK w b r) (o : Obj) : RK (w.alloc o) b r := h.same (Below.heap_alloc _ _ _ h.lt)
theorem RK.fr {S : Nat → Prop} {w w' : World} {b : Nat} {r : RSt} (h : RK w b r) (f : Fr S w w') (hs : ¬ S b) : RK w' b r := h.same (f.block b h.lt hs)
theorem RK.below {w w' : World} {b : Nat} {r : RSt} (h : RK w b r) {B : Nat} (hb : Below B w w') (hB : b < B) : RK w' b r := h.same (hb.block b hB)

/-! ### stores into the reference's kernel -/

theorem RK.cell_set {w : World} {b : Nat} {c : Nat → Value} (n : Nat) (v : Value) (h : ∃ cs : Array Value, Blk w b cs ∧ cs.size = 338 ∧ ∀ m, m < 338 → cs[m]? = some (c m)) :
    ∃ cs : Array Value, Blk (w.setCell ⟨b, n, none⟩ v) b cs ∧ cs.size = 338 ∧ ∀ m, m < 338 → cs[m]? = some (if m = n then v else c m) := by
  obtain ⟨cs, h1, h2, h3⟩ := h
  refine ⟨_, h1.set n v, by simpa using h2, fun m hm => ?_⟩
  by_cases e : m = n
  · subst e
    rw [if_pos rfl, Array.getElem?_setIfInBounds_self_of_lt (by omega)]
  · rw [if_neg e, Array.getElem?_setIfInBounds_ne (Ne.symm e)]
    exact h3 m hm

/-- One thing in another one's place. -/
def upd {α : Type} (f : Nat → α) (s : Nat) (t : α) : Nat → α := fun i => if i = s then t else f i

theorem upd_same {α : Type} (f : Nat → α) (s : Nat) (t : α) : upd f s t s = t := if_pos rfl
theorem upd_ne {α : Type} (f : Nat → α) {s i : Nat} (t : α) (h : i ≠ s) : upd f s t i = f i := if_neg h

def RSt.put (r : RSt) (s : Nat) (t : Th) : RSt := { r with S := upd r.S s t }

/-- The world behind the store of a whole thing. -/
def World.putTh (w : World) (b o : Nat) (t : Th) : World :=
  (((((((((w.setCell ⟨b, o, none⟩ (.int .i64 t.kind)).setCell ⟨b, o + 1, none⟩ (.int .i64 t.label)).setCell ⟨b, o + 2, none⟩ (.int .i64 t.id)).setCell ⟨b, o + 3, none⟩ (.slice t.Wa t.Wn t.Wc)).setCell
    ⟨b, o + 4, none⟩ (.int .i64 t.owns)).setCell ⟨b, o + 5, none⟩ (.bool t.awake)).setCell ⟨b, o + 6, none⟩ (.int .i64 t.A)).setCell ⟨b, o + 7, none⟩ (.int .i64 t.B)).setCell ⟨b, o + 8, none⟩ (.int .i64 t.G)).setCell ⟨b, o + 9, none⟩ (.int .i64 t.H)

theorem RK.put {w : World} {b : Nat} {r : RSt} (h : RK w b r) {s : Nat} (hs : s < 32) (t : Th) : RK (World.putTh w b (s * 10) t) b (r.put s t) := by
  have h1 := RK.cell_set (s * 10 + 9) (.int .i64 t.H) (RK.cell_set (s * 10 + 8) (.int .i64 t.G) (RK.cell_set (s * 10 + 7) (.int .i64 t.B) (RK.cell_set (s * 10 + 6) (.int .i64 t.A)
    (RK.cell_set (s * 10 + 5) (.bool t.awake) (RK.cell_set (s * 10 + 4) (.int .i64 t.owns) (RK.cell_set (s * 10 + 3) (.slice t.Wa t.Wn t.Wc) (RK.cell_set (s * 10 + 2) (.int .i64 t.id)
    (RK.cell_set (s * 10 + 1) (.int .i64 t.label) (RK.cell_set (s * 10) (.int .i64 t.kind) h)))))))))
  obtain ⟨cs, g1, g2, g3⟩ := h1
  refine ⟨cs, g1, g2, fun m hm => ?_⟩
  rw [g3 m hm]
  congr 1
  by_cases hm3 : m < 320 ∧ m / 10 = s
  · obtain ⟨h3, rfl⟩ := hm3
    have hc : (r.put (m / 10) t).cell m = t.cell (m % 10) := by
      unfold RSt.cell RSt.put
      dsimp only
      rw [if_pos h3, upd_same]
    rw [hc]
    unfold Th.cell
    have hm10 : m % 10 = 0 ∨ m % 10 = 1 ∨ m % 10 = 2 ∨ m % 10 = 3 ∨ m % 10 = 4 ∨ m % 10 = 5 ∨ m % 10 = 6 ∨ m % 10 = 7 ∨ m % 10 = 8 ∨ m % 10 = 9 := by omega
    rcases hm10 with e | e | e | e | e | e | e | e | e | e
    all_goals
      rw [e]
      repeat (first | rw [if_pos (by omega)] | rw [if_neg (by omega)])
  · repeat rw [if_neg (by omega)]
    unfold RSt.cell RSt.put
    dsimp only
    split
    · rw [upd_ne _ _ (by omega)]
    · rfl

theorem Fr.putTh (w : World) (b o : Nat) (t : Th) : Fr (fun k => k = b) w (World.putTh w b o t) :=
  (((((((((Fr.own w b o _).trans (Fr.own _ b _ _)).trans (Fr.own _ b _ _)).trans (Fr.own _ b _ _)).trans (Fr.own _ b _ _)).trans (Fr.own _ b _ _)).trans (Fr.own _ b _ _)).trans (Fr.own _ b _ _)).trans (Fr.own _ b _ _)).trans (Fr.own _ b _ _)

def RSt.mk1 (r : RSt) (n : Int) : RSt := { r with made := n }
theorem RK.putMade {w : World} {b : Nat} {r : RSt} (h : RK w b r) (n : Int) : RK (w.setCell ⟨b, 337, none⟩ (.int .i64 n)) b (r.mk1 n) := by
  obtain ⟨cs, g1, g2, g3⟩ := RK.cell_set 337 (.int .i64 n) h
  refine ⟨cs, g1, g2, fun m hm => ?_⟩
  rw [g3 m hm]
  congr 1
  unfold RSt.cell RSt.mk1
  by_cases e : m = 337
  · subst e; simp
  · rw [if_neg e]
    repeat (first | rfl | split)
    all_goals omega

theorem RK.putPhase {w : World} {b : Nat} {r : RSt} (h : RK w b r) (n : Nat) : RK (w.setCell ⟨b, 336, none⟩ (.int .i64 n)) b { r with phase := n } := by
  obtain ⟨cs, g1, g2, g3⟩ := RK.cell_set 336 (.int .i64 n) h
  refine ⟨cs, g1, g2, fun m hm => ?_⟩
  rw [g3 m hm]
  congr 1
  unfold RSt.cell
  by_cases e : m = 336
  · subst e; simp
  · rw [if_neg e]
    dsimp only
    repeat (first | rfl | rw [if_neg e] | split)

def RSt.turn (r : RSt) (q : Nat) (s : Nat) (i : Int) : RSt := { r with qs := upd r.qs q s, qi := upd r.qi q i }
theorem RK.putTurn {w : World} {b : Nat} {r : RSt} (h : RK w b r) {q : Nat} (hq : q < 8) (s : Nat) (i : Int) :
    RK ((w.setCell ⟨b, 320 + q * 2, none⟩ (.int .i64 s)).setCell ⟨b, 320 + q * 2 + 1, none⟩ (.int .i64 i)) b (r.turn q s i) := by
  obtain ⟨cs, g1, g2, g3⟩ := RK.cell_set (320 + q * 2 + 1) (.int .i64 i) (RK.cell_set (320 + q * 2) (.int .i64 s) h)
  refine ⟨cs, g1, g2, fun m hm => ?_⟩
  rw [g3 m hm]
  congr 1
  unfold RSt.cell RSt.turn
  dsimp only
  by_cases e : m = 320 + q * 2 + 1
  · rw [if_pos e, if_neg (by omega), if_pos (by omega), if_neg (by omega)]
    have e2 : (m - 320) / 2 = q := by omega
    rw [e2, upd_same]
  · rw [if_neg e]
    by_cases e' : m = 320 + q * 2
    · rw [if_pos e', if_neg (by omega), if_pos (by omega), if_pos (by omega)]
      have e2 : (m - 320) / 2 = q := by omega
      rw [e2, upd_same]
    · rw [if_neg e']
      split
      · rfl
      · split
        · rw [upd_ne _ _ (by omega), upd_ne _ _ (by omega)]
        · rfl

/-- What holds of every thing that the reference ever has. -/
def Th.wf (t : Th) : Prop := 0 ≤ t.A ∧ t.A ≤ 32 ∧ 0 ≤ t.B ∧ t.B ≤ 32 ∧ t.label < 256 ∧ t.owns < 256
def RSt.wf (r : RSt) : Prop := ∀ i, i < 32 → (r.S i).wf

theorem RSt.wf.put {r : RSt} (h : r.wf) (s : Nat) {t : Th} (ht : t.wf) : (r.put s t).wf := fun i hi => by
  unfold RSt.put upd
  dsimp only
  split
  · exact ht
  · exact h i hi


/-- The container with the least range of slots of all those ahead of k whose range (lo, hi) has s; -1: none. -/
def seek (S : Nat → Th) (lo hi : Th → Int) (s : Int) : Nat → Int
  | 0 => -1
  | k + 1 =>
    if (S k).kind ≠ 1 ∨ s < lo (S k) ∨ hi (S k) ≤ s then seek S lo hi s k
    else if seek S lo hi s k < 0 ∨ (S k).B - (S k).A < (S (seek S lo hi s k).toNat).B - (S (seek S lo hi s k).toNat).A then k
    else seek S lo hi s k

section
variable {S : Nat → Th} {lo hi : Th → Int} {s : Int}
theorem seek_lt (S : Nat → Th) (lo hi : Th → Int) (s : Int) (k : Nat) : -1 ≤ seek S lo hi s k ∧ seek S lo hi s k < k := by
  induction k with
  | zero => simp [seek]
  | succ k ih =>
    unfold seek
    split
    · omega
    · split <;> omega

theorem seek_skip {k : Nat} (h : (S k).kind ≠ 1 ∨ s < lo (S k) ∨ hi (S k) ≤ s) : seek S lo hi s (k + 1) = seek S lo hi s k := by
  conv => lhs; unfold seek
  rw [if_pos h]
theorem seek_take {k : Nat} (h1 : (S k).kind = 1) (h2 : lo (S k) ≤ s) (h3 : s < hi (S k))
    (h : seek S lo hi s k < 0 ∨ (S k).B - (S k).A < (S (seek S lo hi s k).toNat).B - (S (seek S lo hi s k).toNat).A) : seek S lo hi s (k + 1) = k := by
  conv => lhs; unfold seek
  rw [if_neg (by simp [h1]; omega), if_pos h]
theorem seek_stay {k n : Nat} (hn : seek S lo hi s k = n) (h : (S n).B - (S n).A ≤ (S k).B - (S k).A) : seek S lo hi s (k + 1) = n := by
  conv => lhs; unfold seek
  split
  · exact hn
  · rw [if_neg, hn]
    rw [hn, Int.toNat_natCast]
    omega
end

/-- A slot or none, as the reference tells it. -/
def oi : Option Nat → Int
  | none => -1
  | some c => c

/-- In which container a slot lies. -/
def lies (S : Nat → Th) (s : Int) : Option Nat := if seek S Th.A Th.B s 32 < 0 then none else some (seek S Th.A Th.B s 32).toNat
/-- In which container a quantum lies. -/
def has (S : Nat → Th) (q : Int) : Option Nat := if seek S Th.G Th.H q 32 < 0 then none else some (seek S Th.G Th.H q 32).toNat

theorem lies_oi (S : Nat → Th) (s : Int) : seek S Th.A Th.B s 32 = oi (lies S s) := by
  have := seek_lt S Th.A Th.B s 32
  unfold lies oi
  split <;> rename_i h <;> split at h <;> simp at h <;> omega
theorem has_oi (S : Nat → Th) (s : Int) : seek S Th.G Th.H s 32 = oi (has S s) := by
  have := seek_lt S Th.G Th.H s 32
  unfold has oi
  split <;> rename_i h <;> split at h <;> simp at h <;> omega
theorem lies_lt {S : Nat → Th} {s : Int} {c : Nat} (h : lies S s = some c) : c < 32 := by
  have := seek_lt S Th.A Th.B s 32
  unfold lies at h
  split at h <;> simp at h
  omega
theorem has_lt {S : Nat → Th} {s : Int} {c : Nat} (h : has S s = some c) : c < 32 := by
  have := seek_lt S Th.G Th.H s 32
  unfold has at h
  split at h <;> simp at h
  omega

/-- The current thread's slot. -/
def curF (r : RSt) : Option Nat :=
  if r.qi r.phase = 0 ∨ (r.S (r.qs r.phase)).id ≠ r.qi r.phase ∨ (r.S (r.qs r.phase)).awake = false then none else some (r.qs r.phase)

/-- What holds of turns and of the phase. -/
def RSt.wq (r : RSt) : Prop := r.phase < 8 ∧ ∀ q, q < 8 → r.qs q < 32

/-! ### a trap on its way: what was needed, and what is wrong first -/

/-- What a check makes of 'used' and 'err'. -/
def chk (O x y : Nat) (p : Nat × Int) : Nat × Int :=
  if p.2 ≠ 0 then p else if sub (mis x y) O then (p.1 ||| mis x y, 0) else (p.1, 4)

/-- From the root on all containers in which a slot lies are read. -/
def pathF (S : Nat → Th) (O T : Nat) : Nat → Int → Nat × Int → Nat × Int
  | 0, _, p => p
  | n + 1, s, p => match lies S s with
    | none => p
    | some c => chk O (S c).label T (pathF S O T n c p)

/-- The root is reached within n steps. -/
def deep (S : Nat → Th) : Nat → Int → Prop
  | 0, _ => False
  | n + 1, s => match lies S s with
    | none => True
    | some c => deep S n c

def failed (e : Int) (p : Nat × Int) : Nat × Int := if p.2 = 0 then (p.1, e) else p

/-- 'there' and 'a kind stands'. -/
def thereF (S : Nat → Th) (s : Nat) (p : Nat × Int) : Nat × Int := if (S s).kind = 0 then failed 5 p else p
def kindF (S : Nat → Th) (s : Nat) (k : Int) (p : Nat × Int) : Nat × Int := if (S s).kind = k then p else failed 6 p

/-- Making an object in c, s with the label l. -/
def makingF (S : Nat → Th) (O T n c s l : Nat) (p : Nat × Int) : Nat × Int :=
  chk O T l
    ((fun p => if sub (S c).label l = true then p else failed 4 p)
      ((fun p => if (S s).kind = 0 ∧ lies S s = some c then p else failed 7 p)
        ((fun p => if (S c).kind = 1 then p else failed 6 p)
          (chk O T (S c).label (chk O (S c).label T
            ((fun p => if (S c).kind = 0 then failed 5 p else p) (pathF S O T n c p)))))))

theorem oi_eq {x : Option Nat} {c : Nat} : oi x = (c : Int) ↔ x = some c := by
  cases x <;> simp [oi] <;> omega

/-- The trap on its way lies in block ab: its kernel's block, its thread's label and what that owns, used, err. -/
def AskAt (w : World) (ab b T O : Nat) (p : Nat × Int) : Prop :=
  Blk w ab #[.pointer (some ⟨b, 0, none⟩), .int .i64 T, .int .i64 O, .int .i64 p.1, .int .i64 p.2]

/-- The trap and its kernel. -/
structure AK (w : World) (ab b T O : Nat) (p : Nat × Int) (r : RSt) : Prop where
  ask : AskAt w ab b T O p
  rk : RK w b r
  ne : ab ≠ b
  hT : T < 256
  hO : O < 256
  hu : p.1 < 256
  wf : r.wf

theorem AskAt.cells {w : World} {ab b T O : Nat} {p : Nat × Int} (h : AskAt w ab b T O p) :
    w.cell? ⟨ab, 0, none⟩ = some (.pointer (some ⟨b, 0, none⟩)) ∧ w.cell? ⟨ab, 1, none⟩ = some (.int .i64 T) ∧ w.cell? ⟨ab, 2, none⟩ = some (.int .i64 O) ∧
    w.cell? ⟨ab, 3, none⟩ = some (.int .i64 p.1) ∧ w.cell? ⟨ab, 4, none⟩ = some (.int .i64 p.2) ∧ w.frozen? ⟨ab, 3, none⟩ = false ∧ w.frozen? ⟨ab, 4, none⟩ = false := by
  refine ⟨?_, ?_, ?_, ?_, ?_, Blk.frozen h 3, Blk.frozen h 4⟩ <;> rw [Blk.cell h] <;> rfl

theorem AskAt.used {w : World} {ab b T O : Nat} {p : Nat × Int} (h : AskAt w ab b T O p) (u : Nat) : AskAt (w.setCell ⟨ab, 3, none⟩ (.int .i64 u)) ab b T O (u, p.2) := Blk.set h 3 _
theorem AskAt.err {w : World} {ab b T O : Nat} {p : Nat × Int} (h : AskAt w ab b T O p) (e : Int) : AskAt (w.setCell ⟨ab, 4, none⟩ (.int .i64 e)) ab b T O (p.1, e) := Blk.set h 4 _

theorem chk_lt {O x : Nat} (y : Nat) {p : Nat × Int} (hx : x < 256) (hu : p.1 < 256) : (chk O x y p).1 < 256 := by
  unfold chk
  split
  · exact hu
  · split
    · exact or_lt hu (mis_lt y hx)
    · exact hu

theorem pathF_lt {S : Nat → Th} {O T : Nat} (hS : ∀ i, i < 32 → (S i).label < 256) : ∀ (n : Nat) (s : Int) (p : Nat × Int), p.1 < 256 → (pathF S O T n s p).1 < 256
  | 0, _, _, h => h
  | n + 1, s, p, h => by
    unfold pathF
    split
    · exact h
    · rename_i c hc
      exact chk_lt _ (hS c (lies_lt hc)) (pathF_lt hS n c p h)

theorem failed_lt {e : Int} {p : Nat × Int} (hu : p.1 < 256) : (failed e p).1 < 256 := by
  unfold failed; split <;> exact hu

theorem AK.fr {w w' : World} {ab b T O : Nat} {p : Nat × Int} {r : RSt} (h : AK w ab b T O p r) (f : Fr (fun _ => False) w w') : AK w' ab b T O p r :=
  ⟨Blk.fr h.ask f id, h.rk.fr f id, h.ne, h.hT, h.hO, h.hu, h.wf⟩

/-- .. behind stores into the kernel's block. -/
theorem AK.kturned {w w' : World} {ab b T O : Nat} {p : Nat × Int} {r r' : RSt} (h : AK w ab b T O p r) (f : Fr (fun k => k = b) w w') (hr : RK w' b r') (hw : r'.wf) : AK w' ab b T O p r' :=
  ⟨Blk.fr h.ask f h.ne, hr, h.ne, h.hT, h.hO, h.hu, hw⟩

/-- .. behind a store into the trap's own block. -/
theorem AK.turned {w w' : World} {ab b T O : Nat} {p p' : Nat × Int} {r : RSt} (h : AK w ab b T O p r) (f : Fr (fun k => k = ab) w w') (ha : AskAt w' ab b T O p') (hu : p'.1 < 256) : AK w' ab b T O p' r :=
  ⟨ha, h.rk.fr f (fun e => h.ne e.symm), h.ne, h.hT, h.hO, hu, h.wf⟩

end Go.Proofs.Ytflniddofmnkaaa
