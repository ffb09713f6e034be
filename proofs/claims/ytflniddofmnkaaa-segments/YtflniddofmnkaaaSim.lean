/- The program's kernel and the reference's, held against each other, where there are segments alone beside what was there at first. -/
import Derived.Test.YtflniddofmnkaaaRAns
import Derived.Test.YtflniddofmnkaaaPNow
import Derived.Test.YtflniddofmnkaaaPBoot
open Go Go.Proofs Go.RowKit
namespace Go.Proofs.Ytflniddofmnkaaa

/-- All quanta have the thread in slot 1. -/
def lq1 : Nat → Option Nat := fun q => if q < 8 then some 1 else none

/-- The reference's own blocks. -/
def RFoot (b : Nat) (S : Nat → Th) (k : Nat) : Prop := k = b ∨ ∃ i, i < 32 ∧ (S i).wb k

/-- What holds of the reference's kernel while there are but the traps 1 to 6. -/
structure Inv1 (r : RSt) : Prop where
  root : Alike (r.S 0) rootTh
  first : Alike (r.S 1) firstTh
  id1 : (r.S 1).id = 2
  others : ∀ i, 2 ≤ i → i < 32 → (r.S i).kind = 0 ∨ (r.S i).kind = 3
  segs : ∀ i, i < 32 → (r.S i).kind = 3 → (r.S i).Wn = 8
  qs : ∀ q, q < 8 → r.qs q = 1
  qi : ∀ q, q < 8 → r.qi q = 2
  made : 2 ≤ r.made
  ph : r.phase < 8

structure Sim (w : World) (kb b : Nat) (r : RSt) (ws : Nat → List Int) (ob : Nat → Nat) (qp : Nat → Option Nat) : Prop where
  pk : PK w kb r.S ws lq1 r.phase ob qp
  rk : RK w b r
  wsx : WS w b r.S ws
  inv : Inv1 r
  dis : ∀ k, Foot kb r.S ob qp k → ¬ RFoot b r.S k

/-- All blocks of the two. -/
def SFoot (kb b : Nat) (S : Nat → Th) (ob : Nat → Nat) (qp : Nat → Option Nat) (k : Nat) : Prop := Foot kb S ob qp k ∨ RFoot b S k

section
variable {w w' : World} {kb b : Nat} {r : RSt} {ws : Nat → List Int} {ob : Nat → Nat} {qp : Nat → Option Nat}

theorem Sim.wf (h : Sim w kb b r ws ob qp) : r.wf := h.pk.wf
theorem Sim.wq (h : Sim w kb b r ws ob qp) : r.wq := ⟨h.inv.ph, fun q hq => by rw [h.inv.qs q hq]; omega⟩

theorem Sim.rlt (h : Sim w kb b r ws ob qp) {k : Nat} (hk : RFoot b r.S k) : k < w.heap.size := by
  rcases hk with rfl | ⟨i, hi, hg⟩
  · exact h.rk.lt
  · exact (h.wsx.words i hi).lt hg

theorem Sim.lt (h : Sim w kb b r ws ob qp) {k : Nat} (hk : SFoot kb b r.S ob qp k) : k < w.heap.size := by
  rcases hk with hk | hk
  · exact h.pk.foot_lt hk
  · exact h.rlt hk

theorem Sim.fr {P : Nat → Prop} (h : Sim w kb b r ws ob qp) (f : Fr P w w') (hp : ∀ k, SFoot kb b r.S ob qp k → ¬ P k) : Sim w' kb b r ws ob qp :=
  ⟨h.pk.fr f (fun k hk => hp k (Or.inl hk)), h.rk.fr f (hp b (Or.inr (Or.inl rfl))), h.wsx.fr f (fun i g hi hg => hp g (Or.inr (Or.inr ⟨i, hi, hg⟩))), h.inv, h.dis⟩

theorem Sim.still (h : Sim w kb b r ws ob qp) (f : Fr (fun _ => False) w w') : Sim w' kb b r ws ob qp := h.fr f (fun _ _ => id)

theorem Sim.curP (h : Sim w kb b r ws ob qp) : curP r.S lq1 r.phase = some 1 := by
  unfold Go.Proofs.Ytflniddofmnkaaa.curP lq1
  rw [if_pos h.inv.ph]
  dsimp only
  rw [if_pos (by rw [h.inv.first.awake]; rfl)]

theorem Sim.curF (h : Sim w kb b r ws ob qp) : curF r = some 1 := by
  unfold Go.Proofs.Ytflniddofmnkaaa.curF
  rw [h.inv.qs _ h.inv.ph, h.inv.qi _ h.inv.ph, if_neg]
  rw [h.inv.id1, h.inv.first.awake]
  simp [firstTh]

theorem inv_kind {r : RSt} (h : Inv1 r) {i : Nat} (hi : i < 32) : (r.S i).kind = 1 ↔ i = 0 := by
  constructor
  · intro hk
    rcases Nat.lt_or_ge i 2 with h2 | h2
    · have : i = 0 ∨ i = 1 := by omega
      rcases this with rfl | rfl
      · rfl
      · rw [h.first.kind] at hk; simp [firstTh] at hk
    · rcases h.others i h2 hi with e | e <;> omega
  · rintro rfl
    rw [h.root.kind]; rfl

theorem seek_root {r : RSt} (h : Inv1 r) (s : Int) : ∀ k, k ≤ 32 → seek r.S Th.A Th.B s k = if 0 < k ∧ 1 ≤ s ∧ s < 32 then 0 else -1
  | 0, _ => by simp [seek]
  | k + 1, hk => by
    have ih := seek_root h s k (by omega)
    by_cases h0 : k = 0
    · subst h0
      have hA : (r.S 0).A = 1 := by rw [h.root.A]; rfl
      have hB : (r.S 0).B = 32 := by rw [h.root.B]; rfl
      have hK : (r.S 0).kind = 1 := by rw [h.root.kind]; rfl
      by_cases hs : 1 ≤ s ∧ s < 32
      · rw [if_pos ⟨by omega, hs.1, hs.2⟩]
        have := seek_take (S := r.S) (lo := Th.A) (hi := Th.B) (s := s) (k := 0) hK (by rw [hA]; exact hs.1) (by rw [hB]; exact hs.2) (Or.inl (by simp [seek]))
        simpa using this
      · rw [if_neg (fun h => hs ⟨h.2.1, h.2.2⟩), seek_skip (Or.inr (by rw [hA, hB]; omega))]
        rfl
    · have hne : (r.S k).kind ≠ 1 := fun e => h0 ((inv_kind h (by omega)).1 e)
      rw [seek_skip (Or.inl hne), ih]
      by_cases hs : 1 ≤ s ∧ s < 32
      · rw [if_pos ⟨by omega, hs.1, hs.2⟩, if_pos ⟨by omega, hs.1, hs.2⟩]
      · rw [if_neg (fun h => hs ⟨h.2.1, h.2.2⟩), if_neg (fun h => hs ⟨h.2.1, h.2.2⟩)]

theorem lies_root {r : RSt} (h : Inv1 r) {s : Nat} (h1 : 1 ≤ s) (h2 : s < 32) : lies r.S s = some 0 := by
  have e := seek_root h s 32 (by omega)
  rw [if_pos ⟨by omega, by omega, by omega⟩] at e
  unfold lies
  rw [e]
  rfl
theorem lies_none {r : RSt} (h : Inv1 r) : lies r.S ((0 : Nat) : Int) = none := by
  have e := seek_root h ((0 : Nat) : Int) 32 (by omega)
  rw [if_neg (by omega)] at e
  unfold lies
  rw [e]
  rfl

theorem deep2 {r : RSt} (h : Inv1 r) {s : Nat} (hs : s < 32) : deep r.S 2 s := by
  unfold deep
  by_cases h0 : s = 0
  · subst h0
    rw [lies_none h]
    trivial
  · rw [lies_root h (by omega) hs]
    show deep r.S 1 ((0 : Nat) : Int)
    unfold deep
    rw [lies_none h]
    trivial
end

end Go.Proofs.Ytflniddofmnkaaa
