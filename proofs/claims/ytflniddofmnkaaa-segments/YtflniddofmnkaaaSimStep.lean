/- One trap on both kernels, whatever it is: the same answer, and both go on alike (numbers up to 6, or past 16). -/
import Derived.Test.YtflniddofmnkaaaSimTrap3
open Go Go.Proofs Go.RowKit
namespace Go.Proofs.Ytflniddofmnkaaa

/-- A trap's arguments as they lie in a script. -/
def ArgsV (w : World) (F : Nat → Prop) (v : Value) : Prop := v = .slice none 0 0 ∨ ∃ (la : Addr) (xs : List Int) (cap : Nat), v = .slice (some la) xs.length cap ∧ ArgS w F la xs

theorem nat_of {x : Int} {m : Nat} (h1 : 0 ≤ x) (h2 : x ≤ m) : ∃ k : Nat, k < m + 1 ∧ x = k := ⟨x.toNat, by omega, by omega⟩

section
variable {w : World} {kb b : Nat} {r : RSt} {ws : Nat → List Int} {ob : Nat → Nat} {qp : Nat → Option Nat} {pb : Nat}

theorem trap_any (h : Sim w kb b r ws ob qp) (hmade : r.made < 4611686018427387904) (hp : Blk w pb #[.pointer (some ⟨kb, 0, none⟩), .pointer (some ⟨b, 0, none⟩)]) (hpb : ¬ SFoot kb b r.S ob qp pb) (n : Int) (hn : n ≤ 6 ∨ 17 ≤ n) (v : Value) (ha : ArgsV w (SFoot kb b r.S ob qp) v) :
    Calls Try.prog 26 #[.pointer (some ⟨pb, 0, none⟩), .int .i64 n, v] w fun e w' => e = .returned (.bool true) ∧ Goes w kb b r ob qp w' := by
  rcases ha with rfl | ⟨la, xs, cap, rfl, ha⟩
  · by_cases h1 : n = 1
    · subst h1; exact one_nil h hp
    · refine bad_nil h hp n ?_
      by_cases h2 : 1 ≤ n ∧ n ≤ 6
      · refine Or.inr (Or.inr ⟨h2.1, h2.2, ?_⟩)
        have : n = 2 ∨ n = 3 ∨ n = 4 ∨ n = 5 ∨ n = 6 := by omega
        rcases this with rfl | rfl | rfl | rfl | rfl <;> simp [bsL]
      · omega
  · by_cases h2 : 1 ≤ n ∧ n ≤ 6
    · by_cases hl : (bsL n).length = xs.length
      · by_cases hadm : admTo (bsL n) xs xs.length = true
        · have hn : n = 1 ∨ n = 2 ∨ n = 3 ∨ n = 4 ∨ n = 5 ∨ n = 6 := by omega
          rcases hn with rfl | rfl | rfl | rfl | rfl | rfl
          · match xs, hl, hadm, ha with
            | [], _, _, ha => exact one_some h hp ha
          · match xs, hl, hadm, ha with
            | [a], _, hadm, ha =>
              simp [admTo, bsL] at hadm
              obtain ⟨a, ha1, rfl⟩ := nat_of (m := 31) hadm.1 hadm.2
              exact two_some h hp a ha1 ha
          · match xs, hl, hadm, ha with
            | [a], _, hadm, ha =>
              simp [admTo, bsL] at hadm
              obtain ⟨a, ha1, rfl⟩ := nat_of (m := 31) hadm.1 hadm.2
              exact three_some h hp a ha1 ha
          · match xs, hl, hadm, ha with
            | [a, c, d], _, hadm, ha =>
              simp [admTo, bsL] at hadm
              obtain ⟨a, ha1, rfl⟩ := nat_of (x := a) (m := 31) (by omega) (by omega)
              obtain ⟨c, hc1, rfl⟩ := nat_of (x := c) (m := 31) (by omega) (by omega)
              obtain ⟨d, hd1, rfl⟩ := nat_of (x := d) (m := 255) (by omega) (by omega)
              exact four_some h hmade hp hpb a c d ha1 hc1 hd1 ha
          · match xs, hl, hadm, ha with
            | [a, c], _, hadm, ha =>
              simp [admTo, bsL] at hadm
              obtain ⟨a, ha1, rfl⟩ := nat_of (x := a) (m := 31) (by omega) (by omega)
              obtain ⟨c, hc1, rfl⟩ := nat_of (x := c) (m := 7) (by omega) (by omega)
              exact five_some h hp a c ha1 hc1 ha
          · match xs, hl, hadm, ha with
            | [a, c, d], _, hadm, ha =>
              simp [admTo, bsL] at hadm
              obtain ⟨a, ha1, rfl⟩ := nat_of (x := a) (m := 31) (by omega) (by omega)
              obtain ⟨c, hc1, rfl⟩ := nat_of (x := c) (m := 7) (by omega) (by omega)
              exact six_some h hp hpb a c d ha1 hc1 ha
        · exact arg_some h hp n h2.1 h2.2 la cap xs ha hl (by simpa using hadm)
      · exact bad_some h hp n la cap xs ha (Or.inr (Or.inr ⟨h2.1, h2.2, hl⟩))
    · exact bad_some h hp n la cap xs ha (by omega)
end

end Go.Proofs.Ytflniddofmnkaaa
