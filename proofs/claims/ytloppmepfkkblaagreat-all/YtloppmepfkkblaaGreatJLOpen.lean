/- What comes in to the statements: a slice of steps, opened at every index. -/
import Derived.Test.YtloppmepfkkblaaGreatRows
import Derived.ProofKit
import Derived.OpenShut
import Derived.SizedLaws
import Derived.ChangeOld
import Derived.Deep.Slices
import Derived.Deep.Strs
import Derived.Test.YtloppmepfkkblaaGreatJLPlays
open Go Go.Proofs Go.RowKit Go.ChangeShapes Go.WideShapes Go.ChangeAt
namespace Go.Proofs.YtloppmepfkkblaaGreat

theorem cell_lt {w : World} {b n : Nat} {v : Value} (h : w.cell? ⟨b, n, none⟩ = some v) : b < w.heap.size := by
  rcases Nat.lt_or_ge b w.heap.size with h1 | h1
  · exact h1
  · exfalso
    simp [World.cell?, Array.getElem?_eq_none h1] at h

theorem weightsAll_mem {H : Type} {P : Program} {e : TypeId} : ∀ {l : List (DataW H)} {d : DataW H}, d ∈ l → ∀ n ∈ d.weights P e, n ∈ DataW.weightsAll P e l
  | d0 :: l, d, hd, n, hn => by
    simp only [DataW.weightsAll, List.mem_append]
    rcases List.mem_cons.1 hd with rfl | h
    · exact Or.inl hn
    · exact Or.inr (weightsAll_mem h n hn)
  | [], _, hd, _, _ => by simp at hd

theorem bytes_int : Tryz.prog.bytesOf 3 = 8 := by kernel_rfl
theorem bytes_op : Tryz.prog.bytesOf 34 = 40 := by kernel_rfl
theorem cells_int : Tryz.prog.cellsOf 3 = 1 := by kernel_rfl
theorem cells_ints : Tryz.prog.cellsOf 32 = 1 := by kernel_rfl
theorem cells_op : Tryz.prog.cellsOf 34 = 3 := by kernel_rfl

section
variable {H : Type} {enc : TypeId × Value → H} {W : World}

/-- A step's arguments. -/
theorem args_open {fuel : Nat} {v : Value} {x : DataW H × List MemPlace} (h : DataW.trod enc Tryz.prog W 0 (fun _ => true) true fuel 32 [v] = some x) (hw : ∀ n ∈ x.1.weights Tryz.prog 32, n ≤ reachBytes) :
    ArgsV W (fun k => W.heap.size ≤ k) v := by
  rcases open_ints Tryz.underlying32 Tryz.underlying3 cells_int h with ⟨hcs, _⟩ | ⟨a, len, cap, zs, hcs, _, hl, hm, hz, hx, hcell, hwz⟩
  · simp at hcs
    exact Or.inl hcs
  · simp at hcs hz
    subst hcs
    refine Or.inr ⟨a, zs.take len, cap, by simp; omega, ?_, ?_, fun y hy => bounds_i64 (hwz y (List.mem_of_mem_take hy))⟩
    · have := hw (((lits .i64 (zs.take len) : List (DataW H)).length + (lits .i64 (zs.drop len) : List (DataW H)).length) * Tryz.prog.bytesOf 3) (by rw [hx]; simp [DataW.weights, Tryz.underlying32])
      rw [bytes_int] at this
      simp [lits, reachBytes] at this
      simp
      omega
    · by_cases h0 : len = 0
      · subst h0; exact Or.inl rfl
      · obtain ⟨b, off, rfl, hc⟩ := ints_at hcell (by omega)
        refine Or.inr ⟨b, off, rfl, ⟨cell_lt (hc 0 (by omega)), fun i y hy => ?_⟩, fun h => ?_⟩
        · have hi : i < len := by
            have := (List.getElem?_eq_some_iff.1 hy).1
            simp at this; omega
          rw [hc i (by omega)]
          rw [List.getElem?_take_of_lt hi] at hy
          rw [List.getD_eq_getElem?_getD, hy]; rfl
        · have := cell_lt (hc 0 (by omega))
          omega

set_option maxRecDepth 100000 in
theorem script_open {fuel : Nat} {sa : Option Addr} {n cap : Nat} {x : DataW H × List MemPlace} (h : DataW.trod enc Tryz.prog W 0 (fun _ => true) true fuel 22 [.slice sa n cap] = some x) (hw : ∀ k ∈ x.1.weights Tryz.prog 22, k ≤ reachBytes) :
    ScriptAt W sa n ∧ n ≤ 17592186043904 := by
  rcases Deep.open_slice Tryz.underlying22 h with ⟨hcs, _⟩ | ⟨a, len, cap', m, k, D, Pl, hcs, _, hl, hm, hmm, hx, hel⟩
  · simp at hcs
    obtain ⟨rfl, rfl, rfl⟩ := hcs
    exact ⟨Or.inl rfl, by omega⟩
  · simp at hcs hmm
    obtain ⟨rfl, rfl, rfl⟩ := hcs
    subst hmm
    have hb := hw ((((List.range n).map D).length + ((List.range (m - n)).map fun j => D (n + j)).length) * Tryz.prog.bytesOf 34) (by rw [hx]; simp [DataW.weights, Tryz.underlying22])
    rw [bytes_op] at hb
    simp [reachBytes] at hb
    refine ⟨?_, by omega⟩
    by_cases h0 : n = 0
    · exact Or.inl h0
    · have each : ∀ i, i < n → ∃ v0 v1 v2 y0 y1 y2 q, W.cell? (a.add (i * 3)) = some v0 ∧ W.cell? (a.add (i * 3 + 1)) = some v1 ∧ W.cell? (a.add (i * 3 + 2)) = some v2 ∧
          DataW.trod enc Tryz.prog W 0 (fun _ => true) true q 3 [v0] = some y0 ∧ DataW.trod enc Tryz.prog W 0 (fun _ => true) true q 3 [v1] = some y1 ∧ DataW.trod enc Tryz.prog W 0 (fun _ => true) true q 32 [v2] = some y2 ∧ D i = .agg [y0.1, y1.1, y2.1] := by
        intro i hi
        obtain ⟨cs', g1, g2⟩ := hel i (by omega)
        rw [cells_op] at g1
        obtain ⟨_, hlen, hcell⟩ := World.cells?_some g1
        obtain ⟨y0, y1, y2, q, hy, _, t0, t1, t2⟩ := Deep.trod_struct3 Tryz.underlying34 g2
        simp only [Prod.mk.injEq] at hy
        match cs', hlen with
        | [v0, v1, v2], _ =>
          have e0 := hcell 0 (by omega)
          have e1 := hcell 1 (by omega)
          have e2 := hcell 2 (by omega)
          rw [Deep.add_add] at e0 e1 e2
          simp [cells_int, cells_ints] at t0 t1 t2
          exact ⟨v0, v1, v2, y0, y1, y2, q, by simpa using e0, by simpa using e1, by simpa using e2, t0, t1, t2, hy.1⟩
      obtain ⟨b, off, spot⟩ := a
      have hspot : spot = none := by
        obtain ⟨v0, _, _, _, _, _, _, c0, _⟩ := each 0 (by omega)
        simpa [Addr.add] using World.cell?_spot c0
      subst hspot
      have hadd : ∀ j, (⟨b, off, none⟩ : Addr).add j = ⟨b, off + j, none⟩ := fun j => by rw [add_plain]
      refine Or.inr ⟨b, off, rfl, ?_, fun i hi => ?_⟩
      · obtain ⟨v0, _, _, _, _, _, _, c0, _⟩ := each 0 (by omega)
        rw [hadd] at c0
        exact cell_lt c0
      · obtain ⟨v0, v1, v2, y0, y1, y2, q, c0, c1, c2, t0, t1, t2, hD⟩ := each i hi
        rw [hadd] at c0 c1 c2
        obtain ⟨K, hK, _, wK⟩ := DataW.trod_int Tryz.underlying3 t0
        obtain ⟨T, hT, _, wT⟩ := DataW.trod_int Tryz.underlying3 t1
        simp at hK hT
        subst hK hT
        refine ⟨K, T, v2, c0, c1, c2, bounds_i64 wK, args_open t2 (fun k hk => hw k ?_)⟩
        rw [hx]
        simp only [DataW.weights, Tryz.underlying22, List.mem_cons, List.mem_append]
        refine Or.inr (Or.inl (weightsAll_mem (d := D i) (List.mem_map.2 ⟨i, List.mem_range.2 hi, rfl⟩) k ?_))
        rw [hD]
        simp only [DataW.weights, Tryz.underlying34]
        exact DataW.weights_mem_each (ts := [3, 3, 32]) (j := 2) rfl rfl k hk
end

end Go.Proofs.YtloppmepfkkblaaGreat
