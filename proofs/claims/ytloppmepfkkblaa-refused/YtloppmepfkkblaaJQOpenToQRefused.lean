/- What comes in to the keep's statements: numbers, opened. -/
import Derived.Test.YtloppmepfkkblaaRows
import Derived.ProofKit
import Derived.OpenShut
import Derived.SizedLaws
import Derived.ChangeOld
import Derived.Deep.Slices
import Derived.Deep.Strs
import Derived.StillTailTactics
import Derived.Test.YtloppmepfkkblaaJQBase
import Derived.Test.YtloppmepfkkblaaJKView
import Derived.Test.YtloppmepfkkblaaJRangeM

section
open Go Go.Proofs Go.RowKit Go.ChangeShapes Go.WideShapes Go.ChangeAt
namespace Go.Proofs.Ytloppmepfkkblaa

theorem own_knob : ownKnob Try.prog.godebug = none := by kernel_rfl
theorem laid_out : laidOutB Try.prog = true := by kernel_rfl

theorem cell_lt {w : World} {b n : Nat} {v : Value} (h : w.cell? ⟨b, n, none⟩ = some v) : b < w.heap.size := by
  rcases Nat.lt_or_ge b w.heap.size with h1 | h1
  · exact h1
  · exfalso
    simp [World.cell?, Array.getElem?_eq_none h1] at h

theorem weightsAll_mem {H : Type} {P : Program} {e : TypeId} : ∀ {l : List (DataW H)} {d : DataW H}, d ∈ l → ∀ n ∈ d.weights P e, n ∈ DataW.weightsAll P e l
  | d0 :: l, d, hd, n, hn => by
    simp only [DataW.weightsAll, List.mem_append]
    rcases List.mem_cons.1 hd with rfl | h
    · exact Or.inl hn
    · exact Or.inr (weightsAll_mem h n hn)
  | [], _, hd, _, _ => by simp at hd

theorem bytes_int : Try.prog.bytesOf 3 = 8 := by kernel_rfl
theorem cells_int : Try.prog.cellsOf 3 = 1 := by kernel_rfl
theorem cells_ints : Try.prog.cellsOf 29 = 1 := by kernel_rfl
section
variable {H : Type} {enc : TypeId × Value → H} {W : World}

/-- A step's arguments. -/
theorem args_open {fuel : Nat} {v : Value} {x : DataW H × List MemPlace} (h : DataW.trod enc Try.prog W 0 (fun _ => true) true fuel 29 [v] = some x) (hw : ∀ n ∈ x.1.weights Try.prog 29, n ≤ reachBytes) :
    ArgsV W (fun k => W.heap.size ≤ k) v := by
  rcases open_ints Try.underlying29 Try.underlying3 cells_int h with ⟨hcs, _⟩ | ⟨a, len, cap, zs, hcs, _, hl, hm, hz, hx, hcell, hwz⟩
  · simp at hcs
    exact Or.inl hcs
  · simp at hcs hz
    subst hcs
    refine Or.inr ⟨a, zs.take len, cap, by simp; omega, ?_, ?_, fun y hy => bounds_i64 (hwz y (List.mem_of_mem_take hy))⟩
    · have := hw (((lits .i64 (zs.take len) : List (DataW H)).length + (lits .i64 (zs.drop len) : List (DataW H)).length) * Try.prog.bytesOf 3) (by rw [hx]; simp [DataW.weights, Try.underlying29])
      rw [bytes_int] at this
      simp [lits, reachBytes] at this
      simp
      omega
    · by_cases h0 : len = 0
      · subst h0; exact Or.inl rfl
      · obtain ⟨b, off, rfl, hc⟩ := ints_at hcell (by omega)
        refine Or.inr ⟨b, off, rfl, ⟨cell_lt (hc 0 (by omega)), fun i y hy => ?_⟩, fun h => ?_⟩
        · have hi : i < len := by
            have := (List.getElem?_eq_some_iff.1 hy).1
            simp at this; omega
          rw [hc i (by omega)]
          rw [List.getElem?_take_of_lt hi] at hy
          rw [List.getD_eq_getElem?_getD, hy]; rfl
        · have := cell_lt (hc 0 (by omega))
          omega

end

end Go.Proofs.Ytloppmepfkkblaa
end

section
/- The keep's 'played', 'same'; a kernel's view. -/
open Go Go.Proofs Go.RowKit
namespace Go.Proofs.Ytloppmepfkkblaa

/-- A call: a tick or a trap. -/
def MS.call (M : MS) (c : Int × List Int) : MS := if c.1 = -1 then M.tick else (M.trap c.1 c.2).2
def MS.plays (M : MS) (cs : List (Int × List Int)) : MS := cs.foldl MS.call M
theorem MS.plays_take {M : MS} {cs : List (Int × List Int)} {k : Nat} {c : Int × List Int} (h : cs[k]? = some c) : M.plays (cs.take (k + 1)) = (M.plays (cs.take k)).call c := by
  unfold MS.plays
  rw [List.take_add_one, h, List.foldl_append]
  rfl

/-- A trap's arguments, as they lie. -/
def ArgV (w : World) (v : Value) (xs : List Int) : Prop := (v = .slice none 0 0 ∧ xs = []) ∨ ∃ la cap, v = .slice (some la) xs.length cap ∧ (xs = [] ∨ ∃ lb lo, la = ⟨lb, lo, none⟩ ∧ Arg w lb lo xs) ∧ Fits xs
theorem ArgV.later {w w' : World} {v : Value} {xs : List Int} (h : ArgV w v xs) (hb : Below w.heap.size w w') : ArgV w' v xs := by
  rcases h with h | ⟨la, cap, h1, h2, h3⟩
  · exact Or.inl h
  · refine Or.inr ⟨la, cap, h1, h2.imp id (fun ⟨lb, lo, e, ha⟩ => ⟨lb, lo, e, ha.below hb ha.lt⟩), h3⟩
theorem ArgV.form {w : World} {v : Value} {xs : List Int} (h : ArgV w v xs) : ∃ a n c, v = .slice a n c := by
  rcases h with ⟨h, _⟩ | ⟨la, cap, h, _⟩
  · exact ⟨_, _, _, h⟩
  · exact ⟨_, _, _, h⟩

/-- Calls, as they lie. -/
def CallsAt (w : World) (sa : Option Addr) (cs : List (Int × List Int)) : Prop :=
  cs = [] ∨ ∃ sb so, sa = some ⟨sb, so, none⟩ ∧ sb < w.heap.size ∧ ∀ i c, cs[i]? = some c → ∃ v, w.cell? ⟨sb, so + i * 2, none⟩ = some (.int .i64 c.1) ∧ w.cell? ⟨sb, so + i * 2 + 1, none⟩ = some v ∧ ArgV w v c.2

section
variable {w w' : World} {kb : Nat} {F : Nat → Prop} {M : MS}

theorem kn_trapV (h : Kn w kb F M) (n : Int) {v : Value} {xs : List Int} (ha : ArgV w v xs) :
    Calls Try.prog 19 #[.pointer (some ⟨kb, 0, none⟩), .int .i64 n, v] w fun e w' => e = .returned (M.out n xs) ∧ KnGoes w kb F (M.trap n xs).2 w' := by
  rcases ha with ⟨rfl, rfl⟩ | ⟨la, cap, rfl, h2, h3⟩
  · exact kn_trap h n [] none 0 (fun x hx => by cases hx) (Or.inl rfl)
  · exact kn_trap h n xs (some la) cap h3 (h2.imp id (fun ⟨lb, lo, e, ha⟩ => ⟨lb, lo, by rw [e], ha⟩))

theorem kn_view (h : Kn w kb F M) (lab : Int) :
    Calls Try.prog 12 #[.pointer (some ⟨kb, 0, none⟩), .int .i64 lab] w fun e w' => ∃ v, e = .returned v ∧ Outs w' w.heap.size v (viewM M lab) ∧ Kn w' kb F M ∧ Fr F w w' := by
  obtain ⟨ob, cb, qp, h1, h2, h3⟩ := h
  refine (p_view h1 h2 lab).mono ?_
  rintro e w' ⟨v, rfl, g1, g2, g3⟩
  exact ⟨v, rfl, g1, ⟨ob, cb, qp, g2, h2, h3⟩, g3.mono (fun k _ hk => (h3 k).1 hk)⟩

/-- Its blocks are new since B; all ahead of B is as it was in w0. -/
theorem KnGoes.since {w0 : World} {M' : MS} {B : Nat} (hF : ∀ k, F k → B ≤ k) (hB : B ≤ w.heap.size) (hb : Below B w0 w) (h : KnGoes w kb F M' w') : ∃ F', Kn w' kb F' M' ∧ (∀ k, F' k → B ≤ k) ∧ Below B w0 w' := by
  obtain ⟨F', g1, g2, g3⟩ := h
  exact ⟨F', g1, fun k hk => (g2 k hk).elim (hF k) (fun h => by omega), hb.trans (Fr.below_lo g3 hF hB)⟩
end

set_option maxRecDepth 100000 in
set_option maxHeartbeats 4000000 in
theorem played_any (w : World) (sa : Option Addr) (n cap : Nat) (cs : List (Int × List Int)) (hn : cs.length = n) (hn4 : n ≤ 17592186043904) (hs : CallsAt w sa cs) :
    Calls Try.prog 17 #[.slice sa n cap] w fun e w' => ∃ kb F, e = .returned (.pointer (some ⟨kb, 0, none⟩)) ∧ Kn w' kb F (MS.boot.plays cs) ∧ (∀ k, F k → w.heap.size ≤ k) ∧ Below w.heap.size w w' := by
  have HS := hide hs
  have HB := hide (booted_any w)
  clear hs
  go_enter Try.func17, Try.ntmps17
  go_wp2_with fail
  refine HB.out.mono ?_
  clear HB
  rintro e w1 ⟨kb, F1, rfl, k1, f1, b1⟩
  have K1 := hide k1
  have HF1 := hide f1
  have B1 := hide b1
  clear k1 f1 b1
  go_wp2_with fail
  go_loopw [4] (fun i w' => ∃ (k : Nat) (F : Nat → Prop), k ≤ n ∧ i = .int .i64 k ∧ Kn w' kb F (MS.boot.plays (cs.take k)) ∧ (∀ k, F k → w.heap.size ≤ k) ∧ Below w.heap.size w w') (fun i _ => n - (intOf i).toNat)
  case atStart => exact ⟨0, F1, by omega, rfl, K1.out, HF1.out, B1.out⟩
  case round =>
    obtain ⟨k, F2, hk, rfl, k2, f2, b2⟩ := hrel
    clear K1 HF1 B1
    have K2 := hide k2
    have HF2 := hide f2
    have B2 := hide b2
    have hsz := b2.size
    by_cases hkn : k < n
    · have hki : (k : Int) < (n : Int) := by omega
      obtain ⟨c, hc⟩ : ∃ c, cs[k]? = some c := ⟨_, List.getElem?_eq_getElem (by omega)⟩
      obtain ⟨sb, so, hsa, hsb, hcs⟩ := HS.out.resolve_left (fun e => by rw [e] at hc; simp at hc)
      subst hsa
      obtain ⟨v, c0, c1, ha⟩ := hcs k c hc
      have d0 := (cell_same (b2.block sb hsb) _).trans c0
      have d1 := (cell_same (b2.block sb hsb) _).trans c1
      have hsb' : sb < wr.heap.size := by omega
      have EP := hide (MS.plays_take (M := MS.boot) hc)
      have HA := hide (ha.later b2)
      obtain ⟨va, vn, vc, hv⟩ := ha.form
      subst hv
      clear k2 f2 b2 c0 c1 ha hcs hc
      by_cases ht : c.1 = -1
      · have ec : Hid ((MS.boot.plays (cs.take k)).call c = (MS.boot.plays (cs.take k)).tick) := if_pos ht
        rw [ht] at d0
        clear ht
        go_wp2_with fail
        refine (kn_tick K2.out).mono ?_
        rintro e w4 ⟨rfl, h4⟩
        have H4 := hide (h4.since HF2.out hsz B2.out)
        clear h4
        go_wp2_with fail
        obtain ⟨F4, g1, g2, g3⟩ := H4.out
        exact ⟨⟨k + 1, F4, by omega, by go_num, by rw [EP.out, ec.out]; exact g1, g2, g3⟩, by simp [intOf]; omega⟩
      · have ec : Hid ((MS.boot.plays (cs.take k)).call c = ((MS.boot.plays (cs.take k)).trap c.1 c.2).2) := if_neg ht
        go_wp2_with fail
        go_still_tail 11, (by kernel_rfl)
        go_wp2_with fail
        have hd : Below wr.heap.size wr wr.drew := (Below.refl _ _).drew
        refine (kn_trapV (K2.out.below hd) c.1 (HA.out.later hd)).mono ?_
        rintro e w4 ⟨rfl, h4⟩
        have H4 := hide (h4.since HF2.out (by have := hd.size; omega) (B2.out.trans (hd.mono hsz)))
        clear h4 hd
        generalize (MS.boot.plays (cs.take k)).out c.1 c.2 = ov
        go_wp2_with fail
        obtain ⟨F4, g1, g2, g3⟩ := H4.out
        exact ⟨⟨k + 1, F4, by omega, by go_num, by rw [EP.out, ec.out]; exact g1, g2, g3⟩, by simp [intOf]; omega⟩
    · have : k = n := by omega
      subst this
      clear k2 f2 b2
      have ef : cs.take k = cs := List.take_of_length_le (by omega)
      rw [ef] at K2
      go_wp2_with fail
      go_ret
      exact ⟨kb, F2, rfl, K2.out, HF2.out, B2.out⟩

/-- Is one row the other? -/
theorem take_ne {xs ys : List Int} {j : Nat} {x y : Int} (hx : xs[j]? = some x) (hy : ys[j]? = some y) (h : x ≠ y) : xs ≠ ys := fun e => h (by rw [e, hy] at hx; injection hx with hx; exact hx.symm)

set_option maxRecDepth 100000 in
set_option maxHeartbeats 4000000 in
theorem same_any (w : World) (Bx By : Nat) (vx vy : Value) (xs ys : List Int) (hx : Outs w Bx vx xs) (hy : Outs w By vy ys) (hl : xs.length ≤ 1000000) :
    Calls Try.prog 11 #[vx, vy] w fun e w' => e = .returned (.bool (decide (xs = ys))) ∧ Below w.heap.size w w' := by
  obtain ⟨xa, xc, rfl⟩ := hx.form'
  obtain ⟨ya, yc, rfl⟩ := hy.form'
  have AX := hide hx.arg
  have AY := hide hy.arg
  clear hx hy
  by_cases hlen : xs.length = ys.length
  · rw [← hlen]
    have HLEN := hide hlen
    clear hlen
    go_enter Try.func11, Try.ntmps11
    go_wp2_with fail
    go_loopw [5] (fun i w' => ∃ k : Nat, k ≤ xs.length ∧ i = .int .i64 k ∧ xs.take k = ys.take k ∧ Below w.heap.size w w') (fun i _ => xs.length - (intOf i).toNat)
    case atStart => exact ⟨0, by omega, rfl, rfl, Below.refl _ _⟩
    case round =>
      obtain ⟨k, hk, rfl, heq, hb⟩ := hrel
      have HB := hide hb
      have HEQ := hide heq
      clear heq
      by_cases hkn : k < xs.length
      · have hki : (k : Int) < (xs.length : Int) := by omega
        obtain ⟨x, hx⟩ : ∃ x, xs[k]? = some x := ⟨_, List.getElem?_eq_getElem hkn⟩
        obtain ⟨y, hy⟩ : ∃ y, ys[k]? = some y := ⟨_, List.getElem?_eq_getElem (by have := HLEN.out; omega)⟩
        obtain ⟨gx, cx, ex, _, ax⟩ := AX.out.resolve_left (fun e => by rw [e] at hx; simp at hx)
        obtain ⟨gy, cy, ey, _, ay⟩ := AY.out.resolve_left (fun e => by rw [e] at hy; simp at hy)
        injection ex with ex _ ecx
        injection ey with ey _ ecy
        subst ex ey ecx ecy
        have d0 := (cell_same (hb.block gx ax.lt) _).trans (ax.cell k x hx)
        have d1 := (cell_same (hb.block gy ay.lt) _).trans (ay.cell k y hy)
        rw [Nat.zero_add] at d0 d1
        have l0 := ax.lt
        have l1 := ay.lt
        have hz := hb.size
        have l2 : gx < wr.heap.size := by omega
        have l3 : gy < wr.heap.size := by omega
        have HX := hide hx
        have HY := hide hy
        clear ax ay hb hx hy
        by_cases hxy : x = y
        · subst hxy
          have EQ1 : Hid (xs.take (k + 1) = ys.take (k + 1)) := by
            unfold Hid
            rw [List.take_add_one, List.take_add_one, HX.out, HY.out, HEQ.out]
          go_wp2_with fail
          go_still (by kernel_rfl)
          go_wp2_with fail
          exact ⟨⟨k + 1, by omega, by go_num, EQ1.out, HB.out.drew⟩, by simp [intOf]; omega⟩
        · have NE := hide (take_ne HX.out HY.out hxy)
          go_wp2_with fail
          go_still (by kernel_rfl)
          go_wp2_with fail
          go_ret
          exact ⟨by rw [decide_eq_false NE.out]; rfl, HB.out.drew⟩
      · have : k = xs.length := by omega
        subst this
        have E := HEQ.out
        rw [List.take_length, HLEN.out, List.take_length] at E
        have HE := hide E
        clear E hb
        go_wp2_with fail
        go_ret
        exact ⟨by rw [decide_eq_true HE.out]; rfl, HB.out⟩
  · have hne : xs ≠ ys := fun e => hlen (by rw [e])
    have HNE := hide hne
    have hli : ¬ ((xs.length : Int) = (ys.length : Int)) := by omega
    clear hne
    go_enter Try.func11, Try.ntmps11
    go_wp2_with fail
    go_ret
    exact ⟨by rw [decide_eq_false HNE.out]; rfl, Below.refl _ _⟩

end Go.Proofs.Ytloppmepfkkblaa
end

section
/- What comes in to the keep's statements: calls, opened at every index. -/
open Go Go.Proofs Go.RowKit Go.ChangeShapes Go.WideShapes Go.ChangeAt
namespace Go.Proofs.Ytloppmepfkkblaa

theorem bytes_call : Try.prog.bytesOf 39 = 32 := by kernel_rfl
theorem cells_call : Try.prog.cellsOf 39 = 2 := by kernel_rfl

theorem ArgsV.argV {w : World} {F : Nat → Prop} {v : Value} (h : ArgsV w F v) : ∃ xs, ArgV w v xs := by
  rcases h with rfl | ⟨la, xs, cap, rfl, h⟩
  · exact ⟨[], Or.inl ⟨rfl, rfl⟩⟩
  · exact ⟨xs, Or.inr ⟨la, cap, rfl, h.at'.imp id (fun ⟨lb, lo, e, ha, _⟩ => ⟨lb, lo, e, ha⟩), h.wf⟩⟩

theorem calls_of {W : World} {b off n : Nat} (hb : b < W.heap.size) (h : ∀ i, i < n → ∃ (c : Int × List Int) (v : Value), W.cell? ⟨b, off + i * 2, none⟩ = some (.int .i64 c.1) ∧ W.cell? ⟨b, off + i * 2 + 1, none⟩ = some v ∧ ArgV W v c.2) : ∃ cs : List (Int × List Int), cs.length = n ∧ CallsAt W (some ⟨b, off, none⟩) cs := by
  have hc : ∀ i, ∃ c : Int × List Int, i < n → ∃ v, W.cell? ⟨b, off + i * 2, none⟩ = some (.int .i64 c.1) ∧ W.cell? ⟨b, off + i * 2 + 1, none⟩ = some v ∧ ArgV W v c.2 := fun i => by
    by_cases hi : i < n
    · obtain ⟨c, v, h1⟩ := h i hi
      exact ⟨c, fun _ => ⟨v, h1⟩⟩
    · exact ⟨(0, []), fun h => absurd h hi⟩
  refine ⟨(List.range n).map (fun i => Classical.choose (hc i)), by simp, Or.inr ⟨b, off, rfl, hb, fun i c hi => ?_⟩⟩
  rw [List.getElem?_map] at hi
  have hin : i < n := by
    rcases Nat.lt_or_ge i n with h1 | h1
    · exact h1
    · rw [List.getElem?_eq_none (by simpa using h1)] at hi; cases hi
  rw [List.getElem?_range hin] at hi
  injection hi with hi
  subst hi
  exact Classical.choose_spec (hc i) hin

theorem trod_two {H : Type} {enc : TypeId × Value → H} {P : Program} {w : World} {base : Nat} {spare : Nat → Bool} {held : Bool} {t : TypeId} {f0 f1 : Field} {fuel : Nat} {cs : List Value} {x : DataW H × List MemPlace} (ht : P.underlying t = some (.struct #[f0, f1])) (h : DataW.trod enc P w base spare held fuel t cs = some x) :
    ∃ y0 y1 n, x = (.agg [y0.1, y1.1], y0.2 ++ y1.2) ∧ cs.length = P.cellsOf t ∧ DataW.trod enc P w base spare held n f0.type ((cs.drop f0.offset).take (P.cellsOf f0.type)) = some y0 ∧
      DataW.trod enc P w base spare held n f1.type ((cs.drop f1.offset).take (P.cellsOf f1.type)) = some y1 := by
  obtain ⟨xs, n, _, rfl, hl, hlen, hf⟩ := DataW.trod_struct ht h
  match xs, hlen with
  | [y0, y1], _ => exact ⟨y0, y1, n, by simp, hl, by simpa using hf 0 f0 rfl, by simpa using hf 1 f1 rfl⟩

section
variable {H : Type} {enc : TypeId × Value → H} {W : World}

set_option maxRecDepth 100000 in
theorem calls_open {fuel : Nat} {sa : Option Addr} {n cap : Nat} {x : DataW H × List MemPlace} (h : DataW.trod enc Try.prog W 0 (fun _ => true) true fuel 22 [.slice sa n cap] = some x) (hw : ∀ k ∈ x.1.weights Try.prog 22, k ≤ reachBytes) :
    ∃ cs : List (Int × List Int), cs.length = n ∧ n ≤ 17592186043904 ∧ CallsAt W sa cs := by
  rcases Deep.open_slice Try.underlying22 h with ⟨hcs, _⟩ | ⟨a, len, cap', m, k, D, Pl, hcs, _, hl, hm, hmm, hx, hel⟩
  · simp at hcs
    obtain ⟨rfl, rfl, rfl⟩ := hcs
    exact ⟨[], rfl, by omega, Or.inl rfl⟩
  · simp at hcs hmm
    obtain ⟨rfl, rfl, rfl⟩ := hcs
    subst hmm
    have hb := hw ((((List.range n).map D).length + ((List.range (m - n)).map fun j => D (n + j)).length) * Try.prog.bytesOf 39) (by rw [hx]; simp [DataW.weights, Try.underlying22])
    rw [bytes_call] at hb
    simp [reachBytes] at hb
    by_cases h0 : n = 0
    · subst h0
      exact ⟨[], rfl, by omega, Or.inl rfl⟩
    · have each : ∀ i, i < n → ∃ v0 v1 y0 y1 q, W.cell? (a.add (i * 2)) = some v0 ∧ W.cell? (a.add (i * 2 + 1)) = some v1 ∧
          DataW.trod enc Try.prog W 0 (fun _ => true) true q 3 [v0] = some y0 ∧ DataW.trod enc Try.prog W 0 (fun _ => true) true q 29 [v1] = some y1 ∧ D i = .agg [y0.1, y1.1] := by
        intro i hi
        obtain ⟨cs', g1, g2⟩ := hel i (by omega)
        rw [cells_call] at g1
        obtain ⟨_, hlen, hcell⟩ := World.cells?_some g1
        obtain ⟨y0, y1, q, hy, _, t0, t1⟩ := trod_two Try.underlying39 g2
        simp only [Prod.mk.injEq] at hy
        match cs', hlen with
        | [v0, v1], _ =>
          have e0 := hcell 0 (by omega)
          have e1 := hcell 1 (by omega)
          rw [Deep.add_add] at e0 e1
          simp [cells_int, cells_ints] at t0 t1
          exact ⟨v0, v1, y0, y1, q, by simpa using e0, by simpa using e1, t0, t1, hy.1⟩
      obtain ⟨b, off, spot⟩ := a
      have hspot : spot = none := by
        obtain ⟨v0, _, _, _, _, c0, _⟩ := each 0 (by omega)
        simpa [Addr.add] using World.cell?_spot c0
      subst hspot
      have hadd : ∀ j, (⟨b, off, none⟩ : Addr).add j = ⟨b, off + j, none⟩ := fun j => by rw [add_plain]
      have hbl : b < W.heap.size := by
        obtain ⟨v0, _, _, _, _, c0, _⟩ := each 0 (by omega)
        rw [hadd] at c0
        exact cell_lt c0
      obtain ⟨cs, h1, h2⟩ := calls_of (W := W) (b := b) (off := off) (n := n) hbl (fun i hi => by
        obtain ⟨v0, v1, y0, y1, q, c0, c1, t0, t1, hD⟩ := each i hi
        rw [hadd] at c0 c1
        obtain ⟨K, hK, _, wK⟩ := DataW.trod_int Try.underlying3 t0
        simp at hK
        subst hK
        obtain ⟨xs, hxs⟩ := (args_open t1 (fun k hk => hw k (by
          rw [hx]
          simp only [DataW.weights, Try.underlying22, List.mem_cons, List.mem_append]
          refine Or.inr (Or.inl (weightsAll_mem (d := D i) (List.mem_map.2 ⟨i, List.mem_range.2 hi, rfl⟩) k ?_))
          rw [hD]
          simp only [DataW.weights, Try.underlying39]
          exact DataW.weights_mem_each (ts := [3, 29]) (j := 1) rfl rfl k hk))).argV
        exact ⟨(K, xs), v1, c0, c1, hxs⟩)
      exact ⟨cs, h1, by omega, h2⟩
end

end Go.Proofs.Ytloppmepfkkblaa
end

section
/- 'Apart' gives true. -/
open Go Go.Proofs Go.RowKit
namespace Go.Proofs.Ytloppmepfkkblaa

/-- Four kernels apart from one another, in memory that is new since w0. -/
structure Ks (w0 w : World) (k0 k1 k2 k3 : Nat) (M0 M1 M2 M3 : MS) : Prop where
  all : ∃ F0 F1 F2 F3 : Nat → Prop, Kn w k0 F0 M0 ∧ Kn w k1 F1 M1 ∧ Kn w k2 F2 M2 ∧ Kn w k3 F3 M3 ∧ (∀ k, F0 k → ¬ F1 k ∧ ¬ F2 k ∧ ¬ F3 k) ∧ (∀ k, F1 k → ¬ F2 k ∧ ¬ F3 k) ∧ (∀ k, F2 k → ¬ F3 k) ∧ ∀ k, F0 k ∨ F1 k ∨ F2 k ∨ F3 k → w0.heap.size ≤ k
  old : Below w0.heap.size w0 w

section
variable {w0 w w' : World} {k0 k1 k2 k3 : Nat} {M0 M1 M2 M3 : MS}

theorem Ks.later (h : Ks w0 w k0 k1 k2 k3 M0 M1 M2 M3) (hb : Below w.heap.size w w') : Ks w0 w' k0 k1 k2 k3 M0 M1 M2 M3 := by
  obtain ⟨F0, F1, F2, F3, h0, h1, h2, h3, d⟩ := h.all
  exact ⟨⟨F0, F1, F2, F3, h0.below hb, h1.below hb, h2.below hb, h3.below hb, d⟩, h.old.trans (hb.mono h.old.size)⟩

theorem Ks.zero (h : Ks w0 w k0 k1 k2 k3 M0 M1 M2 M3) : ∃ F, Kn w k0 F M0 ∧ ∀ w' M', KnGoes w k0 F M' w' → Ks w0 w' k0 k1 k2 k3 M' M1 M2 M3 := by
  obtain ⟨F0, F1, F2, F3, h0, h1, h2, h3, d0, d1, d2, hF⟩ := h.all
  refine ⟨F0, h0, ?_⟩
  rintro w' M' ⟨F', g1, g2, g3⟩
  have hz := h.old.size
  refine ⟨⟨F', F1, F2, F3, g1, h1.fr g3 (fun k a b => (d0 k b).1 a), h2.fr g3 (fun k a b => (d0 k b).2.1 a), h3.fr g3 (fun k a b => (d0 k b).2.2 a), fun k hk => ?_, d1, d2, fun k hk => ?_⟩, h.old.trans (g3.below_lo (fun k hk => hF k (Or.inl hk)) hz)⟩
  · rcases g2 k hk with h | h
    · exact d0 k h
    · exact ⟨fun x => by have := h1.lt x; omega, fun x => by have := h2.lt x; omega, fun x => by have := h3.lt x; omega⟩
  · rcases hk with hk | hk
    · rcases g2 k hk with h | h
      · exact hF k (Or.inl h)
      · omega
    · exact hF k (Or.inr hk)

theorem Ks.swap (h : Ks w0 w k0 k1 k2 k3 M0 M1 M2 M3) : Ks w0 w k1 k0 k2 k3 M1 M0 M2 M3 := by
  obtain ⟨F0, F1, F2, F3, h0, h1, h2, h3, d0, d1, d2, hF⟩ := h.all
  exact ⟨⟨F1, F0, F2, F3, h1, h0, h2, h3, fun k hk => ⟨fun x => (d0 k x).1 hk, (d1 k hk).1, (d1 k hk).2⟩, fun k hk => ⟨(d0 k hk).2.1, (d0 k hk).2.2⟩, d2, fun k hk => hF k (by rcases hk with h | h | h | h <;> simp [h])⟩, h.old⟩
theorem Ks.swap2 (h : Ks w0 w k0 k1 k2 k3 M0 M1 M2 M3) : Ks w0 w k2 k1 k0 k3 M2 M1 M0 M3 := by
  obtain ⟨F0, F1, F2, F3, h0, h1, h2, h3, d0, d1, d2, hF⟩ := h.all
  exact ⟨⟨F2, F1, F0, F3, h2, h1, h0, h3, fun k hk => ⟨fun x => (d1 k x).1 hk, fun x => (d0 k x).2.1 hk, d2 k hk⟩, fun k hk => ⟨fun x => (d0 k x).1 hk, (d1 k hk).2⟩, fun k hk => (d0 k hk).2.2, fun k hk => hF k (by rcases hk with h | h | h | h <;> simp [h])⟩, h.old⟩
theorem Ks.swap3 (h : Ks w0 w k0 k1 k2 k3 M0 M1 M2 M3) : Ks w0 w k3 k1 k2 k0 M3 M1 M2 M0 := by
  obtain ⟨F0, F1, F2, F3, h0, h1, h2, h3, d0, d1, d2, hF⟩ := h.all
  exact ⟨⟨F3, F1, F2, F0, h3, h1, h2, h0, fun k hk => ⟨fun x => (d1 k x).2 hk, fun x => d2 k x hk, fun x => (d0 k x).2.2 hk⟩, fun k hk => ⟨(d1 k hk).1, fun x => (d0 k x).1 hk⟩, fun k hk x => (d0 k x).2.1 hk, fun k hk => hF k (by rcases hk with h | h | h | h <;> simp [h])⟩, h.old⟩

theorem Ks.step0 (h : Ks w0 w k0 k1 k2 k3 M0 M1 M2 M3) : ∃ F, Kn w k0 F M0 ∧ ∀ w' M', KnGoes w k0 F M' w' → Ks w0 w' k0 k1 k2 k3 M' M1 M2 M3 := h.zero
theorem Ks.step1 (h : Ks w0 w k0 k1 k2 k3 M0 M1 M2 M3) : ∃ F, Kn w k1 F M1 ∧ ∀ w' M', KnGoes w k1 F M' w' → Ks w0 w' k0 k1 k2 k3 M0 M' M2 M3 := by
  obtain ⟨F, h1, h2⟩ := h.swap.zero
  exact ⟨F, h1, fun w' M' g => (h2 w' M' g).swap⟩
theorem Ks.step2 (h : Ks w0 w k0 k1 k2 k3 M0 M1 M2 M3) : ∃ F, Kn w k2 F M2 ∧ ∀ w' M', KnGoes w k2 F M' w' → Ks w0 w' k0 k1 k2 k3 M0 M1 M' M3 := by
  obtain ⟨F, h1, h2⟩ := h.swap2.zero
  exact ⟨F, h1, fun w' M' g => (h2 w' M' g).swap2⟩
theorem Ks.step3 (h : Ks w0 w k0 k1 k2 k3 M0 M1 M2 M3) : ∃ F, Kn w k3 F M3 ∧ ∀ w' M', KnGoes w k3 F M' w' → Ks w0 w' k0 k1 k2 k3 M0 M1 M2 M' := by
  obtain ⟨F, h1, h2⟩ := h.swap3.zero
  exact ⟨F, h1, fun w' M' g => (h2 w' M' g).swap3⟩

theorem now_form (M : MS) : ∃ (nt : Int) (nl : Nat), M.now = nowV M.ph nt nl := by
  unfold MS.now
  cases M.cur with
  | none => exact ⟨-1, 0, rfl⟩
  | some s => exact ⟨s, _, rfl⟩

theorem plays_stop {M : MS} {cs : List (Int × List Int)} {k : Nat} (h : cs.length ≤ k) : M.plays (cs.take (k + 1)) = M.plays (cs.take k) := by
  rw [List.take_of_length_le h, List.take_of_length_le (by omega)]

theorem ks_start {w w1 w2 w3 w4 : World} {F0 F1 F2 F3 : Nat → Prop} (b1 : Below w.heap.size w w1) (b2 : Below w1.heap.size w1 w2) (b3 : Below w2.heap.size w2 w3) (b4 : Below w3.heap.size w3 w4)
    (h0 : Kn w1 k0 F0 M0) (h1 : Kn w2 k1 F1 M1) (h2 : Kn w3 k2 F2 M2) (h3 : Kn w4 k3 F3 M3) (f0 : ∀ k, F0 k → w.heap.size ≤ k) (f1 : ∀ k, F1 k → w1.heap.size ≤ k) (f2 : ∀ k, F2 k → w2.heap.size ≤ k) (f3 : ∀ k, F3 k → w3.heap.size ≤ k) : Ks w w4 k0 k1 k2 k3 M0 M1 M2 M3 := by
  have s1 := b1.size
  have s2 := b2.size
  have s3 := b3.size
  have s4 := b4.size
  have l0 := fun k (hk : F0 k) => h0.lt hk
  have l1 := fun k (hk : F1 k) => h1.lt hk
  have l2 := fun k (hk : F2 k) => h2.lt hk
  refine ⟨⟨F0, F1, F2, F3, ((h0.below b2).below b3).below b4, (h1.below b3).below b4, h2.below b4, h3, fun k hk => ⟨fun x => ?_, fun x => ?_, fun x => ?_⟩, fun k hk => ⟨fun x => ?_, fun x => ?_⟩, fun k hk x => ?_, fun k hk => ?_⟩, ((b1.trans (b2.mono s1)).trans (b3.mono (by omega))).trans (b4.mono (by omega))⟩
  · have := l0 k hk; have := f1 k x; omega
  · have := l0 k hk; have := f2 k x; omega
  · have := l0 k hk; have := f3 k x; omega
  · have := l1 k hk; have := f2 k x; omega
  · have := l1 k hk; have := f3 k x; omega
  · have := l2 k hk; have := f3 k x; omega
  · rcases hk with h | h | h | h
    · exact f0 k h
    · have := f1 k h; omega
    · have := f2 k h; omega
    · have := f3 k h; omega
end

/-- Four kernels, their blocks fixed. -/
structure V4 (w0 w : World) (k0 k1 k2 k3 : Nat) (F0 F1 F2 F3 : Nat → Prop) (M0 M1 M2 M3 : MS) : Prop where
  h0 : Kn w k0 F0 M0
  h1 : Kn w k1 F1 M1
  h2 : Kn w k2 F2 M2
  h3 : Kn w k3 F3 M3
  d0 : ∀ k, F0 k → ¬ F1 k ∧ ¬ F2 k ∧ ¬ F3 k
  d1 : ∀ k, F1 k → ¬ F2 k ∧ ¬ F3 k
  d2 : ∀ k, F2 k → ¬ F3 k
  lo : ∀ k, F0 k ∨ F1 k ∨ F2 k ∨ F3 k → w0.heap.size ≤ k
  old : Below w0.heap.size w0 w

section
variable {w0 w w' : World} {k0 k1 k2 k3 : Nat} {F0 F1 F2 F3 : Nat → Prop} {M0 M1 M2 M3 : MS}
theorem V4.later (h : V4 w0 w k0 k1 k2 k3 F0 F1 F2 F3 M0 M1 M2 M3) (hb : Below w.heap.size w w') : V4 w0 w' k0 k1 k2 k3 F0 F1 F2 F3 M0 M1 M2 M3 :=
  ⟨h.h0.below hb, h.h1.below hb, h.h2.below hb, h.h3.below hb, h.d0, h.d1, h.d2, h.lo, h.old.trans (hb.mono h.old.size)⟩
theorem V4.go0 (h : V4 w0 w k0 k1 k2 k3 F0 F1 F2 F3 M0 M1 M2 M3) (k : Kn w' k0 F0 M0) (f : Fr F0 w w') : V4 w0 w' k0 k1 k2 k3 F0 F1 F2 F3 M0 M1 M2 M3 :=
  ⟨k, h.h1.fr f (fun k a b => (h.d0 k b).1 a), h.h2.fr f (fun k a b => (h.d0 k b).2.1 a), h.h3.fr f (fun k a b => (h.d0 k b).2.2 a), h.d0, h.d1, h.d2, h.lo, h.old.trans (f.below_lo (fun k hk => h.lo k (Or.inl hk)) h.old.size)⟩
theorem V4.go1 (h : V4 w0 w k0 k1 k2 k3 F0 F1 F2 F3 M0 M1 M2 M3) (k : Kn w' k1 F1 M1) (f : Fr F1 w w') : V4 w0 w' k0 k1 k2 k3 F0 F1 F2 F3 M0 M1 M2 M3 :=
  ⟨h.h0.fr f (fun k a b => (h.d0 k a).1 b), k, h.h2.fr f (fun k a b => (h.d1 k b).1 a), h.h3.fr f (fun k a b => (h.d1 k b).2 a), h.d0, h.d1, h.d2, h.lo, h.old.trans (f.below_lo (fun k hk => h.lo k (Or.inr (Or.inl hk))) h.old.size)⟩
theorem V4.go2 (h : V4 w0 w k0 k1 k2 k3 F0 F1 F2 F3 M0 M1 M2 M3) (k : Kn w' k2 F2 M2) (f : Fr F2 w w') : V4 w0 w' k0 k1 k2 k3 F0 F1 F2 F3 M0 M1 M2 M3 :=
  ⟨h.h0.fr f (fun k a b => (h.d0 k a).2.1 b), h.h1.fr f (fun k a b => (h.d1 k a).1 b), k, h.h3.fr f (fun k a b => h.d2 k b a), h.d0, h.d1, h.d2, h.lo, h.old.trans (f.below_lo (fun k hk => h.lo k (Or.inr (Or.inr (Or.inl hk)))) h.old.size)⟩
theorem V4.go3 (h : V4 w0 w k0 k1 k2 k3 F0 F1 F2 F3 M0 M1 M2 M3) (k : Kn w' k3 F3 M3) (f : Fr F3 w w') : V4 w0 w' k0 k1 k2 k3 F0 F1 F2 F3 M0 M1 M2 M3 :=
  ⟨h.h0.fr f (fun k a b => (h.d0 k a).2.2 b), h.h1.fr f (fun k a b => (h.d1 k a).2 b), h.h2.fr f (fun k a b => h.d2 k a b), k, h.d0, h.d1, h.d2, h.lo, h.old.trans (f.below_lo (fun k hk => h.lo k (Or.inr (Or.inr (Or.inr hk)))) h.old.size)⟩
end
theorem KnGoes.from {w w1 w' : World} {kb : Nat} {F : Nat → Prop} {M' : MS} (h : KnGoes w1 kb F M' w') (hb : Below w.heap.size w w1) : KnGoes w kb F M' w' := by
  obtain ⟨F', h1, h2, h3⟩ := h
  exact ⟨F', h1, fun k hk => (h2 k hk).imp id (fun h => Nat.le_trans hb.size h), ((Fr.of_below hb : Fr (fun _ => False) w w1).mono (fun _ _ h => h.elim)).trans h3⟩
theorem CallsAt.later {w w' : World} {sa : Option Addr} {cs : List (Int × List Int)} (h : CallsAt w sa cs) (hb : Below w.heap.size w w') : CallsAt w' sa cs := by
  rcases h with h | ⟨sb, so, h1, h2, h3⟩
  · exact Or.inl h
  · refine Or.inr ⟨sb, so, h1, Nat.lt_of_lt_of_le h2 hb.size, fun i c hc => ?_⟩
    obtain ⟨v, c0, c1, ha⟩ := h3 i c hc
    exact ⟨v, (cell_same (hb.block sb h2) _).trans c0, (cell_same (hb.block sb h2) _).trans c1, ha.later hb⟩

/-- A call that stands at place k of a script, in later memory. -/
theorem CallsAt.get {w w' : World} {sa : Option Addr} {cs : List (Int × List Int)} {k : Nat} (h : CallsAt w sa cs) (hk : k < cs.length) (hb : Below w.heap.size w w') :
    ∃ sb so c v, sa = some ⟨sb, so, none⟩ ∧ sb < w.heap.size ∧ cs[k]? = some c ∧ w'.cell? ⟨sb, so + k * 2, none⟩ = some (.int .i64 c.1) ∧ w'.cell? ⟨sb, so + k * 2 + 1, none⟩ = some v ∧ ArgV w' v c.2 := by
  obtain ⟨c, hc⟩ : ∃ c, cs[k]? = some c := ⟨_, List.getElem?_eq_getElem hk⟩
  obtain ⟨sb, so, hsa, hsb, hcs⟩ := h.resolve_left (fun e => by rw [e] at hc; simp at hc)
  obtain ⟨v, c0, c1, ha⟩ := hcs k c hc
  exact ⟨sb, so, c, v, hsa, hsb, hc, (cell_same (hb.block sb hsb) _).trans c0, (cell_same (hb.block sb hsb) _).trans c1, ha.later hb⟩

set_option maxRecDepth 100000 in
set_option maxHeartbeats 16000000 in
theorem apart_walk (w : World) (s1 s2 : Option Addr) (n1 n2 p1 p2 : Nat) (c1 c2 : List (Int × List Int)) (e1 : c1.length = n1) (e2 : c2.length = n2) (m1 : n1 ≤ 17592186043904) (m2 : n2 ≤ 17592186043904) (h1 : CallsAt w s1 c1) (h2 : CallsAt w s2 c2) :
    Calls Try.prog 8 #[.slice s1 n1 p1, .slice s2 n2 p2] w fun e w' => e = .returned (.bool true) ∧ Below w.heap.size w w' := by
  have CA1 := hide h1
  have CA2 := hide h2
  have E1 := hide e1
  have E2 := hide e2
  clear h1 h2 e1 e2
  go_enter Try.func8, Try.ntmps8
  go_wp2_with fail
  refine (booted_any w).mono ?_
  rintro e w1 ⟨k0, F0, rfl, a0, f0, b0⟩
  have A0 := hide a0
  have HF0 := hide f0
  have B0 := hide b0
  clear a0 f0 b0
  go_wp2_with fail
  refine (booted_any w1).mono ?_
  rintro e w2 ⟨k1, F1, rfl, a1, f1, b1⟩
  have A1 := hide a1
  have HF1 := hide f1
  have B1 := hide b1
  clear a1 f1 b1
  go_wp2_with fail
  have PL1 := hide (played_any w2 s1 n1 p1 c1 E1.out m1 (CA1.out.later (B0.out.trans (B1.out.mono B0.out.size))))
  refine PL1.out.mono ?_
  clear PL1
  rintro e w3 ⟨k2, F2, rfl, a2, f2, b2⟩
  have A2 := hide a2
  have HF2 := hide f2
  have B2 := hide b2
  clear a2 f2 b2
  go_wp2_with fail
  have PL2 := hide (played_any w3 s2 n2 p2 c2 E2.out m2 (CA2.out.later ((B0.out.trans (B1.out.mono B0.out.size)).trans (B2.out.mono (Nat.le_trans B0.out.size B1.out.size)))))
  refine PL2.out.mono ?_
  clear PL2
  rintro e w4 ⟨k3, F3, rfl, a3, f3, b3⟩
  have KS := hide (ks_start B0.out B1.out B2.out b3 A0.out A1.out A2.out a3 HF0.out HF1.out HF2.out f3)
  clear a3 f3 b3 A0 A1 A2 HF0 HF1 HF2 B0 B1 B2
  go_wp2_with fail
  go_loopw [9] (fun i w' => ∃ t : Nat, i = .int .i64 t ∧ (t ≤ n1 ∨ t ≤ n2) ∧ Ks w w' k0 k1 k2 k3 (MS.boot.plays (c1.take t)) (MS.boot.plays (c2.take t)) (MS.boot.plays c1) (MS.boot.plays c2)) (fun i _ => n1 + n2 - (intOf i).toNat)
  case atStart => exact ⟨0, rfl, by omega, KS.out⟩
  case round =>
    obtain ⟨t, rfl, ht, ks⟩ := hrel
    clear KS
    have KS := hide ks
    have hz := ks.old.size
    clear ks
    have ht4 : t ≤ 17592186043904 := by omega
    by_cases t1 : t < n1
    · have t1i : (t : Int) < (n1 : Int) := by omega
      obtain ⟨sb1, so1, d1, v1, hsa1, hsb1, hc1, q10, q11, av1⟩ := CA1.out.get (k := t) (by have := E1.out; omega) KS.out.old
      have AV1 := hide av1
      obtain ⟨va1, vn1, vc1, hv1⟩ := av1.form
      subst hv1
      subst hsa1
      have EP1 := hide (MS.plays_take (M := MS.boot) hc1)
      have hl1 : sb1 < wr.heap.size := by have := KS.out.old.size; omega
      obtain ⟨Fa1, ka1, go1⟩ := KS.out.step0
      have Ka1 := hide ka1
      have Go1 := hide go1
      clear av1 ka1 go1 hc1
      by_cases dt1 : d1.1 = -1
      · have ec : (MS.boot.plays (c1.take t)).call d1 = (MS.boot.plays (c1.take t)).tick := if_pos dt1
        rw [ec] at EP1
        rw [dt1] at q10
        clear ec dt1
        go_wp2_with fail
        refine (kn_tick Ka1.out).mono ?_
        rintro e w6 ⟨rfl, g⟩
        have KS6 := hide (Go1.out w6 _ g)
        have hz1 := KS6.out.old.size
        clear g KS Ka1 Go1
        by_cases t2 : t < n2
        · have t2i : (t : Int) < (n2 : Int) := by omega
          obtain ⟨sb2, so2, d2, v2, hsa2, hsb2, hc2, q20, q21, av2⟩ := CA2.out.get (k := t) (by have := E2.out; omega) KS6.out.old
          have AV2 := hide av2
          obtain ⟨va2, vn2, vc2, hv2⟩ := av2.form
          subst hv2
          subst hsa2
          have EP2 := hide (MS.plays_take (M := MS.boot) hc2)
          have hl2 : sb2 < w6.heap.size := by have := KS6.out.old.size; omega
          obtain ⟨Fa2, ka2, go2⟩ := KS6.out.step1
          have Ka2 := hide ka2
          have Go2 := hide go2
          clear av2 ka2 go2 hc2
          by_cases dt2 : d2.1 = -1
          · have ec : (MS.boot.plays (c2.take t)).call d2 = (MS.boot.plays (c2.take t)).tick := if_pos dt2
            rw [ec] at EP2
            rw [dt2] at q20
            clear ec dt2
            go_wp2_with fail
            refine (kn_tick Ka2.out).mono ?_
            rintro e w7 ⟨rfl, g⟩
            have KS7 := hide (Go2.out w7 _ g)
            have hz2 := KS7.out.old.size
            clear g KS6 Ka2 Go2
            go_wp2_with fail
            exact ⟨⟨t + 1, by go_num, by omega, by rw [EP1.out, EP2.out]; exact KS7.out⟩, by simp [intOf]; omega⟩
          · have ec : (MS.boot.plays (c2.take t)).call d2 = ((MS.boot.plays (c2.take t)).trap d2.1 d2.2).2 := if_neg dt2
            rw [ec] at EP2
            clear ec
            go_wp2_with fail
            go_still_tail 11, (by kernel_rfl)
            go_wp2_with fail
            refine (kn_trapV (Ka2.out.below (Below.refl _ _).drew) d2.1 (AV2.out.later (Below.refl _ _).drew)).mono ?_
            rintro e w7 ⟨rfl, g⟩
            have KS7 := hide (Go2.out w7 _ (g.from (Below.refl _ _).drew))
            have hz2 := KS7.out.old.size
            clear g KS6 Ka2 Go2
            generalize MS.out _ d2.1 d2.2 = ov2
            go_wp2_with fail
            exact ⟨⟨t + 1, by go_num, by omega, by rw [EP1.out, EP2.out]; exact KS7.out⟩, by simp [intOf]; omega⟩
        · have t2i : ¬ (t : Int) < (n2 : Int) := by omega
          have EP2 := hide (plays_stop (M := MS.boot) (cs := c2) (k := t) (by have := E2.out; omega))
          go_wp2_with fail
          exact ⟨⟨t + 1, by go_num, by omega, by rw [EP1.out, EP2.out]; exact KS6.out⟩, by simp [intOf]; omega⟩
      · have ec : (MS.boot.plays (c1.take t)).call d1 = ((MS.boot.plays (c1.take t)).trap d1.1 d1.2).2 := if_neg dt1
        rw [ec] at EP1
        clear ec
        go_wp2_with fail
        go_still_tail 11, (by kernel_rfl)
        go_wp2_with fail
        refine (kn_trapV (Ka1.out.below (Below.refl _ _).drew) d1.1 (AV1.out.later (Below.refl _ _).drew)).mono ?_
        rintro e w6 ⟨rfl, g⟩
        have KS6 := hide (Go1.out w6 _ (g.from (Below.refl _ _).drew))
        have hz1 := KS6.out.old.size
        clear g KS Ka1 Go1
        generalize MS.out _ d1.1 d1.2 = ov1
        by_cases t2 : t < n2
        · have t2i : (t : Int) < (n2 : Int) := by omega
          obtain ⟨sb2, so2, d2, v2, hsa2, hsb2, hc2, q20, q21, av2⟩ := CA2.out.get (k := t) (by have := E2.out; omega) KS6.out.old
          have AV2 := hide av2
          obtain ⟨va2, vn2, vc2, hv2⟩ := av2.form
          subst hv2
          subst hsa2
          have EP2 := hide (MS.plays_take (M := MS.boot) hc2)
          have hl2 : sb2 < w6.heap.size := by have := KS6.out.old.size; omega
          obtain ⟨Fa2, ka2, go2⟩ := KS6.out.step1
          have Ka2 := hide ka2
          have Go2 := hide go2
          clear av2 ka2 go2 hc2
          by_cases dt2 : d2.1 = -1
          · have ec : (MS.boot.plays (c2.take t)).call d2 = (MS.boot.plays (c2.take t)).tick := if_pos dt2
            rw [ec] at EP2
            rw [dt2] at q20
            clear ec dt2
            go_wp2_with fail
            refine (kn_tick Ka2.out).mono ?_
            rintro e w7 ⟨rfl, g⟩
            have KS7 := hide (Go2.out w7 _ g)
            have hz2 := KS7.out.old.size
            clear g KS6 Ka2 Go2
            go_wp2_with fail
            exact ⟨⟨t + 1, by go_num, by omega, by rw [EP1.out, EP2.out]; exact KS7.out⟩, by simp [intOf]; omega⟩
          · have ec : (MS.boot.plays (c2.take t)).call d2 = ((MS.boot.plays (c2.take t)).trap d2.1 d2.2).2 := if_neg dt2
            rw [ec] at EP2
            clear ec
            go_wp2_with fail
            go_still_tail 11, (by kernel_rfl)
            go_wp2_with fail
            refine (kn_trapV (Ka2.out.below (Below.refl _ _).drew) d2.1 (AV2.out.later (Below.refl _ _).drew)).mono ?_
            rintro e w7 ⟨rfl, g⟩
            have KS7 := hide (Go2.out w7 _ (g.from (Below.refl _ _).drew))
            have hz2 := KS7.out.old.size
            clear g KS6 Ka2 Go2
            generalize MS.out _ d2.1 d2.2 = ov2
            go_wp2_with fail
            exact ⟨⟨t + 1, by go_num, by omega, by rw [EP1.out, EP2.out]; exact KS7.out⟩, by simp [intOf]; omega⟩
        · have t2i : ¬ (t : Int) < (n2 : Int) := by omega
          have EP2 := hide (plays_stop (M := MS.boot) (cs := c2) (k := t) (by have := E2.out; omega))
          go_wp2_with fail
          exact ⟨⟨t + 1, by go_num, by omega, by rw [EP1.out, EP2.out]; exact KS6.out⟩, by simp [intOf]; omega⟩
    · have t1i : ¬ (t : Int) < (n1 : Int) := by omega
      have EP1 := hide (plays_stop (M := MS.boot) (cs := c1) (k := t) (by have := E1.out; omega))
      by_cases t2 : t < n2
      · have t2i : (t : Int) < (n2 : Int) := by omega
        obtain ⟨sb2, so2, d2, v2, hsa2, hsb2, hc2, q20, q21, av2⟩ := CA2.out.get (k := t) (by have := E2.out; omega) KS.out.old
        have AV2 := hide av2
        obtain ⟨va2, vn2, vc2, hv2⟩ := av2.form
        subst hv2
        subst hsa2
        have EP2 := hide (MS.plays_take (M := MS.boot) hc2)
        have hl2 : sb2 < wr.heap.size := by have := KS.out.old.size; omega
        obtain ⟨Fa2, ka2, go2⟩ := KS.out.step1
        have Ka2 := hide ka2
        have Go2 := hide go2
        clear av2 ka2 go2 hc2
        by_cases dt2 : d2.1 = -1
        · have ec : (MS.boot.plays (c2.take t)).call d2 = (MS.boot.plays (c2.take t)).tick := if_pos dt2
          rw [ec] at EP2
          rw [dt2] at q20
          clear ec dt2
          go_wp2_with fail
          refine (kn_tick Ka2.out).mono ?_
          rintro e w7 ⟨rfl, g⟩
          have KS7 := hide (Go2.out w7 _ g)
          have hz2 := KS7.out.old.size
          clear g KS Ka2 Go2
          go_wp2_with fail
          exact ⟨⟨t + 1, by go_num, by omega, by rw [EP1.out, EP2.out]; exact KS7.out⟩, by simp [intOf]; omega⟩
        · have ec : (MS.boot.plays (c2.take t)).call d2 = ((MS.boot.plays (c2.take t)).trap d2.1 d2.2).2 := if_neg dt2
          rw [ec] at EP2
          clear ec
          go_wp2_with fail
          go_still_tail 11, (by kernel_rfl)
          go_wp2_with fail
          refine (kn_trapV (Ka2.out.below (Below.refl _ _).drew) d2.1 (AV2.out.later (Below.refl _ _).drew)).mono ?_
          rintro e w7 ⟨rfl, g⟩
          have KS7 := hide (Go2.out w7 _ (g.from (Below.refl _ _).drew))
          have hz2 := KS7.out.old.size
          clear g KS Ka2 Go2
          generalize MS.out _ d2.1 d2.2 = ov2
          go_wp2_with fail
          exact ⟨⟨t + 1, by go_num, by omega, by rw [EP1.out, EP2.out]; exact KS7.out⟩, by simp [intOf]; omega⟩
      · have t2i : ¬ (t : Int) < (n2 : Int) := by omega
        have EP2 := hide (plays_stop (M := MS.boot) (cs := c2) (k := t) (by have := E2.out; omega))
        obtain ⟨F0, F1, F2, F3, h0, h1, h2, h3, d0, d1, d2, hF⟩ := KS.out.all
        rw [List.take_of_length_le (by have := E1.out; omega)] at h0
        rw [List.take_of_length_le (by have := E2.out; omega)] at h1
        have V := hide (V4.mk h0 h1 h2 h3 d0 d1 d2 hF KS.out.old)
        have VS1 := hide (view_short h0.inv 255)
        have VS2 := hide (view_short h1.inv 255)
        have L1 : Hid (∀ k, F1 k → k < wr.heap.size) := fun k hk => h1.lt hk
        have L2 : Hid (∀ k, F2 k → k < wr.heap.size) := fun k hk => h2.lt hk
        have L3 : Hid (∀ k, F3 k → k < wr.heap.size) := fun k hk => h3.lt hk
        clear h0 h1 h2 h3 d0 d1 d2 hF KS EP1 EP2
        go_wp2_with fail
        refine (kn_view V.out.h0 255).mono ?_
        rintro e wA ⟨va, rfl, oa, ka, fa⟩
        have OA := hide oa
        have VA := hide (V.out.go0 ka fa)
        have za := fa.size
        clear oa ka fa V
        go_wp2_with fail
        refine (kn_view VA.out.h2 255).mono ?_
        rintro e wB ⟨vb, rfl, ob, kb, fb⟩
        have OB := hide ob
        have OA2 := hide (OA.out.same (fun k hk => fb.block k (OA.out.row hk).2 (fun hf => by have := L2.out k hf; have := (OA.out.row hk).1; omega)))
        have VB := hide (VA.out.go2 kb fb)
        have zb := fb.size
        clear ob kb fb VA OA
        go_wp2_with fail
        refine (same_any wB _ _ va vb _ _ OA2.out OB.out (Nat.le_trans VS1.out (by omega))).mono ?_
        rintro e wC ⟨rfl, bc⟩
        have VC := hide (VB.out.later bc)
        have zc := bc.size
        clear bc VB OA2 OB
        rw [decide_eq_true rfl]
        go_wp2_with fail
        refine (kn_view VC.out.h1 255).mono ?_
        rintro e wD ⟨vd, rfl, od, kd, fd⟩
        have OD := hide od
        have VD := hide (VC.out.go1 kd fd)
        have zd := fd.size
        clear od kd fd VC
        go_wp2_with fail
        refine (kn_view VD.out.h3 255).mono ?_
        rintro e wE ⟨ve, rfl, oe, ke, fe⟩
        have OE := hide oe
        have OD2 := hide (OD.out.same (fun k hk => fe.block k (OD.out.row hk).2 (fun hf => by have := L3.out k hf; have := (OD.out.row hk).1; omega)))
        have VE := hide (VD.out.go3 ke fe)
        clear oe ke fe VD OD
        go_wp2_with fail
        refine (same_any wE _ _ vd ve _ _ OD2.out OE.out (Nat.le_trans VS2.out (by omega))).mono ?_
        rintro e wF ⟨rfl, bf⟩
        have VF := hide (VE.out.later bf)
        clear bf VE OD2 OE
        rw [decide_eq_true rfl]
        obtain ⟨nt, nl, hnow⟩ := now_form (MS.boot.plays c1)
        obtain ⟨mt, ml, hmow⟩ := now_form (MS.boot.plays c2)
        go_wp2_with fail
        refine (kn_now VF.out.h0).mono ?_
        rintro e wG ⟨rfl, bg⟩
        have VG := hide (VF.out.later bg)
        clear bg VF
        rw [hnow, nowV]
        go_wp2_with fail
        refine (kn_now VG.out.h2).mono ?_
        rintro e wH ⟨rfl, bh⟩
        have VH := hide (VG.out.later bh)
        clear bh VG
        rw [hnow, nowV]
        go_wp2_with fail
        refine (kn_now VH.out.h1).mono ?_
        rintro e wI ⟨rfl, bi⟩
        have VI := hide (VH.out.later bi)
        clear bi VH
        rw [hmow, nowV]
        go_wp2_with fail
        refine (kn_now VI.out.h3).mono ?_
        rintro e wJ ⟨rfl, bj⟩
        have VJ := hide (VI.out.later bj)
        clear bj VI
        rw [hmow, nowV]
        go_wp2_with fail
        go_ret
        exact ⟨rfl, VJ.out.old⟩

end Go.Proofs.Ytloppmepfkkblaa
end

section
/- 'Refused' gives true. -/
open Go Go.Proofs Go.RowKit
namespace Go.Proofs.Ytloppmepfkkblaa

theorem MS.now_shape (M : MS) : (M.cur = none ∧ M.now = nowV M.ph (-1) 0) ∨ ∃ me : Nat, M.cur = some me ∧ M.now = nowV M.ph me (M.S me).label := by
  unfold MS.now
  cases M.cur with
  | none => exact Or.inl ⟨rfl, rfl⟩
  | some s => exact Or.inr ⟨s, rfl, rfl⟩

/-- What stands behind the trap: two kernels' worth of memory facts. -/
structure RefS (w0 w : World) (kb : Nat) (M : MS) (nb ob : Nat) (nv ov : Array Value) : Prop where
  kn : ∃ F, Kn w kb F M
  nb : Blk w nb nv
  ob : Blk w ob ov
  old : Below w0.heap.size w0 w
theorem RefS.later {w0 w w' : World} {kb : Nat} {M : MS} {nb ob : Nat} {nv ov : Array Value} (h : RefS w0 w kb M nb ob nv ov) (hb : Below w.heap.size w w') : RefS w0 w' kb M nb ob nv ov := by
  obtain ⟨F, hk⟩ := h.kn
  exact ⟨⟨F, hk.below hb⟩, h.nb.below hb h.nb.lt, h.ob.below hb h.ob.lt, h.old.trans (hb.mono h.old.size)⟩

set_option maxRecDepth 100000 in
set_option maxHeartbeats 16000000 in
theorem refused_walk (w : World) (s1 : Option Addr) (n1 p1 : Nat) (c1 : List (Int × List Int)) (e1 : c1.length = n1) (m1 : n1 ≤ 17592186043904) (h1 : CallsAt w s1 c1) (T : Int) (va : Option Addr) (vn vc : Nat) (xs : List Int) (ha : ArgV w (.slice va vn vc) xs) :
    Calls Try.prog 4 #[.slice s1 n1 p1, .agg #[.int .i64 T, .slice va vn vc]] w fun e w' => e = .returned (.bool true) ∧ Below w.heap.size w w' := by
  have hb0 : Below w.heap.size w (w.alloc (.cells #[.int .i64 T, .slice va vn vc] 39)) := (Below.refl _ _).alloc (Nat.le_refl _) _
  have PL := hide (played_any _ s1 n1 p1 c1 e1 m1 (h1.later hb0))
  have C0 := hide (Blk.new w #[.int .i64 T, .slice va vn vc] 39)
  have HB0 := hide hb0
  have AV : Hid (∀ W, Below w.heap.size w W → ArgV W (.slice va vn vc) xs) := fun W hW => ha.later hW
  have hs0 : (w.alloc (.cells #[.int .i64 T, .slice va vn vc] 39)).heap.size = w.heap.size + 1 := by simp
  clear e1 h1 ha hb0
  go_enter Try.func4, Try.ntmps4
  go_wp2_with fail
  have S0 := hide hs0
  clear hs0
  generalize (w.alloc (.cells #[.int .i64 T, .slice va vn vc] 39)) = w1 at *
  refine PL.out.mono ?_
  clear PL
  rintro e w2 ⟨kb, F, rfl, k2, f2, b2⟩
  generalize MS.boot.plays c1 = M at *
  have hI := k2.inv
  have VS := hide (view_short hI 255)
  have VS' := hide (view_short (hI.trap T xs) 255)
  have RG := hide (trap_range hI T xs)
  have NS := hide M.now_shape
  have TI := hide (fun hc => trap_idle (M := M) hc T xs)
  have TN := hide (fun (me : Nat) hc hn => trap_nosuch (M := M) (me := me) hc T xs hn)
  obtain ⟨th, lb, hnow⟩ : ∃ (th : Int) (lb : Nat), M.now = nowV M.ph th lb := now_form M
  rw [hnow] at NS
  have EO : Hid (M.out T xs = .agg #[.int .i64 (M.trap T xs).1.1, .int .i64 (M.trap T xs).1.2.1, .int .i64 (M.trap T xs).1.2.2]) := rfl
  have K2 := hide k2
  have HF := hide f2
  have LF : Hid (∀ k, F k → k < w2.heap.size) := fun k hk => k2.lt hk
  have B2 := hide (HB0.out.trans (b2.mono (by have := S0.out; omega)))
  have C2 := hide (C0.out.below b2 C0.out.lt)
  have z2 : w.heap.size < w2.heap.size := by have := b2.size; have := S0.out; omega
  have HF2 : Hid (∀ k, F k → w.heap.size < k) := fun k hk => by have := f2 k hk; have := S0.out; omega
  have HNOW := hide hnow
  clear k2 f2 b2 C0 HB0 hI HF S0 hnow
  go_wp2_with fail
  refine (kn_view K2.out 255).mono ?_
  rintro e w3 ⟨v3, rfl, o3, k3, f3⟩
  have K3 := hide k3
  have O3 := hide o3
  have C3 := hide (C2.out.fr f3 (fun hF => by have := HF2.out _ hF; omega))
  have B3 := hide (B2.out.trans (f3.below_lo (B := w.heap.size) (fun k hk => by have := HF2.out k hk; omega) (by omega)))
  have z3 := f3.size
  obtain ⟨o3a, o3n, o3c, hv3⟩ := o3.form
  subst hv3
  have LO3 : Hid (∀ k, (Value.slice o3a o3n o3c).ownBlock = some k → w2.heap.size ≤ k ∧ k < w3.heap.size) := fun k hk => o3.row hk
  clear o3 k3 f3 C2 B2 K2
  have NN := hide (kn_now K3.out)
  rw [HNOW.out] at NN
  unfold nowV at NN
  go_wp2_with fail
  refine NN.out.mono ?_
  clear NN
  rintro e w4 ⟨rfl, b4⟩
  have z4 := b4.size
  have hbA : Below w4.heap.size w4 (w4.alloc (.cells #[.int .i64 M.ph, .int .i64 th, .int .i64 lb] 42)) := (Below.refl _ _).alloc (Nat.le_refl _) _
  have bA := b4.trans (hbA.mono z4)
  have KA := hide (K3.out.below bA)
  have OA := hide (O3.out.later bA)
  have CA := C3.out.below bA C3.out.lt
  have q0 := (CA.cell 0).trans (show _ = some (Value.int .i64 T) from rfl)
  have q1 := (CA.cell 1).trans (show _ = some (Value.slice va vn vc) from rfl)
  have BA := hide (B3.out.trans (bA.mono (by omega)))
  have NA := hide (Blk.new w4 #[.int .i64 M.ph, .int .i64 th, .int .i64 lb] 42)
  have zA : (w4.alloc (.cells #[.int .i64 M.ph, .int .i64 th, .int .i64 lb] 42)).heap.size = w4.heap.size + 1 := by simp
  have ZA := hide zA
  have hlC := CA.lt
  have CAH := hide CA
  clear b4 hbA bA C3 B3 K3 O3 CA zA
  have TT := hide (kn_trapV KA.out T (AV.out _ BA.out))
  rw [EO.out] at TT
  go_wp2_with fail
  generalize (w4.alloc (.cells #[.int .i64 M.ph, .int .i64 th, .int .i64 lb] 42)) = wA at *
  refine TT.out.mono ?_
  clear TT EO
  rintro e w5 ⟨rfl, F5, k5, g5, f5⟩
  have z5 := f5.size
  have hbB : Below w5.heap.size w5 (w5.alloc (.cells #[.int .i64 (M.trap T xs).1.1, .int .i64 (M.trap T xs).1.2.1, .int .i64 (M.trap T xs).1.2.2] 46)) := (Below.refl _ _).alloc (Nat.le_refl _) _
  have KB := hide (k5.below hbB)
  have OB := hide (((OA.out.same (fun k hk => f5.block k (OA.out.row hk).2 (fun hF => by have := LF.out k hF; have := (OA.out.row hk).1; omega)))).later hbB)
  have NB := hide ((NA.out.fr f5 (fun hF => by have := LF.out _ hF; omega)).below hbB (by have := ZA.out; omega))
  have CB := hide ((CAH.out.fr f5 (fun hF => by have := HF2.out _ hF; omega)).below hbB (by have := ZA.out; omega))
  have RB := hide (Blk.new w5 #[.int .i64 (M.trap T xs).1.1, .int .i64 (M.trap T xs).1.2.1, .int .i64 (M.trap T xs).1.2.2] 46)
  have BB := hide ((BA.out.trans (f5.below_lo (B := w.heap.size) (fun k hk => by have := HF2.out k hk; omega) (by have := ZA.out; omega))).trans (hbB.mono (by have := ZA.out; omega)))
  have F5N : Hid (¬ F5 w4.heap.size ∧ ¬ F5 w5.heap.size ∧ (∀ k, F5 k → w.heap.size < k) ∧ ∀ k, w2.heap.size ≤ k → k < w4.heap.size → ¬ F5 k) := by
    refine ⟨fun h => ?_, fun h => ?_, fun k h => ?_, fun k a b h => ?_⟩
    · rcases g5 _ h with h | h
      · have := LF.out _ h; omega
      · have := ZA.out; omega
    · have := k5.lt h; omega
    · rcases g5 k h with h | h
      · have := HF2.out k h; omega
      · have := ZA.out; omega
    · rcases g5 k h with h | h
      · have := LF.out k h; omega
      · have := ZA.out; omega
  have zB : (w5.alloc (.cells #[.int .i64 (M.trap T xs).1.1, .int .i64 (M.trap T xs).1.2.1, .int .i64 (M.trap T xs).1.2.2] 46)).heap.size = w5.heap.size + 1 := by simp
  have ZB := hide zB
  have LO : Hid (∀ k, (Value.slice o3a o3n o3c).ownBlock = some k → w2.heap.size ≤ k ∧ k < w4.heap.size) := fun k hk => ⟨(LO3.out k hk).1, by have := (LO3.out k hk).2; omega⟩
  clear k5 g5 f5 hbB KA OA NA BA q0 q1 zB
  go_wp2_with fail
  generalize (w5.alloc (.cells #[.int .i64 (M.trap T xs).1.1, .int .i64 (M.trap T xs).1.2.1, .int .i64 (M.trap T xs).1.2.2] 46)) = wB at *
  refine (kn_view KB.out 255).mono ?_
  rintro e w6 ⟨v6, rfl, o6, k6, f6⟩
  have O6 := hide o6
  have K6 := hide k6
  have OC := hide (OB.out.same (fun k hk => f6.block k (OB.out.row hk).2 (F5N.out.2.2.2 k (LO.out k hk).1 (LO.out k hk).2)))
  have NC := hide (NB.out.fr f6 F5N.out.1)
  have RC := hide (RB.out.fr f6 F5N.out.2.1)
  have CC := hide (CB.out.fr f6 (fun hF => by have := F5N.out.2.2.1 _ hF; omega))
  have BC := hide (BB.out.trans (f6.below_lo (B := w.heap.size) (fun k hk => Nat.le_of_lt (F5N.out.2.2.1 k hk)) (by have := ZA.out; have := ZB.out; omega)))
  clear o6 k6 f6 OB NB RB BB KB
  go_wp2_with fail
  refine (same_any w6 _ _ v6 _ _ _ O6.out OC.out (Nat.le_trans VS'.out (by omega))).mono ?_
  rintro e w7 ⟨rfl, b7⟩
  have K7 := hide (K6.out.below b7)
  have N7 := hide (NC.out.below b7 NC.out.lt)
  have R7 := hide (RC.out.below b7 RC.out.lt)
  have C7 := hide (CC.out.below b7 CC.out.lt)
  have B7 := hide (BC.out.trans (b7.mono BC.out.size))
  clear b7 K6 NC RC BC O6 OC CC CB CAH
  clear VS VS' LF HF2 ZA ZB F5N LO LO3 AV
  have n0 := (N7.out.cell 0).trans (show _ = some (Value.int .i64 M.ph) from rfl)
  have n1 := (N7.out.cell 1).trans (show _ = some (Value.int .i64 th) from rfl)
  have n2 := (N7.out.cell 2).trans (show _ = some (Value.int .i64 lb) from rfl)
  have r0 := (R7.out.cell 0).trans (show _ = some (Value.int .i64 (M.trap T xs).1.1) from rfl)
  have r1 := (R7.out.cell 1).trans (show _ = some (Value.int .i64 (M.trap T xs).1.2.1) from rfl)
  have r2 := (R7.out.cell 2).trans (show _ = some (Value.int .i64 (M.trap T xs).1.2.2) from rfl)
  have nl := N7.out.lt
  have rl := R7.out.lt
  have t0 := (C7.out.cell 0).trans (show _ = some (Value.int .i64 T) from rfl)
  have tl := C7.out.lt
  clear N7 R7 C7
  have KN := hide (kn_now K7.out)
  generalize M.trap T xs = r at *
  obtain ⟨⟨e0, v0, u0⟩, M'⟩ := r
  dsimp only at r0 r1 r2 K7 KN ⊢
  rcases NS.out with ⟨hc, hn⟩ | ⟨me, hc, hn⟩
  · have ht := TI.out hc
    simp at ht
    obtain ⟨⟨rfl, rfl, rfl⟩, rfl⟩ := ht
    simp [nowV] at hn
    obtain ⟨rfl, rfl⟩ := hn
    rw [decide_eq_true rfl]
    clear NS TI TN RG KN K7
    go_wp2_with fail
    go_ret
    exact ⟨rfl, B7.out⟩
  · simp [nowV] at hn
    obtain ⟨rfl, hlb⟩ := hn
    have HLB := hide hlb
    clear hlb
    have hme0 : ¬ (me : Int) < 0 := by omega
    by_cases hT : T < 1 ∨ 17 ≤ T
    · have ht := TN.out me hc hT
      simp at ht
      obtain ⟨⟨rfl, rfl, rfl⟩, rfl⟩ := ht
      rw [decide_eq_true rfl]
      clear NS TI TN RG KN K7
      rcases hT with hT | hT
      · go_wp2_with fail
        go_ret
        exact ⟨rfl, B7.out⟩
      · have hT1 : ¬ T < 1 := by omega
        have hT2 : (16 : Int) < T := by omega
        go_wp2_with fail
        go_ret
        exact ⟨rfl, B7.out⟩
    · have hT1 : ¬ T < 1 := by omega
      have hT2 : ¬ (16 : Int) < T := by omega
      obtain ⟨g1, g2, g3, g4⟩ := RG.out
      dsimp only at g1 g2 g3 g4
      have G4 := hide g4
      have u1 : ¬ (u0 : Int) < 0 := by omega
      have u2 : ¬ (255 : Int) < (u0 : Int) := by omega
      have e1 : ¬ e0 < 0 := by omega
      have e2 : ¬ (9 : Int) < e0 := by omega
      clear NS TI TN RG hT g4 hc
      have L0 := later_cell r0 rl
      have L1 := later_cell r1 rl
      have L2 := later_cell n0 nl
      have L3 := later_cell n1 nl
      have L4 := later_cell n2 nl
      by_cases he : e0 = 0
      · subst he
        clear KN G4
        generalize decide (viewM M' 255 = viewM M 255) = sb at *
        go_wp2_with fail
        clear r0 r1 r2 n0 n1 n2 t0
        have hne : Nonempty (Later w7) := ⟨⟨w7, Below.refl _ _⟩⟩
        refine wp_region_later (by kernel_rfl) (by kernel_rfl) ?_
        repeat (go_big_quiet_step (fail))
        refine wpQuiet_nil ?_
        rintro _ ⟨wl, rfl⟩
        clear hne
        go_wp2_with fail
        go_ret
        exact ⟨rfl, B7.out.trans (wl.2.mono B7.out.size)⟩
      · obtain ⟨rfl, rfl⟩ := G4.out he
        rw [decide_eq_true rfl]
        have he2 : (e0 == 0) = false := by simp [he]
        have PN := hide (fun x : Later w7 => Calls.later_of (x := x) (kn_now (K7.out.below x.2)))
        simp only [HNOW.out, nowV] at PN
        clear KN
        go_wp2_with fail
        clear r0 r1 r2 n0 n1 n2 t0
        have hne : Nonempty (Later w7) := ⟨⟨w7, Below.refl _ _⟩⟩
        refine wp_region_later (by kernel_rfl) (by kernel_rfl) ?_
        repeat (go_big_quiet_step ((go_at_call 18; exact PN.out _)))
        refine wpQuiet_nil ?_
        rintro _ ⟨wl, rfl⟩
        clear hne
        go_wp2_with fail
        go_ret
        exact ⟨rfl, B7.out.trans (wl.2.mono B7.out.size)⟩

end Go.Proofs.Ytloppmepfkkblaa
end
