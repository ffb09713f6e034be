/- What comes in to the keep's statements: numbers, opened. -/
import Derived.Test.YtloppmepfkkblaaRows
import Derived.ProofKit
import Derived.OpenShut
import Derived.SizedLaws
import Derived.ChangeOld
import Derived.Deep.Slices
import Derived.Deep.Strs
import Derived.StillTailTactics
import Derived.Test.YtloppmepfkkblaaJQBase
import Derived.Test.YtloppmepfkkblaaJKView

section
open Go Go.Proofs Go.RowKit Go.ChangeShapes Go.WideShapes Go.ChangeAt
namespace Go.Proofs.Ytloppmepfkkblaa

theorem own_knob : ownKnob Try.prog.godebug = none := by kernel_rfl
theorem laid_out : laidOutB Try.prog = true := by kernel_rfl

theorem cell_lt {w : World} {b n : Nat} {v : Value} (h : w.cell? ⟨b, n, none⟩ = some v) : b < w.heap.size := by
  rcases Nat.lt_or_ge b w.heap.size with h1 | h1
  · exact h1
  · exfalso
    simp [World.cell?, Array.getElem?_eq_none h1] at h

theorem weightsAll_mem {H : Type} {P : Program} {e : TypeId} : ∀ {l : List (DataW H)} {d : DataW H}, d ∈ l → ∀ n ∈ d.weights P e, n ∈ DataW.weightsAll P e l
  | d0 :: l, d, hd, n, hn => by
    simp only [DataW.weightsAll, List.mem_append]
    rcases List.mem_cons.1 hd with rfl | h
    · exact Or.inl hn
    · exact Or.inr (weightsAll_mem h n hn)
  | [], _, hd, _, _ => by simp at hd

theorem bytes_int : Try.prog.bytesOf 3 = 8 := by kernel_rfl
theorem cells_int : Try.prog.cellsOf 3 = 1 := by kernel_rfl
theorem cells_ints : Try.prog.cellsOf 29 = 1 := by kernel_rfl
section
variable {H : Type} {enc : TypeId × Value → H} {W : World}

/-- A step's arguments. -/
theorem args_open {fuel : Nat} {v : Value} {x : DataW H × List MemPlace} (h : DataW.trod enc Try.prog W 0 (fun _ => true) true fuel 29 [v] = some x) (hw : ∀ n ∈ x.1.weights Try.prog 29, n ≤ reachBytes) :
    ArgsV W (fun k => W.heap.size ≤ k) v := by
  rcases open_ints Try.underlying29 Try.underlying3 cells_int h with ⟨hcs, _⟩ | ⟨a, len, cap, zs, hcs, _, hl, hm, hz, hx, hcell, hwz⟩
  · simp at hcs
    exact Or.inl hcs
  · simp at hcs hz
    subst hcs
    refine Or.inr ⟨a, zs.take len, cap, by simp; omega, ?_, ?_, fun y hy => bounds_i64 (hwz y (List.mem_of_mem_take hy))⟩
    · have := hw (((lits .i64 (zs.take len) : List (DataW H)).length + (lits .i64 (zs.drop len) : List (DataW H)).length) * Try.prog.bytesOf 3) (by rw [hx]; simp [DataW.weights, Try.underlying29])
      rw [bytes_int] at this
      simp [lits, reachBytes] at this
      simp
      omega
    · by_cases h0 : len = 0
      · subst h0; exact Or.inl rfl
      · obtain ⟨b, off, rfl, hc⟩ := ints_at hcell (by omega)
        refine Or.inr ⟨b, off, rfl, ⟨cell_lt (hc 0 (by omega)), fun i y hy => ?_⟩, fun h => ?_⟩
        · have hi : i < len := by
            have := (List.getElem?_eq_some_iff.1 hy).1
            simp at this; omega
          rw [hc i (by omega)]
          rw [List.getElem?_take_of_lt hi] at hy
          rw [List.getD_eq_getElem?_getD, hy]; rfl
        · have := cell_lt (hc 0 (by omega))
          omega

end

end Go.Proofs.Ytloppmepfkkblaa
end

section
/- The keep's 'played', 'same'; a kernel's view. -/
open Go Go.Proofs Go.RowKit
namespace Go.Proofs.Ytloppmepfkkblaa

/-- A call: a tick or a trap. -/
def MS.call (M : MS) (c : Int × List Int) : MS := if c.1 = -1 then M.tick else (M.trap c.1 c.2).2
def MS.plays (M : MS) (cs : List (Int × List Int)) : MS := cs.foldl MS.call M
theorem MS.plays_take {M : MS} {cs : List (Int × List Int)} {k : Nat} {c : Int × List Int} (h : cs[k]? = some c) : M.plays (cs.take (k + 1)) = (M.plays (cs.take k)).call c := by
  unfold MS.plays
  rw [List.take_add_one, h, List.foldl_append]
  rfl

/-- A trap's arguments, as they lie. -/
def ArgV (w : World) (v : Value) (xs : List Int) : Prop := (v = .slice none 0 0 ∧ xs = []) ∨ ∃ la cap, v = .slice (some la) xs.length cap ∧ (xs = [] ∨ ∃ lb lo, la = ⟨lb, lo, none⟩ ∧ Arg w lb lo xs) ∧ Fits xs
theorem ArgV.later {w w' : World} {v : Value} {xs : List Int} (h : ArgV w v xs) (hb : Below w.heap.size w w') : ArgV w' v xs := by
  rcases h with h | ⟨la, cap, h1, h2, h3⟩
  · exact Or.inl h
  · refine Or.inr ⟨la, cap, h1, h2.imp id (fun ⟨lb, lo, e, ha⟩ => ⟨lb, lo, e, ha.below hb ha.lt⟩), h3⟩
theorem ArgV.form {w : World} {v : Value} {xs : List Int} (h : ArgV w v xs) : ∃ a n c, v = .slice a n c := by
  rcases h with ⟨h, _⟩ | ⟨la, cap, h, _⟩
  · exact ⟨_, _, _, h⟩
  · exact ⟨_, _, _, h⟩

/-- Calls, as they lie. -/
def CallsAt (w : World) (sa : Option Addr) (cs : List (Int × List Int)) : Prop :=
  cs = [] ∨ ∃ sb so, sa = some ⟨sb, so, none⟩ ∧ sb < w.heap.size ∧ ∀ i c, cs[i]? = some c → ∃ v, w.cell? ⟨sb, so + i * 2, none⟩ = some (.int .i64 c.1) ∧ w.cell? ⟨sb, so + i * 2 + 1, none⟩ = some v ∧ ArgV w v c.2

section
variable {w w' : World} {kb : Nat} {F : Nat → Prop} {M : MS}

theorem kn_trapV (h : Kn w kb F M) (n : Int) {v : Value} {xs : List Int} (ha : ArgV w v xs) :
    Calls Try.prog 19 #[.pointer (some ⟨kb, 0, none⟩), .int .i64 n, v] w fun e w' => e = .returned (M.out n xs) ∧ KnGoes w kb F (M.trap n xs).2 w' := by
  rcases ha with ⟨rfl, rfl⟩ | ⟨la, cap, rfl, h2, h3⟩
  · exact kn_trap h n [] none 0 (fun x hx => by cases hx) (Or.inl rfl)
  · exact kn_trap h n xs (some la) cap h3 (h2.imp id (fun ⟨lb, lo, e, ha⟩ => ⟨lb, lo, by rw [e], ha⟩))

theorem kn_view (h : Kn w kb F M) (lab : Int) :
    Calls Try.prog 12 #[.pointer (some ⟨kb, 0, none⟩), .int .i64 lab] w fun e w' => ∃ v, e = .returned v ∧ Outs w' w.heap.size v (viewM M lab) ∧ Kn w' kb F M ∧ Fr F w w' := by
  obtain ⟨ob, cb, qp, h1, h2, h3⟩ := h
  refine (p_view h1 h2 lab).mono ?_
  rintro e w' ⟨v, rfl, g1, g2, g3⟩
  exact ⟨v, rfl, g1, ⟨ob, cb, qp, g2, h2, h3⟩, g3.mono (fun k _ hk => (h3 k).1 hk)⟩

/-- Its blocks are new since B; all ahead of B is as it was in w0. -/
theorem KnGoes.since {w0 : World} {M' : MS} {B : Nat} (hF : ∀ k, F k → B ≤ k) (hB : B ≤ w.heap.size) (hb : Below B w0 w) (h : KnGoes w kb F M' w') : ∃ F', Kn w' kb F' M' ∧ (∀ k, F' k → B ≤ k) ∧ Below B w0 w' := by
  obtain ⟨F', g1, g2, g3⟩ := h
  exact ⟨F', g1, fun k hk => (g2 k hk).elim (hF k) (fun h => by omega), hb.trans (Fr.below_lo g3 hF hB)⟩
end

set_option maxRecDepth 100000 in
set_option maxHeartbeats 4000000 in
theorem played_any (w : World) (sa : Option Addr) (n cap : Nat) (cs : List (Int × List Int)) (hn : cs.length = n) (hn4 : n ≤ 17592186043904) (hs : CallsAt w sa cs) :
    Calls Try.prog 17 #[.slice sa n cap] w fun e w' => ∃ kb F, e = .returned (.pointer (some ⟨kb, 0, none⟩)) ∧ Kn w' kb F (MS.boot.plays cs) ∧ (∀ k, F k → w.heap.size ≤ k) ∧ Below w.heap.size w w' := by
  have HS := hide hs
  have HB := hide (booted_any w)
  clear hs
  go_enter Try.func17, Try.ntmps17
  go_wp2_with fail
  refine HB.out.mono ?_
  clear HB
  rintro e w1 ⟨kb, F1, rfl, k1, f1, b1⟩
  have K1 := hide k1
  have HF1 := hide f1
  have B1 := hide b1
  clear k1 f1 b1
  go_wp2_with fail
  go_loopw [4] (fun i w' => ∃ (k : Nat) (F : Nat → Prop), k ≤ n ∧ i = .int .i64 k ∧ Kn w' kb F (MS.boot.plays (cs.take k)) ∧ (∀ k, F k → w.heap.size ≤ k) ∧ Below w.heap.size w w') (fun i _ => n - (intOf i).toNat)
  case atStart => exact ⟨0, F1, by omega, rfl, K1.out, HF1.out, B1.out⟩
  case round =>
    obtain ⟨k, F2, hk, rfl, k2, f2, b2⟩ := hrel
    clear K1 HF1 B1
    have K2 := hide k2
    have HF2 := hide f2
    have B2 := hide b2
    have hsz := b2.size
    by_cases hkn : k < n
    · have hki : (k : Int) < (n : Int) := by omega
      obtain ⟨c, hc⟩ : ∃ c, cs[k]? = some c := ⟨_, List.getElem?_eq_getElem (by omega)⟩
      obtain ⟨sb, so, hsa, hsb, hcs⟩ := HS.out.resolve_left (fun e => by rw [e] at hc; simp at hc)
      subst hsa
      obtain ⟨v, c0, c1, ha⟩ := hcs k c hc
      have d0 := (cell_same (b2.block sb hsb) _).trans c0
      have d1 := (cell_same (b2.block sb hsb) _).trans c1
      have hsb' : sb < wr.heap.size := by omega
      have EP := hide (MS.plays_take (M := MS.boot) hc)
      have HA := hide (ha.later b2)
      obtain ⟨va, vn, vc, hv⟩ := ha.form
      subst hv
      clear k2 f2 b2 c0 c1 ha hcs hc
      by_cases ht : c.1 = -1
      · have ec : Hid ((MS.boot.plays (cs.take k)).call c = (MS.boot.plays (cs.take k)).tick) := if_pos ht
        rw [ht] at d0
        clear ht
        go_wp2_with fail
        refine (kn_tick K2.out).mono ?_
        rintro e w4 ⟨rfl, h4⟩
        have H4 := hide (h4.since HF2.out hsz B2.out)
        clear h4
        go_wp2_with fail
        obtain ⟨F4, g1, g2, g3⟩ := H4.out
        exact ⟨⟨k + 1, F4, by omega, by go_num, by rw [EP.out, ec.out]; exact g1, g2, g3⟩, by simp [intOf]; omega⟩
      · have ec : Hid ((MS.boot.plays (cs.take k)).call c = ((MS.boot.plays (cs.take k)).trap c.1 c.2).2) := if_neg ht
        go_wp2_with fail
        go_still_tail 11, (by kernel_rfl)
        go_wp2_with fail
        have hd : Below wr.heap.size wr wr.drew := (Below.refl _ _).drew
        refine (kn_trapV (K2.out.below hd) c.1 (HA.out.later hd)).mono ?_
        rintro e w4 ⟨rfl, h4⟩
        have H4 := hide (h4.since HF2.out (by have := hd.size; omega) (B2.out.trans (hd.mono hsz)))
        clear h4 hd
        generalize (MS.boot.plays (cs.take k)).out c.1 c.2 = ov
        go_wp2_with fail
        obtain ⟨F4, g1, g2, g3⟩ := H4.out
        exact ⟨⟨k + 1, F4, by omega, by go_num, by rw [EP.out, ec.out]; exact g1, g2, g3⟩, by simp [intOf]; omega⟩
    · have : k = n := by omega
      subst this
      clear k2 f2 b2
      have ef : cs.take k = cs := List.take_of_length_le (by omega)
      rw [ef] at K2
      go_wp2_with fail
      go_ret
      exact ⟨kb, F2, rfl, K2.out, HF2.out, B2.out⟩

/-- Is one row the other? -/
theorem take_ne {xs ys : List Int} {j : Nat} {x y : Int} (hx : xs[j]? = some x) (hy : ys[j]? = some y) (h : x ≠ y) : xs ≠ ys := fun e => h (by rw [e, hy] at hx; injection hx with hx; exact hx.symm)

set_option maxRecDepth 100000 in
set_option maxHeartbeats 4000000 in
theorem same_any (w : World) (Bx By : Nat) (vx vy : Value) (xs ys : List Int) (hx : Outs w Bx vx xs) (hy : Outs w By vy ys) (hl : xs.length ≤ 1000000) :
    Calls Try.prog 11 #[vx, vy] w fun e w' => e = .returned (.bool (decide (xs = ys))) ∧ Below w.heap.size w w' := by
  obtain ⟨xa, xc, rfl⟩ := hx.form'
  obtain ⟨ya, yc, rfl⟩ := hy.form'
  have AX := hide hx.arg
  have AY := hide hy.arg
  clear hx hy
  by_cases hlen : xs.length = ys.length
  · rw [← hlen]
    have HLEN := hide hlen
    clear hlen
    go_enter Try.func11, Try.ntmps11
    go_wp2_with fail
    go_loopw [5] (fun i w' => ∃ k : Nat, k ≤ xs.length ∧ i = .int .i64 k ∧ xs.take k = ys.take k ∧ Below w.heap.size w w') (fun i _ => xs.length - (intOf i).toNat)
    case atStart => exact ⟨0, by omega, rfl, rfl, Below.refl _ _⟩
    case round =>
      obtain ⟨k, hk, rfl, heq, hb⟩ := hrel
      have HB := hide hb
      have HEQ := hide heq
      clear heq
      by_cases hkn : k < xs.length
      · have hki : (k : Int) < (xs.length : Int) := by omega
        obtain ⟨x, hx⟩ : ∃ x, xs[k]? = some x := ⟨_, List.getElem?_eq_getElem hkn⟩
        obtain ⟨y, hy⟩ : ∃ y, ys[k]? = some y := ⟨_, List.getElem?_eq_getElem (by have := HLEN.out; omega)⟩
        obtain ⟨gx, cx, ex, _, ax⟩ := AX.out.resolve_left (fun e => by rw [e] at hx; simp at hx)
        obtain ⟨gy, cy, ey, _, ay⟩ := AY.out.resolve_left (fun e => by rw [e] at hy; simp at hy)
        injection ex with ex _ ecx
        injection ey with ey _ ecy
        subst ex ey ecx ecy
        have d0 := (cell_same (hb.block gx ax.lt) _).trans (ax.cell k x hx)
        have d1 := (cell_same (hb.block gy ay.lt) _).trans (ay.cell k y hy)
        rw [Nat.zero_add] at d0 d1
        have l0 := ax.lt
        have l1 := ay.lt
        have hz := hb.size
        have l2 : gx < wr.heap.size := by omega
        have l3 : gy < wr.heap.size := by omega
        have HX := hide hx
        have HY := hide hy
        clear ax ay hb hx hy
        by_cases hxy : x = y
        · subst hxy
          have EQ1 : Hid (xs.take (k + 1) = ys.take (k + 1)) := by
            unfold Hid
            rw [List.take_add_one, List.take_add_one, HX.out, HY.out, HEQ.out]
          go_wp2_with fail
          go_still (by kernel_rfl)
          go_wp2_with fail
          exact ⟨⟨k + 1, by omega, by go_num, EQ1.out, HB.out.drew⟩, by simp [intOf]; omega⟩
        · have NE := hide (take_ne HX.out HY.out hxy)
          go_wp2_with fail
          go_still (by kernel_rfl)
          go_wp2_with fail
          go_ret
          exact ⟨by rw [decide_eq_false NE.out]; rfl, HB.out.drew⟩
      · have : k = xs.length := by omega
        subst this
        have E := HEQ.out
        rw [List.take_length, HLEN.out, List.take_length] at E
        have HE := hide E
        clear E hb
        go_wp2_with fail
        go_ret
        exact ⟨by rw [decide_eq_true HE.out]; rfl, HB.out⟩
  · have hne : xs ≠ ys := fun e => hlen (by rw [e])
    have HNE := hide hne
    have hli : ¬ ((xs.length : Int) = (ys.length : Int)) := by omega
    clear hne
    go_enter Try.func11, Try.ntmps11
    go_wp2_with fail
    go_ret
    exact ⟨by rw [decide_eq_false HNE.out]; rfl, Below.refl _ _⟩

end Go.Proofs.Ytloppmepfkkblaa
end

section
/- What comes in to the keep's statements: calls, opened at every index. -/
open Go Go.Proofs Go.RowKit Go.ChangeShapes Go.WideShapes Go.ChangeAt
namespace Go.Proofs.Ytloppmepfkkblaa

theorem bytes_call : Try.prog.bytesOf 39 = 32 := by kernel_rfl
theorem cells_call : Try.prog.cellsOf 39 = 2 := by kernel_rfl

theorem ArgsV.argV {w : World} {F : Nat → Prop} {v : Value} (h : ArgsV w F v) : ∃ xs, ArgV w v xs := by
  rcases h with rfl | ⟨la, xs, cap, rfl, h⟩
  · exact ⟨[], Or.inl ⟨rfl, rfl⟩⟩
  · exact ⟨xs, Or.inr ⟨la, cap, rfl, h.at'.imp id (fun ⟨lb, lo, e, ha, _⟩ => ⟨lb, lo, e, ha⟩), h.wf⟩⟩

theorem calls_of {W : World} {b off n : Nat} (hb : b < W.heap.size) (h : ∀ i, i < n → ∃ (c : Int × List Int) (v : Value), W.cell? ⟨b, off + i * 2, none⟩ = some (.int .i64 c.1) ∧ W.cell? ⟨b, off + i * 2 + 1, none⟩ = some v ∧ ArgV W v c.2) : ∃ cs : List (Int × List Int), cs.length = n ∧ CallsAt W (some ⟨b, off, none⟩) cs := by
  have hc : ∀ i, ∃ c : Int × List Int, i < n → ∃ v, W.cell? ⟨b, off + i * 2, none⟩ = some (.int .i64 c.1) ∧ W.cell? ⟨b, off + i * 2 + 1, none⟩ = some v ∧ ArgV W v c.2 := fun i => by
    by_cases hi : i < n
    · obtain ⟨c, v, h1⟩ := h i hi
      exact ⟨c, fun _ => ⟨v, h1⟩⟩
    · exact ⟨(0, []), fun h => absurd h hi⟩
  refine ⟨(List.range n).map (fun i => Classical.choose (hc i)), by simp, Or.inr ⟨b, off, rfl, hb, fun i c hi => ?_⟩⟩
  rw [List.getElem?_map] at hi
  have hin : i < n := by
    rcases Nat.lt_or_ge i n with h1 | h1
    · exact h1
    · rw [List.getElem?_eq_none (by simpa using h1)] at hi; cases hi
  rw [List.getElem?_range hin] at hi
  injection hi with hi
  subst hi
  exact Classical.choose_spec (hc i) hin

theorem trod_two {H : Type} {enc : TypeId × Value → H} {P : Program} {w : World} {base : Nat} {spare : Nat → Bool} {held : Bool} {t : TypeId} {f0 f1 : Field} {fuel : Nat} {cs : List Value} {x : DataW H × List MemPlace} (ht : P.underlying t = some (.struct #[f0, f1])) (h : DataW.trod enc P w base spare held fuel t cs = some x) :
    ∃ y0 y1 n, x = (.agg [y0.1, y1.1], y0.2 ++ y1.2) ∧ cs.length = P.cellsOf t ∧ DataW.trod enc P w base spare held n f0.type ((cs.drop f0.offset).take (P.cellsOf f0.type)) = some y0 ∧
      DataW.trod enc P w base spare held n f1.type ((cs.drop f1.offset).take (P.cellsOf f1.type)) = some y1 := by
  obtain ⟨xs, n, _, rfl, hl, hlen, hf⟩ := DataW.trod_struct ht h
  match xs, hlen with
  | [y0, y1], _ => exact ⟨y0, y1, n, by simp, hl, by simpa using hf 0 f0 rfl, by simpa using hf 1 f1 rfl⟩

section
variable {H : Type} {enc : TypeId × Value → H} {W : World}

set_option maxRecDepth 100000 in
theorem calls_open {fuel : Nat} {sa : Option Addr} {n cap : Nat} {x : DataW H × List MemPlace} (h : DataW.trod enc Try.prog W 0 (fun _ => true) true fuel 22 [.slice sa n cap] = some x) (hw : ∀ k ∈ x.1.weights Try.prog 22, k ≤ reachBytes) :
    ∃ cs : List (Int × List Int), cs.length = n ∧ n ≤ 17592186043904 ∧ CallsAt W sa cs := by
  rcases Deep.open_slice Try.underlying22 h with ⟨hcs, _⟩ | ⟨a, len, cap', m, k, D, Pl, hcs, _, hl, hm, hmm, hx, hel⟩
  · simp at hcs
    obtain ⟨rfl, rfl, rfl⟩ := hcs
    exact ⟨[], rfl, by omega, Or.inl rfl⟩
  · simp at hcs hmm
    obtain ⟨rfl, rfl, rfl⟩ := hcs
    subst hmm
    have hb := hw ((((List.range n).map D).length + ((List.range (m - n)).map fun j => D (n + j)).length) * Try.prog.bytesOf 39) (by rw [hx]; simp [DataW.weights, Try.underlying22])
    rw [bytes_call] at hb
    simp [reachBytes] at hb
    by_cases h0 : n = 0
    · subst h0
      exact ⟨[], rfl, by omega, Or.inl rfl⟩
    · have each : ∀ i, i < n → ∃ v0 v1 y0 y1 q, W.cell? (a.add (i * 2)) = some v0 ∧ W.cell? (a.add (i * 2 + 1)) = some v1 ∧
          DataW.trod enc Try.prog W 0 (fun _ => true) true q 3 [v0] = some y0 ∧ DataW.trod enc Try.prog W 0 (fun _ => true) true q 29 [v1] = some y1 ∧ D i = .agg [y0.1, y1.1] := by
        intro i hi
        obtain ⟨cs', g1, g2⟩ := hel i (by omega)
        rw [cells_call] at g1
        obtain ⟨_, hlen, hcell⟩ := World.cells?_some g1
        obtain ⟨y0, y1, q, hy, _, t0, t1⟩ := trod_two Try.underlying39 g2
        simp only [Prod.mk.injEq] at hy
        match cs', hlen with
        | [v0, v1], _ =>
          have e0 := hcell 0 (by omega)
          have e1 := hcell 1 (by omega)
          rw [Deep.add_add] at e0 e1
          simp [cells_int, cells_ints] at t0 t1
          exact ⟨v0, v1, y0, y1, q, by simpa using e0, by simpa using e1, t0, t1, hy.1⟩
      obtain ⟨b, off, spot⟩ := a
      have hspot : spot = none := by
        obtain ⟨v0, _, _, _, _, c0, _⟩ := each 0 (by omega)
        simpa [Addr.add] using World.cell?_spot c0
      subst hspot
      have hadd : ∀ j, (⟨b, off, none⟩ : Addr).add j = ⟨b, off + j, none⟩ := fun j => by rw [add_plain]
      have hbl : b < W.heap.size := by
        obtain ⟨v0, _, _, _, _, c0, _⟩ := each 0 (by omega)
        rw [hadd] at c0
        exact cell_lt c0
      obtain ⟨cs, h1, h2⟩ := calls_of (W := W) (b := b) (off := off) (n := n) hbl (fun i hi => by
        obtain ⟨v0, v1, y0, y1, q, c0, c1, t0, t1, hD⟩ := each i hi
        rw [hadd] at c0 c1
        obtain ⟨K, hK, _, wK⟩ := DataW.trod_int Try.underlying3 t0
        simp at hK
        subst hK
        obtain ⟨xs, hxs⟩ := (args_open t1 (fun k hk => hw k (by
          rw [hx]
          simp only [DataW.weights, Try.underlying22, List.mem_cons, List.mem_append]
          refine Or.inr (Or.inl (weightsAll_mem (d := D i) (List.mem_map.2 ⟨i, List.mem_range.2 hi, rfl⟩) k ?_))
          rw [hD]
          simp only [DataW.weights, Try.underlying39]
          exact DataW.weights_mem_each (ts := [3, 29]) (j := 1) rfl rfl k hk))).argV
        exact ⟨(K, xs), v1, c0, c1, hxs⟩)
      exact ⟨cs, h1, by omega, h2⟩
end

end Go.Proofs.Ytloppmepfkkblaa
end

section
/- 'Apart' gives true. -/
open Go Go.Proofs Go.RowKit
namespace Go.Proofs.Ytloppmepfkkblaa

/-- Four kernels apart from one another, in memory that is new since w0. -/
structure Ks (w0 w : World) (k0 k1 k2 k3 : Nat) (M0 M1 M2 M3 : MS) : Prop where
  all : ∃ F0 F1 F2 F3 : Nat → Prop, Kn w k0 F0 M0 ∧ Kn w k1 F1 M1 ∧ Kn w k2 F2 M2 ∧ Kn w k3 F3 M3 ∧ (∀ k, F0 k → ¬ F1 k ∧ ¬ F2 k ∧ ¬ F3 k) ∧ (∀ k, F1 k → ¬ F2 k ∧ ¬ F3 k) ∧ (∀ k, F2 k → ¬ F3 k) ∧ ∀ k, F0 k ∨ F1 k ∨ F2 k ∨ F3 k → w0.heap.size ≤ k
  old : Below w0.heap.size w0 w

section
variable {w0 w w' : World} {k0 k1 k2 k3 : Nat} {M0 M1 M2 M3 : MS}

theorem Ks.later (h : Ks w0 w k0 k1 k2 k3 M0 M1 M2 M3) (hb : Below w.heap.size w w') : Ks w0 w' k0 k1 k2 k3 M0 M1 M2 M3 := by
  obtain ⟨F0, F1, F2, F3, h0, h1, h2, h3, d⟩ := h.all
  exact ⟨⟨F0, F1, F2, F3, h0.below hb, h1.below hb, h2.below hb, h3.below hb, d⟩, h.old.trans (hb.mono h.old.size)⟩

theorem Ks.zero (h : Ks w0 w k0 k1 k2 k3 M0 M1 M2 M3) : ∃ F, Kn w k0 F M0 ∧ ∀ w' M', KnGoes w k0 F M' w' → Ks w0 w' k0 k1 k2 k3 M' M1 M2 M3 := by
  obtain ⟨F0, F1, F2, F3, h0, h1, h2, h3, d0, d1, d2, hF⟩ := h.all
  refine ⟨F0, h0, ?_⟩
  rintro w' M' ⟨F', g1, g2, g3⟩
  have hz := h.old.size
  refine ⟨⟨F', F1, F2, F3, g1, h1.fr g3 (fun k a b => (d0 k b).1 a), h2.fr g3 (fun k a b => (d0 k b).2.1 a), h3.fr g3 (fun k a b => (d0 k b).2.2 a), fun k hk => ?_, d1, d2, fun k hk => ?_⟩, h.old.trans (g3.below_lo (fun k hk => hF k (Or.inl hk)) hz)⟩
  · rcases g2 k hk with h | h
    · exact d0 k h
    · exact ⟨fun x => by have := h1.lt x; omega, fun x => by have := h2.lt x; omega, fun x => by have := h3.lt x; omega⟩
  · rcases hk with hk | hk
    · rcases g2 k hk with h | h
      · exact hF k (Or.inl h)
      · omega
    · exact hF k (Or.inr hk)

theorem Ks.swap (h : Ks w0 w k0 k1 k2 k3 M0 M1 M2 M3) : Ks w0 w k1 k0 k2 k3 M1 M0 M2 M3 := by
  obtain ⟨F0, F1, F2, F3, h0, h1, h2, h3, d0, d1, d2, hF⟩ := h.all
  exact ⟨⟨F1, F0, F2, F3, h1, h0, h2, h3, fun k hk => ⟨fun x => (d0 k x).1 hk, (d1 k hk).1, (d1 k hk).2⟩, fun k hk => ⟨(d0 k hk).2.1, (d0 k hk).2.2⟩, d2, fun k hk => hF k (by rcases hk with h | h | h | h <;> simp [h])⟩, h.old⟩
theorem Ks.swap2 (h : Ks w0 w k0 k1 k2 k3 M0 M1 M2 M3) : Ks w0 w k2 k1 k0 k3 M2 M1 M0 M3 := by
  obtain ⟨F0, F1, F2, F3, h0, h1, h2, h3, d0, d1, d2, hF⟩ := h.all
  exact ⟨⟨F2, F1, F0, F3, h2, h1, h0, h3, fun k hk => ⟨fun x => (d1 k x).1 hk, fun x => (d0 k x).2.1 hk, d2 k hk⟩, fun k hk => ⟨fun x => (d0 k x).1 hk, (d1 k hk).2⟩, fun k hk => (d0 k hk).2.2, fun k hk => hF k (by rcases hk with h | h | h | h <;> simp [h])⟩, h.old⟩
theorem Ks.swap3 (h : Ks w0 w k0 k1 k2 k3 M0 M1 M2 M3) : Ks w0 w k3 k1 k2 k0 M3 M1 M2 M0 := by
  obtain ⟨F0, F1, F2, F3, h0, h1, h2, h3, d0, d1, d2, hF⟩ := h.all
  exact ⟨⟨F3, F1, F2, F0, h3, h1, h2, h0, fun k hk => ⟨fun x => (d1 k x).2 hk, fun x => d2 k x hk, fun x => (d0 k x).2.2 hk⟩, fun k hk => ⟨(d1 k hk).1, fun x => (d0 k x).1 hk⟩, fun k hk x => (d0 k x).2.1 hk, fun k hk => hF k (by rcases hk with h | h | h | h <;> simp [h])⟩, h.old⟩

theorem Ks.step0 (h : Ks w0 w k0 k1 k2 k3 M0 M1 M2 M3) : ∃ F, Kn w k0 F M0 ∧ ∀ w' M', KnGoes w k0 F M' w' → Ks w0 w' k0 k1 k2 k3 M' M1 M2 M3 := h.zero
theorem Ks.step1 (h : Ks w0 w k0 k1 k2 k3 M0 M1 M2 M3) : ∃ F, Kn w k1 F M1 ∧ ∀ w' M', KnGoes w k1 F M' w' → Ks w0 w' k0 k1 k2 k3 M0 M' M2 M3 := by
  obtain ⟨F, h1, h2⟩ := h.swap.zero
  exact ⟨F, h1, fun w' M' g => (h2 w' M' g).swap⟩
theorem Ks.step2 (h : Ks w0 w k0 k1 k2 k3 M0 M1 M2 M3) : ∃ F, Kn w k2 F M2 ∧ ∀ w' M', KnGoes w k2 F M' w' → Ks w0 w' k0 k1 k2 k3 M0 M1 M' M3 := by
  obtain ⟨F, h1, h2⟩ := h.swap2.zero
  exact ⟨F, h1, fun w' M' g => (h2 w' M' g).swap2⟩
theorem Ks.step3 (h : Ks w0 w k0 k1 k2 k3 M0 M1 M2 M3) : ∃ F, Kn w k3 F M3 ∧ ∀ w' M', KnGoes w k3 F M' w' → Ks w0 w' k0 k1 k2 k3 M0 M1 M2 M' := by
  obtain ⟨F, h1, h2⟩ := h.swap3.zero
  exact ⟨F, h1, fun w' M' g => (h2 w' M' g).swap3⟩

theorem now_form (M : MS) : ∃ (nt : Int) (nl : Nat), M.now = nowV M.ph nt nl := by
  unfold MS.now
  cases M.cur with
  | none => exact ⟨-1, 0, rfl⟩
  | some s => exact ⟨s, _, rfl⟩

theorem plays_stop {M : MS} {cs : List (Int × List Int)} {k : Nat} (h : cs.length ≤ k) : M.plays (cs.take (k + 1)) = M.plays (cs.take k) := by
  rw [List.take_of_length_le h, List.take_of_length_le (by omega)]

theorem ks_start {w w1 w2 w3 w4 : World} {F0 F1 F2 F3 : Nat → Prop} (b1 : Below w.heap.size w w1) (b2 : Below w1.heap.size w1 w2) (b3 : Below w2.heap.size w2 w3) (b4 : Below w3.heap.size w3 w4)
    (h0 : Kn w1 k0 F0 M0) (h1 : Kn w2 k1 F1 M1) (h2 : Kn w3 k2 F2 M2) (h3 : Kn w4 k3 F3 M3) (f0 : ∀ k, F0 k → w.heap.size ≤ k) (f1 : ∀ k, F1 k → w1.heap.size ≤ k) (f2 : ∀ k, F2 k → w2.heap.size ≤ k) (f3 : ∀ k, F3 k → w3.heap.size ≤ k) : Ks w w4 k0 k1 k2 k3 M0 M1 M2 M3 := by
  have s1 := b1.size
  have s2 := b2.size
  have s3 := b3.size
  have s4 := b4.size
  have l0 := fun k (hk : F0 k) => h0.lt hk
  have l1 := fun k (hk : F1 k) => h1.lt hk
  have l2 := fun k (hk : F2 k) => h2.lt hk
  refine ⟨⟨F0, F1, F2, F3, ((h0.below b2).below b3).below b4, (h1.below b3).below b4, h2.below b4, h3, fun k hk => ⟨fun x => ?_, fun x => ?_, fun x => ?_⟩, fun k hk => ⟨fun x => ?_, fun x => ?_⟩, fun k hk x => ?_, fun k hk => ?_⟩, ((b1.trans (b2.mono s1)).trans (b3.mono (by omega))).trans (b4.mono (by omega))⟩
  · have := l0 k hk; have := f1 k x; omega
  · have := l0 k hk; have := f2 k x; omega
  · have := l0 k hk; have := f3 k x; omega
  · have := l1 k hk; have := f2 k x; omega
  · have := l1 k hk; have := f3 k x; omega
  · have := l2 k hk; have := f3 k x; omega
  · rcases hk with h | h | h | h
    · exact f0 k h
    · have := f1 k h; omega
    · have := f2 k h; omega
    · have := f3 k h; omega
end

/-- Four kernels, their blocks fixed. -/
structure V4 (w0 w : World) (k0 k1 k2 k3 : Nat) (F0 F1 F2 F3 : Nat → Prop) (M0 M1 M2 M3 : MS) : Prop where
  h0 : Kn w k0 F0 M0
  h1 : Kn w k1 F1 M1
  h2 : Kn w k2 F2 M2
  h3 : Kn w k3 F3 M3
  d0 : ∀ k, F0 k → ¬ F1 k ∧ ¬ F2 k ∧ ¬ F3 k
  d1 : ∀ k, F1 k → ¬ F2 k ∧ ¬ F3 k
  d2 : ∀ k, F2 k → ¬ F3 k
  lo : ∀ k, F0 k ∨ F1 k ∨ F2 k ∨ F3 k → w0.heap.size ≤ k
  old : Below w0.heap.size w0 w

section
variable {w0 w w' : World} {k0 k1 k2 k3 : Nat} {F0 F1 F2 F3 : Nat → Prop} {M0 M1 M2 M3 : MS}
theorem V4.later (h : V4 w0 w k0 k1 k2 k3 F0 F1 F2 F3 M0 M1 M2 M3) (hb : Below w.heap.size w w') : V4 w0 w' k0 k1 k2 k3 F0 F1 F2 F3 M0 M1 M2 M3 :=
  ⟨h.h0.below hb, h.h1.below hb, h.h2.below hb, h.h3.below hb, h.d0, h.d1, h.d2, h.lo, h.old.trans (hb.mono h.old.size)⟩
theorem V4.go0 (h : V4 w0 w k0 k1 k2 k3 F0 F1 F2 F3 M0 M1 M2 M3) (k : Kn w' k0 F0 M0) (f : Fr F0 w w') : V4 w0 w' k0 k1 k2 k3 F0 F1 F2 F3 M0 M1 M2 M3 :=
  ⟨k, h.h1.fr f (fun k a b => (h.d0 k b).1 a), h.h2.fr f (fun k a b => (h.d0 k b).2.1 a), h.h3.fr f (fun k a b => (h.d0 k b).2.2 a), h.d0, h.d1, h.d2, h.lo, h.old.trans (f.below_lo (fun k hk => h.lo k (Or.inl hk)) h.old.size)⟩
theorem V4.go1 (h : V4 w0 w k0 k1 k2 k3 F0 F1 F2 F3 M0 M1 M2 M3) (k : Kn w' k1 F1 M1) (f : Fr F1 w w') : V4 w0 w' k0 k1 k2 k3 F0 F1 F2 F3 M0 M1 M2 M3 :=
  ⟨h.h0.fr f (fun k a b => (h.d0 k a).1 b), k, h.h2.fr f (fun k a b => (h.d1 k b).1 a), h.h3.fr f (fun k a b => (h.d1 k b).2 a), h.d0, h.d1, h.d2, h.lo, h.old.trans (f.below_lo (fun k hk => h.lo k (Or.inr (Or.inl hk))) h.old.size)⟩
theorem V4.go2 (h : V4 w0 w k0 k1 k2 k3 F0 F1 F2 F3 M0 M1 M2 M3) (k : Kn w' k2 F2 M2) (f : Fr F2 w w') : V4 w0 w' k0 k1 k2 k3 F0 F1 F2 F3 M0 M1 M2 M3 :=
  ⟨h.h0.fr f (fun k a b => (h.d0 k a).2.1 b), h.h1.fr f (fun k a b => (h.d1 k a).1 b), k, h.h3.fr f (fun k a b => h.d2 k b a), h.d0, h.d1, h.d2, h.lo, h.old.trans (f.below_lo (fun k hk => h.lo k (Or.inr (Or.inr (Or.inl hk)))) h.old.size)⟩
theorem V4.go3 (h : V4 w0 w k0 k1 k2 k3 F0 F1 F2 F3 M0 M1 M2 M3) (k : Kn w' k3 F3 M3) (f : Fr F3 w w') : V4 w0 w' k0 k1 k2 k3 F0 F1 F2 F3 M0 M1 M2 M3 :=
  ⟨h.h0.fr f (fun k a b => (h.d0 k a).2.2 b), h.h1.fr f (fun k a b => (h.d1 k a).2 b), h.h2.fr f (fun k a b => h.d2 k a b), k, h.d0, h.d1, h.d2, h.lo, h.old.trans (f.below_lo (fun k hk => h.lo k (Or.inr (Or.inr (Or.inr hk)))) h.old.size)⟩
end
theorem KnGoes.from {w w1 w' : World} {kb : Nat} {F : Nat → Prop} {M' : MS} (h : KnGoes w1 kb F M' w') (hb : Below w.heap.size w w1) : KnGoes w kb F M' w' := by
  obtain ⟨F', h1, h2, h3⟩ := h
  exact ⟨F', h1, fun k hk => (h2 k hk).imp id (fun h => Nat.le_trans hb.size h), ((Fr.of_below hb : Fr (fun _ => False) w w1).mono (fun _ _ h => h.elim)).trans h3⟩
theorem CallsAt.later {w w' : World} {sa : Option Addr} {cs : List (Int × List Int)} (h : CallsAt w sa cs) (hb : Below w.heap.size w w') : CallsAt w' sa cs := by
  rcases h with h | ⟨sb, so, h1, h2, h3⟩
  · exact Or.inl h
  · refine Or.inr ⟨sb, so, h1, Nat.lt_of_lt_of_le h2 hb.size, fun i c hc => ?_⟩
    obtain ⟨v, c0, c1, ha⟩ := h3 i c hc
    exact ⟨v, (cell_same (hb.block sb h2) _).trans c0, (cell_same (hb.block sb h2) _).trans c1, ha.later hb⟩

/-- A call that stands at place k of a script, in later memory. -/
theorem CallsAt.get {w w' : World} {sa : Option Addr} {cs : List (Int × List Int)} {k : Nat} (h : CallsAt w sa cs) (hk : k < cs.length) (hb : Below w.heap.size w w') :
    ∃ sb so c v, sa = some ⟨sb, so, none⟩ ∧ sb < w.heap.size ∧ cs[k]? = some c ∧ w'.cell? ⟨sb, so + k * 2, none⟩ = some (.int .i64 c.1) ∧ w'.cell? ⟨sb, so + k * 2 + 1, none⟩ = some v ∧ ArgV w' v c.2 := by
  obtain ⟨c, hc⟩ : ∃ c, cs[k]? = some c := ⟨_, List.getElem?_eq_getElem hk⟩
  obtain ⟨sb, so, hsa, hsb, hcs⟩ := h.resolve_left (fun e => by rw [e] at hc; simp at hc)
  obtain ⟨v, c0, c1, ha⟩ := hcs k c hc
  exact ⟨sb, so, c, v, hsa, hsb, hc, (cell_same (hb.block sb hsb) _).trans c0, (cell_same (hb.block sb hsb) _).trans c1, ha.later hb⟩

set_option maxRecDepth 100000 in
set_option maxHeartbeats 16000000 in
theorem apart_walk (w : World) (s1 s2 : Option Addr) (n1 n2 p1 p2 : Nat) (c1 c2 : List (Int × List Int)) (e1 : c1.length = n1) (e2 : c2.length = n2) (m1 : n1 ≤ 17592186043904) (m2 : n2 ≤ 17592186043904) (h1 : CallsAt w s1 c1) (h2 : CallsAt w s2 c2) :
    Calls Try.prog 8 #[.slice s1 n1 p1, .slice s2 n2 p2] w fun e w' => e = .returned (.bool true) ∧ Below w.heap.size w w' := by
  have CA1 := hide h1
  have CA2 := hide h2
  have E1 := hide e1
  have E2 := hide e2
  clear h1 h2 e1 e2
  go_enter Try.func8, Try.ntmps8
  go_wp2_with fail
  refine (booted_any w).mono ?_
  rintro e w1 ⟨k0, F0, rfl, a0, f0, b0⟩
  have A0 := hide a0
  have HF0 := hide f0
  have B0 := hide b0
  clear a0 f0 b0
  go_wp2_with fail
  refine (booted_any w1).mono ?_
  rintro e w2 ⟨k1, F1, rfl, a1, f1, b1⟩
  have A1 := hide a1
  have HF1 := hide f1
  have B1 := hide b1
  clear a1 f1 b1
  go_wp2_with fail
  have PL1 := hide (played_any w2 s1 n1 p1 c1 E1.out m1 (CA1.out.later (B0.out.trans (B1.out.mono B0.out.size))))
  refine PL1.out.mono ?_
  clear PL1
  rintro e w3 ⟨k2, F2, rfl, a2, f2, b2⟩
  have A2 := hide a2
  have HF2 := hide f2
  have B2 := hide b2
  clear a2 f2 b2
  go_wp2_with fail
  have PL2 := hide (played_any w3 s2 n2 p2 c2 E2.out m2 (CA2.out.later ((B0.out.trans (B1.out.mono B0.out.size)).trans (B2.out.mono (Nat.le_trans B0.out.size B1.out.size)))))
  refine PL2.out.mono ?_
  clear PL2
  rintro e w4 ⟨k3, F3, rfl, a3, f3, b3⟩
  have KS := hide (ks_start B0.out B1.out B2.out b3 A0.out A1.out A2.out a3 HF0.out HF1.out HF2.out f3)
  clear a3 f3 b3 A0 A1 A2 HF0 HF1 HF2 B0 B1 B2
  go_wp2_with fail
  go_loopw [9] (fun i w' => ∃ t : Nat, i = .int .i64 t ∧ (t ≤ n1 ∨ t ≤ n2) ∧ Ks w w' k0 k1 k2 k3 (MS.boot.plays (c1.take t)) (MS.boot.plays (c2.take t)) (MS.boot.plays c1) (MS.boot.plays c2)) (fun i _ => n1 + n2 - (intOf i).toNat)
  case atStart => exact ⟨0, rfl, by omega, KS.out⟩
  case round =>
    obtain ⟨t, rfl, ht, ks⟩ := hrel
    clear KS
    have KS := hide ks
    have hz := ks.old.size
    clear ks
    have ht4 : t ≤ 17592186043904 := by omega
    by_cases t1 : t < n1
    · have t1i : (t : Int) < (n1 : Int) := by omega
      obtain ⟨sb1, so1, d1, v1, hsa1, hsb1, hc1, q10, q11, av1⟩ := CA1.out.get (k := t) (by have := E1.out; omega) KS.out.old
      have AV1 := hide av1
      obtain ⟨va1, vn1, vc1, hv1⟩ := av1.form
      subst hv1
      subst hsa1
      have EP1 := hide (MS.plays_take (M := MS.boot) hc1)
      have hl1 : sb1 < wr.heap.size := by have := KS.out.old.size; omega
      obtain ⟨Fa1, ka1, go1⟩ := KS.out.step0
      have Ka1 := hide ka1
      have Go1 := hide go1
      clear av1 ka1 go1 hc1
      by_cases dt1 : d1.1 = -1
      · have ec : (MS.boot.plays (c1.take t)).call d1 = (MS.boot.plays (c1.take t)).tick := if_pos dt1
        rw [ec] at EP1
        rw [dt1] at q10
        clear ec dt1
        go_wp2_with fail
        refine (kn_tick Ka1.out).mono ?_
        rintro e w6 ⟨rfl, g⟩
        have KS6 := hide (Go1.out w6 _ g)
        have hz1 := KS6.out.old.size
        clear g KS Ka1 Go1
        by_cases t2 : t < n2
        · have t2i : (t : Int) < (n2 : Int) := by omega
          obtain ⟨sb2, so2, d2, v2, hsa2, hsb2, hc2, q20, q21, av2⟩ := CA2.out.get (k := t) (by have := E2.out; omega) KS6.out.old
          have AV2 := hide av2
          obtain ⟨va2, vn2, vc2, hv2⟩ := av2.form
          subst hv2
          subst hsa2
          have EP2 := hide (MS.plays_take (M := MS.boot) hc2)
          have hl2 : sb2 < w6.heap.size := by have := KS6.out.old.size; omega
          obtain ⟨Fa2, ka2, go2⟩ := KS6.out.step1
          have Ka2 := hide ka2
          have Go2 := hide go2
          clear av2 ka2 go2 hc2
          by_cases dt2 : d2.1 = -1
          · have ec : (MS.boot.plays (c2.take t)).call d2 = (MS.boot.plays (c2.take t)).tick := if_pos dt2
            rw [ec] at EP2
            rw [dt2] at q20
            clear ec dt2
            go_wp2_with fail
            refine (kn_tick Ka2.out).mono ?_
            rintro e w7 ⟨rfl, g⟩
            have KS7 := hide (Go2.out w7 _ g)
            have hz2 := KS7.out.old.size
            clear g KS6 Ka2 Go2
            go_wp2_with fail
            exact ⟨⟨t + 1, by go_num, by omega, by rw [EP1.out, EP2.out]; exact KS7.out⟩, by simp [intOf]; omega⟩
          · have ec : (MS.boot.plays (c2.take t)).call d2 = ((MS.boot.plays (c2.take t)).trap d2.1 d2.2).2 := if_neg dt2
            rw [ec] at EP2
            clear ec
            go_wp2_with fail
            go_still_tail 11, (by kernel_rfl)
            go_wp2_with fail
            refine (kn_trapV (Ka2.out.below (Below.refl _ _).drew) d2.1 (AV2.out.later (Below.refl _ _).drew)).mono ?_
            rintro e w7 ⟨rfl, g⟩
            have KS7 := hide (Go2.out w7 _ (g.from (Below.refl _ _).drew))
            have hz2 := KS7.out.old.size
            clear g KS6 Ka2 Go2
            generalize MS.out _ d2.1 d2.2 = ov2
            go_wp2_with fail
            exact ⟨⟨t + 1, by go_num, by omega, by rw [EP1.out, EP2.out]; exact KS7.out⟩, by simp [intOf]; omega⟩
        · have t2i : ¬ (t : Int) < (n2 : Int) := by omega
          have EP2 := hide (plays_stop (M := MS.boot) (cs := c2) (k := t) (by have := E2.out; omega))
          go_wp2_with fail
          exact ⟨⟨t + 1, by go_num, by omega, by rw [EP1.out, EP2.out]; exact KS6.out⟩, by simp [intOf]; omega⟩
      · have ec : (MS.boot.plays (c1.take t)).call d1 = ((MS.boot.plays (c1.take t)).trap d1.1 d1.2).2 := if_neg dt1
        rw [ec] at EP1
        clear ec
        go_wp2_with fail
        go_still_tail 11, (by kernel_rfl)
        go_wp2_with fail
        refine (kn_trapV (Ka1.out.below (Below.refl _ _).drew) d1.1 (AV1.out.later (Below.refl _ _).drew)).mono ?_
        rintro e w6 ⟨rfl, g⟩
        have KS6 := hide (Go1.out w6 _ (g.from (Below.refl _ _).drew))
        have hz1 := KS6.out.old.size
        clear g KS Ka1 Go1
        generalize MS.out _ d1.1 d1.2 = ov1
        by_cases t2 : t < n2
        · have t2i : (t : Int) < (n2 : Int) := by omega
          obtain ⟨sb2, so2, d2, v2, hsa2, hsb2, hc2, q20, q21, av2⟩ := CA2.out.get (k := t) (by have := E2.out; omega) KS6.out.old
          have AV2 := hide av2
          obtain ⟨va2, vn2, vc2, hv2⟩ := av2.form
          subst hv2
          subst hsa2
          have EP2 := hide (MS.plays_take (M := MS.boot) hc2)
          have hl2 : sb2 < w6.heap.size := by have := KS6.out.old.size; omega
          obtain ⟨Fa2, ka2, go2⟩ := KS6.out.step1
          have Ka2 := hide ka2
          have Go2 := hide go2
          clear av2 ka2 go2 hc2
          by_cases dt2 : d2.1 = -1
          · have ec : (MS.boot.plays (c2.take t)).call d2 = (MS.boot.plays (c2.take t)).tick := if_pos dt2
            rw [ec] at EP2
            rw [dt2] at q20
            clear ec dt2
            go_wp2_with fail
            refine (kn_tick Ka2.out).mono ?_
            rintro e w7 ⟨rfl, g⟩
            have KS7 := hide (Go2.out w7 _ g)
            have hz2 := KS7.out.old.size
            clear g KS6 Ka2 Go2
            go_wp2_with fail
            exact ⟨⟨t + 1, by go_num, by omega, by rw [EP1.out, EP2.out]; exact KS7.out⟩, by simp [intOf]; omega⟩
          · have ec : (MS.boot.plays (c2.take t)).call d2 = ((MS.boot.plays (c2.take t)).trap d2.1 d2.2).2 := if_neg dt2
            rw [ec] at EP2
            clear ec
            go_wp2_with fail
            go_still_tail 11, (by kernel_rfl)
            go_wp2_with fail
            refine (kn_trapV (Ka2.out.below (Below.refl _ _).drew) d2.1 (AV2.out.later (Below.refl _ _).drew)).mono ?_
            rintro e w7 ⟨rfl, g⟩
            have KS7 := hide (Go2.out w7 _ (g.from (Below.refl _ _).drew))
            have hz2 := KS7.out.old.size
            clear g KS6 Ka2 Go2
            generalize MS.out _ d2.1 d2.2 = ov2
            go_wp2_with fail
            exact ⟨⟨t + 1, by go_num, by omega, by rw [EP1.out, EP2.out]; exact KS7.out⟩, by simp [intOf]; omega⟩
        · have t2i : ¬ (t : Int) < (n2 : Int) := by omega
          have EP2 := hide (plays_stop (M := MS.boot) (cs := c2) (k := t) (by have := E2.out; omega))
          go_wp2_with fail
          exact ⟨⟨t + 1, by go_num, by omega, by rw [EP1.out, EP2.out]; exact KS6.out⟩, by simp [intOf]; omega⟩
    · have t1i : ¬ (t : Int) < (n1 : Int) := by omega
      have EP1 := hide (plays_stop (M := MS.boot) (cs := c1) (k := t) (by have := E1.out; omega))
      by_cases t2 : t < n2
      · have t2i : (t : Int) < (n2 : Int) := by omega
        obtain ⟨sb2, so2, d2, v2, hsa2, hsb2, hc2, q20, q21, av2⟩ := CA2.out.get (k := t) (by have := E2.out; omega) KS.out.old
        have AV2 := hide av2
        obtain ⟨va2, vn2, vc2, hv2⟩ := av2.form
        subst hv2
        subst hsa2
        have EP2 := hide (MS.plays_take (M := MS.boot) hc2)
        have hl2 : sb2 < wr.heap.size := by have := KS.out.old.size; omega
        obtain ⟨Fa2, ka2, go2⟩ := KS.out.step1
        have Ka2 := hide ka2
        have Go2 := hide go2
        clear av2 ka2 go2 hc2
        by_cases dt2 : d2.1 = -1
        · have ec : (MS.boot.plays (c2.take t)).call d2 = (MS.boot.plays (c2.take t)).tick := if_pos dt2
          rw [ec] at EP2
          rw [dt2] at q20
          clear ec dt2
          go_wp2_with fail
          refine (kn_tick Ka2.out).mono ?_
          rintro e w7 ⟨rfl, g⟩
          have KS7 := hide (Go2.out w7 _ g)
          have hz2 := KS7.out.old.size
          clear g KS Ka2 Go2
          go_wp2_with fail
          exact ⟨⟨t + 1, by go_num, by omega, by rw [EP1.out, EP2.out]; exact KS7.out⟩, by simp [intOf]; omega⟩
        · have ec : (MS.boot.plays (c2.take t)).call d2 = ((MS.boot.plays (c2.take t)).trap d2.1 d2.2).2 := if_neg dt2
          rw [ec] at EP2
          clear ec
          go_wp2_with fail
          go_still_tail 11, (by kernel_rfl)
          go_wp2_with fail
          refine (kn_trapV (Ka2.out.below (Below.refl _ _).drew) d2.1 (AV2.out.later (Below.refl _ _).drew)).mono ?_
          rintro e w7 ⟨rfl, g⟩
          have KS7 := hide (Go2.out w7 _ (g.from (Below.refl _ _).drew))
          have hz2 := KS7.out.old.size
          clear g KS Ka2 Go2
          generalize MS.out _ d2.1 d2.2 = ov2
          go_wp2_with fail
          exact ⟨⟨t + 1, by go_num, by omega, by rw [EP1.out, EP2.out]; exact KS7.out⟩, by simp [intOf]; omega⟩
      · have t2i : ¬ (t : Int) < (n2 : Int) := by omega
        have EP2 := hide (plays_stop (M := MS.boot) (cs := c2) (k := t) (by have := E2.out; omega))
        obtain ⟨F0, F1, F2, F3, h0, h1, h2, h3, d0, d1, d2, hF⟩ := KS.out.all
        rw [List.take_of_length_le (by have := E1.out; omega)] at h0
        rw [List.take_of_length_le (by have := E2.out; omega)] at h1
        have V := hide (V4.mk h0 h1 h2 h3 d0 d1 d2 hF KS.out.old)
        have VS1 := hide (view_short h0.inv 255)
        have VS2 := hide (view_short h1.inv 255)
        have L1 : Hid (∀ k, F1 k → k < wr.heap.size) := fun k hk => h1.lt hk
        have L2 : Hid (∀ k, F2 k → k < wr.heap.size) := fun k hk => h2.lt hk
        have L3 : Hid (∀ k, F3 k → k < wr.heap.size) := fun k hk => h3.lt hk
        clear h0 h1 h2 h3 d0 d1 d2 hF KS EP1 EP2
        go_wp2_with fail
        refine (kn_view V.out.h0 255).mono ?_
        rintro e wA ⟨va, rfl, oa, ka, fa⟩
        have OA := hide oa
        have VA := hide (V.out.go0 ka fa)
        have za := fa.size
        clear oa ka fa V
        go_wp2_with fail
        refine (kn_view VA.out.h2 255).mono ?_
        rintro e wB ⟨vb, rfl, ob, kb, fb⟩
        have OB := hide ob
        have OA2 := hide (OA.out.same (fun k hk => fb.block k (OA.out.row hk).2 (fun hf => by have := L2.out k hf; have := (OA.out.row hk).1; omega)))
        have VB := hide (VA.out.go2 kb fb)
        have zb := fb.size
        clear ob kb fb VA OA
        go_wp2_with fail
        refine (same_any wB _ _ va vb _ _ OA2.out OB.out (Nat.le_trans VS1.out (by omega))).mono ?_
        rintro e wC ⟨rfl, bc⟩
        have VC := hide (VB.out.later bc)
        have zc := bc.size
        clear bc VB OA2 OB
        rw [decide_eq_true rfl]
        go_wp2_with fail
        refine (kn_view VC.out.h1 255).mono ?_
        rintro e wD ⟨vd, rfl, od, kd, fd⟩
        have OD := hide od
        have VD := hide (VC.out.go1 kd fd)
        have zd := fd.size
        clear od kd fd VC
        go_wp2_with fail
        refine (kn_view VD.out.h3 255).mono ?_
        rintro e wE ⟨ve, rfl, oe, ke, fe⟩
        have OE := hide oe
        have OD2 := hide (OD.out.same (fun k hk => fe.block k (OD.out.row hk).2 (fun hf => by have := L3.out k hf; have := (OD.out.row hk).1; omega)))
        have VE := hide (VD.out.go3 ke fe)
        clear oe ke fe VD OD
        go_wp2_with fail
        refine (same_any wE _ _ vd ve _ _ OD2.out OE.out (Nat.le_trans VS2.out (by omega))).mono ?_
        rintro e wF ⟨rfl, bf⟩
        have VF := hide (VE.out.later bf)
        clear bf VE OD2 OE
        rw [decide_eq_true rfl]
        obtain ⟨nt, nl, hnow⟩ := now_form (MS.boot.plays c1)
        obtain ⟨mt, ml, hmow⟩ := now_form (MS.boot.plays c2)
        go_wp2_with fail
        refine (kn_now VF.out.h0).mono ?_
        rintro e wG ⟨rfl, bg⟩
        have VG := hide (VF.out.later bg)
        clear bg VF
        rw [hnow, nowV]
        go_wp2_with fail
        refine (kn_now VG.out.h2).mono ?_
        rintro e wH ⟨rfl, bh⟩
        have VH := hide (VG.out.later bh)
        clear bh VG
        rw [hnow, nowV]
        go_wp2_with fail
        refine (kn_now VH.out.h1).mono ?_
        rintro e wI ⟨rfl, bi⟩
        have VI := hide (VH.out.later bi)
        clear bi VH
        rw [hmow, nowV]
        go_wp2_with fail
        refine (kn_now VI.out.h3).mono ?_
        rintro e wJ ⟨rfl, bj⟩
        have VJ := hide (VI.out.later bj)
        clear bj VI
        rw [hmow, nowV]
        go_wp2_with fail
        go_ret
        exact ⟨rfl, VJ.out.old⟩

end Go.Proofs.Ytloppmepfkkblaa
end

section
/- 'Timed' gives true. -/
open Go Go.Proofs Go.RowKit
namespace Go.Proofs.Ytloppmepfkkblaa

/-! ### ticks, on the plain kernel -/
def MS.at (M : MS) (j : Nat) : MS := { M with ph := (M.ph + j) % 8 }
def MS.thr (M : MS) : Int := match M.cur with
  | none => -1
  | some s => s
def MS.lab (M : MS) : Nat := match M.cur with
  | none => 0
  | some s => (M.S s).label
theorem MS.now_eq (M : MS) : M.now = nowV M.ph M.thr M.lab := by
  unfold MS.now MS.thr MS.lab
  cases M.cur <;> rfl
theorem MS.at_zero {M : MS} (h : MInv M) : M.at 0 = M := by
  unfold MS.at
  rw [Nat.add_zero, Nat.mod_eq_of_lt h.ph]
theorem MS.at_tick (M : MS) (j : Nat) : (M.at j).tick = M.at (j + 1) := by
  unfold MS.at MS.tick
  simp only [MS.mk.injEq, true_and]
  omega
theorem MS.at_mod (M : MS) (j : Nat) : M.at (8 + j) = M.at (j % 8) := by
  unfold MS.at
  simp only [MS.mk.injEq, true_and]
  omega
theorem MS.at_ph (M : MS) (j : Nat) : (((M.at (j + 1)).ph : Nat) : Int) = (((M.at j).ph : Int) + 1).tmod 8 := by
  rw [Int.tmod_eq_emod_of_nonneg (by omega)]
  simp only [MS.at]
  omega
theorem MS.at_lt (M : MS) (j : Nat) : (M.at j).ph < 8 := Nat.mod_lt _ (by omega)
theorem MInv.at {M : MS} (h : MInv M) (j : Nat) : MInv (M.at j) :=
  ⟨h.tree, h.kinds, h.free, h.clean, h.segs, h.ports, h.others, h.live, Nat.mod_lt _ (by omega)⟩
theorem thr_range {M : MS} (h : MInv M) : -1 ≤ M.thr ∧ M.thr < 32 ∧ (M.thr = -1 → M.lab = 0) := by
  unfold MS.thr MS.lab
  cases hc : M.cur with
  | none => exact ⟨by simp, by simp, fun _ => rfl⟩
  | some s =>
    have := (h.cur_some hc).1
    exact ⟨show (-1 : Int) ≤ (s : Int) by omega, show (s : Int) < 32 by omega, fun h => by have h : (s : Int) = -1 := h; omega⟩

/-- What was told on the way. -/
def seenC (M : MS) : Nat → List Value
  | 0 => []
  | j + 1 => seenC M j ++ [.int .i64 (M.at j).ph, .int .i64 (M.at j).thr, .int .i64 (M.at j).lab]
theorem seenC_length (M : MS) : ∀ j, (seenC M j).length = j * 3
  | 0 => rfl
  | j + 1 => by
    simp only [seenC, List.length_append, seenC_length M j, List.length_cons, List.length_nil]
    omega
theorem seenC_get (M : MS) {i : Nat} : ∀ {j}, i < j → (seenC M j)[i * 3]? = some (.int .i64 (M.at i).ph) ∧ (seenC M j)[i * 3 + 1]? = some (.int .i64 (M.at i).thr) ∧ (seenC M j)[i * 3 + 2]? = some (.int .i64 (M.at i).lab)
  | j + 1, h => by
    have hl := seenC_length M j
    unfold seenC
    by_cases hj : i < j
    · obtain ⟨h1, h2, h3⟩ := seenC_get M hj
      rw [List.getElem?_append_left (by omega), List.getElem?_append_left (by omega), List.getElem?_append_left (by omega)]
      exact ⟨h1, h2, h3⟩
    · have : i = j := by omega
      subst this
      rw [List.getElem?_append_right (by omega), List.getElem?_append_right (by omega), List.getElem?_append_right (by omega), hl]
      simp [Nat.add_sub_cancel_left]

/-! ### the row of it -/
def Seen (w : World) (B : Nat) (v : Value) (M : MS) (j : Nat) : Prop := w.ownsRow B 42 3 v j (seenC M j)
section
variable {w w' : World} {B : Nat} {v : Value} {M : MS} {j : Nat}
theorem Seen.nil : Seen w B (.slice none 0 0) M 0 := ⟨rfl, Or.inl ⟨rfl, rfl⟩⟩
theorem Seen.row (h : Seen w B v M j) {k : Nat} (hk : v.ownBlock = some k) : B ≤ k ∧ k < w.heap.size := by
  rcases h.2 with ⟨h1, _⟩ | ⟨g, cap, cur, h1, h2, h3, _⟩
  · rw [h1] at hk; cases hk
  · rw [h1] at hk
    injection hk with hk
    have hk : g = k := hk
    subst hk
    exact ⟨h2, (Array.getElem?_eq_some_iff.1 h3).1⟩
theorem Seen.same (h : Seen w B v M j) (e : ∀ k, v.ownBlock = some k → w'.heap[k]? = w.heap[k]?) : Seen w' B v M j := by
  refine ⟨h.1, ?_⟩
  rcases h.2 with h1 | ⟨g, cap, cur, h1, h2, h3, h4⟩
  · exact Or.inl h1
  · exact Or.inr ⟨g, cap, cur, h1, h2, by rw [e g (by rw [h1]; rfl)]; exact h3, h4⟩
theorem Seen.later (h : Seen w B v M j) (hb : Below w.heap.size w w') : Seen w' B v M j := h.same (fun k hk => hb.block k (h.row hk).2)
theorem Seen.form (h : Seen w B v M j) : ∃ a c, v = .slice a j c := by
  rcases h.2 with ⟨h1, h2⟩ | ⟨g, cap, cur, h1, _⟩
  · subst h2; exact ⟨_, _, h1⟩
  · exact ⟨_, _, h1⟩
/-- Its i-th thing lies there. -/
theorem Seen.cells {a : Option Addr} {c i : Nat} (h : Seen w B (.slice a j c) M j) (hi : i < j) : ∃ g, a = some ⟨g, 0, none⟩ ∧ g < w.heap.size ∧ w.cell? ⟨g, i * 3, none⟩ = some (.int .i64 (M.at i).ph) ∧ w.cell? ⟨g, i * 3 + 1, none⟩ = some (.int .i64 (M.at i).thr) ∧ w.cell? ⟨g, i * 3 + 2, none⟩ = some (.int .i64 (M.at i).lab) := by
  rcases h.2 with ⟨h1, h2⟩ | ⟨g, cap, cur, h1, h2, h3, h4, h5, h6, h7⟩
  · omega
  · injection h1 with e1 e2 e3
    have hB : Blk w g cur := ⟨_, h3⟩
    obtain ⟨q0, q1, q2⟩ := seenC_get M hi
    have hc : ∀ n, n < j * 3 → w.cell? ⟨g, n, none⟩ = (seenC M j)[n]? := fun n hn => by
      rw [hB.cell, ← h7, List.getElem?_take_of_lt hn, Array.getElem?_toList]
    exact ⟨g, e1, hB.lt, (hc _ (by omega)).trans q0, (hc _ (by omega)).trans q1, (hc _ (by omega)).trans q2⟩
end

section
variable {ops : Array Oper} {rest : List Oper} {o : Oper} {a : Act} {Q : Exit → Act → World → Prop}
theorem wpList_seen (w : World) (hgd : o.guard = none) (s x : Operand) (ho : o.op = .call { callee := .builtin .append, args := #[s, x], argTypes := #[49, 49] }) (B : Nat) (v : Value) (M : MS) (j : Nat) (hs : a.eval s = v) (hown : Seen w B v M j)
    (n0 n1 n2 : Int) (N : Nat) (hN : w.heap.size = N) (hx : a.eval x = .slice (some ⟨N, 0, none⟩) 1 1) (hn : n0 = (M.at j).ph ∧ n1 = (M.at j).thr ∧ n2 = (M.at j).lab) (hlen : j ≤ 1000) (hB : B ≤ w.heap.size)
    (h : ∀ v' w', Seen w' B v' M (j + 1) → Below B w w' → (∀ X, X < w.heap.size → v.ownBlock ≠ some X → w'.heap[X]? = w.heap[X]? ∧ v'.ownBlock ≠ some X) → wpList Try.prog ops Q rest (a.put o.dst v') w') : wpList Try.prog ops Q (o :: rest) a (w.alloc (.cells #[.int .i64 n0, .int .i64 n1, .int .i64 n2] 42)) := by
  subst hN
  obtain ⟨rfl, rfl, rfl⟩ := hn
  have hal : Below w.heap.size w (w.alloc (.cells #[.int .i64 (M.at j).ph, .int .i64 (M.at j).thr, .int .i64 (M.at j).lab] 42)) := (Below.refl _ _).alloc (Nat.le_refl _) _
  refine wpList_append_own_at _ hgd s x 49 ho B 42 Try.t42 (.agg #[.int .i64 0, .int .i64 0, .int .i64 0]) 3 24 Try.underlying49 (by kernel_rfl) (by kernel_rfl) (by kernel_rfl) (by kernel_rfl) (by rfl) (by omega) v j (seenC M j) hs (hown.later hal) ⟨w.heap.size, 0, none⟩ 1 1 [.int .i64 (M.at j).ph, .int .i64 (M.at j).thr, .int .i64 (M.at j).lab] hx (by rfl) (fun k u hu => ?_) (fun u hu => ?_) (by unfold maxLen; omega) (by omega) (by have := hal.size; omega) (fun v' w' h1 h2 _ h4 => ?_)
  · exact World.news_of_block (heap_alloc_new w _) k u hu
  · simp at hu
    rcases hu with rfl | rfl | rfl <;> rfl
  · refine h v' w' h1 ?_ (fun X hX hne => ⟨(h2.block X (by have := hal.size; omega) (Ne.symm hne)).trans (hal.block X hX), fun e => ?_⟩)
    · exact (hal.mono hB).grown h2 (by have := hal.size; omega) (fun k hk => (hown.row hk).1)
    · rcases h4 with h4 | h4
      · exact hne (h4.symm.trans e)
      · rw [h4] at e; injection e with e; have := hal.size; omega
end

/-! ### what stands at each round -/
def TimeS (w0 w : World) (kb : Nat) (M : MS) (t : Nat) (wv sv : Value) (j : Nat) : Prop :=
  ∃ F, Kn w kb F (M.at t) ∧ (∀ k, F k → w0.heap.size ≤ k) ∧ Outs w w0.heap.size wv (viewM M 255) ∧ Seen w w0.heap.size sv M j ∧ (∀ k, wv.ownBlock = some k → ¬ F k ∧ sv.ownBlock ≠ some k) ∧ (∀ k, sv.ownBlock = some k → ¬ F k) ∧ Below w0.heap.size w0 w
section
variable {w0 w w' : World} {kb : Nat} {M : MS} {t j : Nat} {wv sv : Value}
theorem TimeS.later (h : TimeS w0 w kb M t wv sv j) (hb : Below w.heap.size w w') : TimeS w0 w' kb M t wv sv j := by
  obtain ⟨F, h1, h2, h3, h4, h5, h6, h7⟩ := h
  exact ⟨F, h1.below hb, h2, h3.later hb, h4.later hb, h5, h6, h7.trans (hb.mono h7.size)⟩
theorem TimeS.tick (h : TimeS w0 w kb M t wv sv j) : Calls Try.prog 15 #[.pointer (some ⟨kb, 0, none⟩)] w fun e w' => e = .returned (.tuple #[]) ∧ TimeS w0 w' kb M (t + 1) wv sv j := by
  obtain ⟨F, h1, h2, h3, h4, h5, h6, h7⟩ := h
  refine (kn_tick h1).mono ?_
  rintro e w' ⟨he, F', g1, g2, g3⟩
  rw [MS.at_tick] at g1
  have hs := h7.size
  refine ⟨he, F', g1, fun k hk => (g2 k hk).elim (h2 k) (fun h => by omega), h3.same (fun k hk => g3.block k (h3.row hk).2 (h5 k hk).1), h4.same (fun k hk => g3.block k (h4.row hk).2 (h6 k hk)), fun k hk => ⟨fun hf => ?_, (h5 k hk).2⟩, fun k hk hf => ?_, h7.trans (Fr.below_lo g3 h2 hs)⟩
  · rcases g2 k hf with h | h
    · exact (h5 k hk).1 h
    · have := (h3.row hk).2; omega
  · rcases g2 k hf with h | h
    · exact h6 k hk h
    · have := (h4.row hk).2; omega
theorem TimeS.now (h : TimeS w0 w kb M t wv sv j) : Calls Try.prog 18 #[.pointer (some ⟨kb, 0, none⟩)] w fun e w' => e = .returned (.agg #[.int .i64 (M.at t).ph, .int .i64 (M.at t).thr, .int .i64 (M.at t).lab]) ∧ Below w.heap.size w w' := by
  obtain ⟨F, q1, q2, q3, q4, q5⟩ := h
  have := kn_now q1
  rw [MS.now_eq] at this
  exact this
theorem TimeS.size (h : TimeS w0 w kb M t wv sv j) : w0.heap.size ≤ w.heap.size := by
  obtain ⟨F, q1, q2, q3, q4, q5, q6, q7⟩ := h
  exact q7.size
theorem TimeS.seen (h : TimeS w0 w kb M t wv sv j) : Seen w w0.heap.size sv M j := by
  obtain ⟨F, q1, q2, q3, q4, q5, q6, q7⟩ := h
  exact q4
/-- Behind the append. -/
theorem TimeS.grown {v' : Value} (h : TimeS w0 w kb M t wv sv j) (h1 : Seen w' w0.heap.size v' M (j + 1)) (h2 : Below w0.heap.size w w') (h3 : ∀ X, X < w.heap.size → sv.ownBlock ≠ some X → w'.heap[X]? = w.heap[X]? ∧ v'.ownBlock ≠ some X) : TimeS w0 w' kb M t wv v' (j + 1) := by
  obtain ⟨F, g1, g2, g3, g4, g5, g6, g7⟩ := h
  have hk : ∀ k, F k → sv.ownBlock ≠ some k := fun k hk e => g6 k e hk
  refine ⟨F, ?_, g2, g3.same (fun k hk => (h3 k (g3.row hk).2 (g5 k hk).2).1), h1, fun k hk => ⟨(g5 k hk).1, (h3 k (g3.row hk).2 (g5 k hk).2).2⟩, fun k hk' hf => (h3 k (g1.lt hf) (hk k hf)).2 hk', g7.trans h2⟩
  exact g1.fr (P := fun k => ¬ F k) ⟨h2.os, h2.tape, h2.output, h2.size, fun k hlt hf => (h3 k hlt (hk k (Classical.not_not.1 hf))).1⟩ (fun k hf hn => hn hf)
end

set_option maxRecDepth 100000 in
set_option maxHeartbeats 16000000 in
theorem timed_walk (w : World) (s1 : Option Addr) (n1 p1 : Nat) (c1 : List (Int × List Int)) (e1 : c1.length = n1) (m1 : n1 ≤ 17592186043904) (h1 : CallsAt w s1 c1) (rounds : Int) (hr : -9223372036854775808 ≤ rounds ∧ rounds ≤ 9223372036854775807) :
    Calls Try.prog 5 #[.slice s1 n1 p1, .int .i64 rounds] w fun e w' => e = .returned (.bool true) ∧ Below w.heap.size w w' := by
  obtain ⟨p, hp0, hp1, hpick⟩ := pick_val rounds 3 hr (by omega)
  have HP := hide hpick
  have PL := hide (played_any _ s1 n1 p1 c1 e1 m1 h1)
  clear e1 h1 hpick hr
  go_enter Try.func5, Try.ntmps5
  go_wp2_with fail
  refine PL.out.mono ?_
  clear PL
  rintro e w2 ⟨kb, F, rfl, k2, f2, b2⟩
  generalize MS.boot.plays c1 = M at *
  have hI := k2.inv
  have HI := hide hI
  have VS := hide (view_short hI 255)
  have K2 := hide k2
  have HF := hide f2
  have LF : Hid (∀ k, F k → k < w2.heap.size) := fun k hk => k2.lt hk
  have B2 := hide b2
  clear k2 f2 b2 hI
  go_wp2_with fail
  refine (kn_view K2.out 255).mono ?_
  rintro e w3 ⟨v3, rfl, o3, k3, f3⟩
  have z2 := B2.out.size
  have TS : Hid (TimeS w w3 kb M 0 v3 (.slice none 0 0) 0) := by
    refine ⟨F, ?_, HF.out, ?_, Seen.nil, fun k hk => ⟨fun hf => ?_, (fun h => by cases h)⟩, (fun k hk => by cases hk), B2.out.trans (f3.below_lo HF.out z2)⟩
    · rw [MS.at_zero HI.out]; exact k3
    · refine ⟨o3.1, ?_⟩
      rcases o3.2 with h | ⟨g, cap, cur, q1, q2, q3⟩
      · exact Or.inl h
      · exact Or.inr ⟨g, cap, cur, q1, by omega, q3⟩
    · have := (o3.row hk).1
      have := LF.out k hf
      omega
  obtain ⟨o3a, o3n, o3c, hv3⟩ := o3.form
  subst hv3
  clear o3 k3 f3 K2 HF LF B2 z2
  go_wp2_with fail
  go_loopw [7, 8] (fun sv i w' => ∃ j : Nat, j ≤ 8 ∧ i = .int .i64 j ∧ TimeS w w' kb M j (.slice o3a o3n o3c) sv j) (fun _ i _ => 8 - (intOf i).toNat)
  case atStart => exact ⟨0, by omega, rfl, TS.out⟩
  case round =>
    obtain ⟨j, hj, rfl, hts⟩ := hrel
    have HTS := hide hts
    obtain ⟨sa, sc, hsv⟩ : ∃ a c, u7 = Value.slice a j c := by
      obtain ⟨F, q1, q2, q3, q4, q5⟩ := hts
      exact q4.form
    subst hsv
    clear TS
    by_cases hj8 : j < 8
    · have hji : (j : Int) < 8 := by omega
      have hsz := hts.size
      have NN := hide hts.now
      obtain ⟨t1, t2, t3⟩ := thr_range (HI.out.at j)
      have T3 := hide t3
      clear hts t3
      go_wp2_with fail
      refine NN.out.mono ?_
      clear NN
      rintro e w4 ⟨rfl, b4⟩
      have hbA : Below w4.heap.size w4 (w4.alloc (.cells #[.int .i64 (M.at j).ph, .int .i64 (M.at j).thr, .int .i64 (M.at j).lab] 42)) := (Below.refl _ _).alloc (Nat.le_refl _) _
      have z4 := b4.size
      have HA := hide (HTS.out.later (b4.trans (hbA.mono z4)))
      have NA := hide (Blk.new w4 #[.int .i64 (M.at j).ph, .int .i64 (M.at j).thr, .int .i64 (M.at j).lab] 42)
      clear hbA b4 HTS
      go_wp2_with fail
      generalize (w4.alloc (.cells #[.int .i64 (M.at j).ph, .int .i64 (M.at j).thr, .int .i64 (M.at j).lab] 42)) = wA at *
      have L0 := later_cell ((NA.out.cell 0).trans (show _ = some (Value.int .i64 (M.at j).ph) from rfl)) NA.out.lt
      have L1 := later_cell ((NA.out.cell 1).trans (show _ = some (Value.int .i64 (M.at j).thr) from rfl)) NA.out.lt
      have L2 := later_cell ((NA.out.cell 2).trans (show _ = some (Value.int .i64 (M.at j).lab) from rfl)) NA.out.lt
      have hlA := NA.out.lt
      have th1 : ¬ (32 : Int) ≤ (M.at j).thr := by omega
      have th2 : ¬ (M.at j).thr < -1 := by omega
      cases j with
      | zero =>
        by_cases ht : (M.at 0).thr = -1
        · have hl0 := T3.out ht
          rw [ht] at L1
          rw [hl0] at L2
          have hne : Nonempty (Later wA) := ⟨⟨wA, Below.refl _ _⟩⟩
          refine wp_region_later (by kernel_rfl) (by kernel_rfl) ?_
          repeat (go_big_quiet_step (fail))
          refine wpQuiet_nil ?_
          rintro _ ⟨wl, rfl⟩
          clear hne
          have HL := hide (HA.out.later wl.2)
          have zl := wl.2.size
          have zw := HL.out.size
          have hj9 : 0 ≤ 1000 := by omega
          have c0 := L0 wl
          have c1 := L1 wl
          have c2 := L2 wl
          have l5 : w4.heap.size < wl.1.heap.size := by omega
          generalize wl.1 = w5 at *
          clear HA NA T3 L0 L1 L2
          go_wp2_with (at_builtin; refine wpList_seen _ (by rfl) _ _ (by rfl) w.heap.size _ M 0 (by rfl) HL.out.seen ((M.at 0).ph : Int) (-1) ((0 : Nat) : Int) w5.heap.size (by rfl) (by rfl) ⟨rfl, ht.symm, by rw [hl0]⟩ hj9 zw ?_; intro v6 w6 h1 h2 h3; have H6 := hide (HL.out.grown h1 h2 h3); clear h1 h2 h3)
          refine H6.out.tick.mono ?_
          rintro e w7 ⟨rfl, h7⟩
          have H7 := hide h7
          clear h7 H6 HL
          go_wp2_with fail
          exact ⟨⟨0 + 1, by omega, by go_num, H7.out⟩, by simp [intOf] <;> omega⟩
        · have ht2 : ((M.at 0).thr == -1) = false := by simp [ht]
          have hne : Nonempty (Later wA) := ⟨⟨wA, Below.refl _ _⟩⟩
          refine wp_region_later (by kernel_rfl) (by kernel_rfl) ?_
          repeat (go_big_quiet_step (fail))
          refine wpQuiet_nil ?_
          rintro _ ⟨wl, rfl⟩
          clear hne
          have HL := hide (HA.out.later wl.2)
          have zl := wl.2.size
          have zw := HL.out.size
          have hj9 : 0 ≤ 1000 := by omega
          have c0 := L0 wl
          have c1 := L1 wl
          have c2 := L2 wl
          have l5 : w4.heap.size < wl.1.heap.size := by omega
          generalize wl.1 = w5 at *
          clear HA NA T3 L0 L1 L2
          go_wp2_with (at_builtin; refine wpList_seen _ (by rfl) _ _ (by rfl) w.heap.size _ M 0 (by rfl) HL.out.seen ((M.at 0).ph : Int) (M.at 0).thr ((M.at 0).lab : Int) w5.heap.size (by rfl) (by rfl) ⟨rfl, rfl, rfl⟩ hj9 zw ?_; intro v6 w6 h1 h2 h3; have H6 := hide (HL.out.grown h1 h2 h3); clear h1 h2 h3)
          refine H6.out.tick.mono ?_
          rintro e w7 ⟨rfl, h7⟩
          have H7 := hide h7
          clear h7 H6 HL
          go_wp2_with fail
          exact ⟨⟨0 + 1, by omega, by go_num, H7.out⟩, by simp [intOf] <;> omega⟩
      | succ m =>
        obtain ⟨g, rfl, hg, d0, -, -⟩ := HA.out.seen.cells (i := m) (by omega)
        have L3 := later_cell d0 hg
        have hp8 := M.at_lt m
        rw [MS.at_ph] at L0
        by_cases ht : (M.at (m + 1)).thr = -1
        · have hl0 := T3.out ht
          rw [ht] at L1
          rw [hl0] at L2
          have hne : Nonempty (Later wA) := ⟨⟨wA, Below.refl _ _⟩⟩
          refine wp_region_later (by kernel_rfl) (by kernel_rfl) ?_
          repeat (go_big_quiet_step (fail))
          refine wpQuiet_nil ?_
          rintro _ ⟨wl, rfl⟩
          clear hne
          have HL := hide (HA.out.later wl.2)
          have zl := wl.2.size
          have zw := HL.out.size
          have hj9 : (m + 1) ≤ 1000 := by omega
          have c0 := L0 wl
          have c1 := L1 wl
          have c2 := L2 wl
          have l5 : w4.heap.size < wl.1.heap.size := by omega
          generalize wl.1 = w5 at *
          clear HA NA T3 L0 L1 L2
          go_wp2_with (at_builtin; refine wpList_seen _ (by rfl) _ _ (by rfl) w.heap.size _ M (m + 1) (by rfl) HL.out.seen ((((M.at m).ph : Int) + 1).tmod 8) (-1) ((0 : Nat) : Int) w5.heap.size (by rfl) (by rfl) ⟨(M.at_ph m).symm, ht.symm, by rw [hl0]⟩ hj9 zw ?_; intro v6 w6 h1 h2 h3; have H6 := hide (HL.out.grown h1 h2 h3); clear h1 h2 h3)
          refine H6.out.tick.mono ?_
          rintro e w7 ⟨rfl, h7⟩
          have H7 := hide h7
          clear h7 H6 HL
          go_wp2_with fail
          exact ⟨⟨(m + 1) + 1, by omega, by go_num, H7.out⟩, by simp [intOf] <;> omega⟩
        · have ht2 : ((M.at (m + 1)).thr == -1) = false := by simp [ht]
          have hne : Nonempty (Later wA) := ⟨⟨wA, Below.refl _ _⟩⟩
          refine wp_region_later (by kernel_rfl) (by kernel_rfl) ?_
          repeat (go_big_quiet_step (fail))
          refine wpQuiet_nil ?_
          rintro _ ⟨wl, rfl⟩
          clear hne
          have HL := hide (HA.out.later wl.2)
          have zl := wl.2.size
          have zw := HL.out.size
          have hj9 : (m + 1) ≤ 1000 := by omega
          have c0 := L0 wl
          have c1 := L1 wl
          have c2 := L2 wl
          have l5 : w4.heap.size < wl.1.heap.size := by omega
          generalize wl.1 = w5 at *
          clear HA NA T3 L0 L1 L2
          go_wp2_with (at_builtin; refine wpList_seen _ (by rfl) _ _ (by rfl) w.heap.size _ M (m + 1) (by rfl) HL.out.seen ((((M.at m).ph : Int) + 1).tmod 8) (M.at (m + 1)).thr ((M.at (m + 1)).lab : Int) w5.heap.size (by rfl) (by rfl) ⟨(M.at_ph m).symm, rfl, rfl⟩ hj9 zw ?_; intro v6 w6 h1 h2 h3; have H6 := hide (HL.out.grown h1 h2 h3); clear h1 h2 h3)
          refine H6.out.tick.mono ?_
          rintro e w7 ⟨rfl, h7⟩
          have H7 := hide h7
          clear h7 H6 HL
          go_wp2_with fail
          exact ⟨⟨(m + 1) + 1, by omega, by go_num, H7.out⟩, by simp [intOf] <;> omega⟩
    · have : j = 8 := by omega
      subst this
      clear hts
      obtain ⟨pn, rfl⟩ : ∃ n : Nat, p = n := ⟨p.toNat, by omega⟩
      have hpn : pn < 3 := by omega
      go_wp2_with fail
      go_loopw [10] (fun i w' => ∃ k : Nat, k ≤ 8 * pn ∧ i = .int .i64 k ∧ TimeS w w' kb M (8 + k) (.slice o3a o3n o3c) (.slice sa 8 sc) 8) (fun i _ => 8 * pn - (intOf i).toNat)
      case atStart => exact ⟨0, by omega, rfl, HTS.out⟩
      case round =>
        obtain ⟨k, hk, rfl, hts⟩ := hrel
        clear HTS
        have HTS := hide hts
        obtain ⟨g, rfl, hg, d0, d1, d2⟩ := hts.seen.cells (i := k % 8) (by omega)
        have L0 := later_cell d0 hg
        have L1 := later_cell d1 hg
        have L2 := later_cell d2 hg
        have NN := hide (fun x : Later wr => Calls.later_of (x := x) (HTS.out.later x.2).now)
        rw [MS.at_mod] at NN
        have hz := hts.size
        have hr8 : k % 8 < 8 := by omega
        have hkr : (k : Int).tmod 8 = ((k % 8 : Nat) : Int) := by rw [Int.tmod_eq_emod_of_nonneg (by omega)]; omega
        clear hts d0 d1 d2
        generalize k % 8 = r at *
        go_wp2_with fail
        refine (HP.out wr).mono ?_
        rintro e w1' ⟨rfl, rfl⟩
        by_cases hkp : k < 8 * pn
        · have hki : (k : Int) < 8 * (pn : Int) := by omega
          go_wp2_with fail
          have hne : Nonempty (Later w1') := ⟨⟨w1', Below.refl _ _⟩⟩
          refine wp_region_later (by kernel_rfl) (by kernel_rfl) ?_
          repeat (go_big_quiet_step ((go_at_call 18; exact NN.out _)))
          refine wpQuiet_nil ?_
          rintro _ ⟨wl, rfl⟩
          clear hne
          have HL := hide (HTS.out.later wl.2)
          clear L0 L1 L2 NN HTS
          generalize wl.1 = w5 at *
          go_wp2_with fail
          refine HL.out.tick.mono ?_
          rintro e w7 ⟨rfl, h7⟩
          have H7 := hide h7
          clear h7 HL
          go_wp2_with fail
          refine ⟨?_, by simp [intOf] <;> omega⟩
          iterate 19 apply Exists.intro
          refine ⟨?_, rfl⟩
          exact ⟨k + 1, by omega, by go_num, H7.out⟩
        · have : k = 8 * pn := by omega
          subst this
          have EM : Hid (M.at (8 + 8 * pn) = M) := by
            unfold Hid
            rw [MS.at_mod, show 8 * pn % 8 = 0 by omega]
            exact MS.at_zero HI.out
          obtain ⟨F, q1, q2, q3, q4, q5, q6, q7⟩ := HTS.out
          rw [EM.out] at q1
          have K8 := hide q1
          have F8 := hide q2
          have O8 := hide q3
          have N8 : Hid (∀ k, (Value.slice o3a o3n o3c).ownBlock = some k → ¬ F k) := fun k hk => (q5 k hk).1
          have B8 := hide q7
          clear q1 q2 q3 q4 q5 q6 q7 HTS EM L0 L1 L2 NN HI hkr hg HP
          have hki : ¬ ((8 * pn : Nat) : Int) < 8 * (pn : Int) := by omega
          go_wp2_with fail
          refine (kn_view K8.out 255).mono ?_
          rintro e w9 ⟨v9, rfl, o9, k9, f9⟩
          have O9 := hide o9
          have OC := hide (O8.out.same (fun k hk => f9.block k (O8.out.row hk).2 (N8.out k hk)))
          have B9 := hide (B8.out.trans (f9.below_lo F8.out hz))
          clear o9 k9 f9 K8 O8 B8
          go_wp2_with fail
          refine (same_any w9 _ _ v9 _ _ _ O9.out OC.out (Nat.le_trans VS.out (by omega))).mono ?_
          rintro e w10 ⟨rfl, b10⟩
          have B10 := hide (B9.out.trans (b10.mono B9.out.size))
          rw [decide_eq_true rfl]
          clear b10 B9 O9 OC
          go_wp2_with fail
          go_ret
          exact ⟨rfl, B10.out⟩

end Go.Proofs.Ytloppmepfkkblaa
end
