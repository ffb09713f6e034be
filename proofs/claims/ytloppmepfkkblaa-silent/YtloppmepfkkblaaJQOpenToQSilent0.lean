/- What comes in to the keep's statements: numbers, opened. -/
import Derived.Test.YtloppmepfkkblaaRows
import Derived.ProofKit
import Derived.OpenShut
import Derived.SizedLaws
import Derived.ChangeOld
import Derived.Deep.Slices
import Derived.Deep.Strs
import Derived.StillTailTactics
import Derived.Test.YtloppmepfkkblaaJQBase
import Derived.Test.YtloppmepfkkblaaJKView
import Derived.Test.YtloppmepfkkblaaJRangeMToHeldTail
import Derived.Test.YtloppmepfkkblaaJQuiet4ToQuiet5

section
open Go Go.Proofs Go.RowKit Go.ChangeShapes Go.WideShapes Go.ChangeAt
namespace Go.Proofs.Ytloppmepfkkblaa

theorem own_knob : ownKnob Try.prog.godebug = none := by kernel_rfl
theorem laid_out : laidOutB Try.prog = true := by kernel_rfl

theorem cell_lt {w : World} {b n : Nat} {v : Value} (h : w.cell? ⟨b, n, none⟩ = some v) : b < w.heap.size := by
  rcases Nat.lt_or_ge b w.heap.size with h1 | h1
  · exact h1
  · exfalso
    simp [World.cell?, Array.getElem?_eq_none h1] at h

theorem weightsAll_mem {H : Type} {P : Program} {e : TypeId} : ∀ {l : List (DataW H)} {d : DataW H}, d ∈ l → ∀ n ∈ d.weights P e, n ∈ DataW.weightsAll P e l
  | d0 :: l, d, hd, n, hn => by
    simp only [DataW.weightsAll, List.mem_append]
    rcases List.mem_cons.1 hd with rfl | h
    · exact Or.inl hn
    · exact Or.inr (weightsAll_mem h n hn)
  | [], _, hd, _, _ => by simp at hd

theorem bytes_int : Try.prog.bytesOf 3 = 8 := by kernel_rfl
theorem cells_int : Try.prog.cellsOf 3 = 1 := by kernel_rfl
theorem cells_ints : Try.prog.cellsOf 29 = 1 := by kernel_rfl
section
variable {H : Type} {enc : TypeId × Value → H} {W : World}

/-- A step's arguments. -/
theorem args_open {fuel : Nat} {v : Value} {x : DataW H × List MemPlace} (h : DataW.trod enc Try.prog W 0 (fun _ => true) true fuel 29 [v] = some x) (hw : ∀ n ∈ x.1.weights Try.prog 29, n ≤ reachBytes) :
    ArgsV W (fun k => W.heap.size ≤ k) v := by
  rcases open_ints Try.underlying29 Try.underlying3 cells_int h with ⟨hcs, _⟩ | ⟨a, len, cap, zs, hcs, _, hl, hm, hz, hx, hcell, hwz⟩
  · simp at hcs
    exact Or.inl hcs
  · simp at hcs hz
    subst hcs
    refine Or.inr ⟨a, zs.take len, cap, by simp; omega, ?_, ?_, fun y hy => bounds_i64 (hwz y (List.mem_of_mem_take hy))⟩
    · have := hw (((lits .i64 (zs.take len) : List (DataW H)).length + (lits .i64 (zs.drop len) : List (DataW H)).length) * Try.prog.bytesOf 3) (by rw [hx]; simp [DataW.weights, Try.underlying29])
      rw [bytes_int] at this
      simp [lits, reachBytes] at this
      simp
      omega
    · by_cases h0 : len = 0
      · subst h0; exact Or.inl rfl
      · obtain ⟨b, off, rfl, hc⟩ := ints_at hcell (by omega)
        refine Or.inr ⟨b, off, rfl, ⟨cell_lt (hc 0 (by omega)), fun i y hy => ?_⟩, fun h => ?_⟩
        · have hi : i < len := by
            have := (List.getElem?_eq_some_iff.1 hy).1
            simp at this; omega
          rw [hc i (by omega)]
          rw [List.getElem?_take_of_lt hi] at hy
          rw [List.getD_eq_getElem?_getD, hy]; rfl
        · have := cell_lt (hc 0 (by omega))
          omega

end

end Go.Proofs.Ytloppmepfkkblaa
end

section
/- The keep's 'played', 'same'; a kernel's view. -/
open Go Go.Proofs Go.RowKit
namespace Go.Proofs.Ytloppmepfkkblaa

/-- A call: a tick or a trap. -/
def MS.call (M : MS) (c : Int × List Int) : MS := if c.1 = -1 then M.tick else (M.trap c.1 c.2).2
def MS.plays (M : MS) (cs : List (Int × List Int)) : MS := cs.foldl MS.call M
theorem MS.plays_take {M : MS} {cs : List (Int × List Int)} {k : Nat} {c : Int × List Int} (h : cs[k]? = some c) : M.plays (cs.take (k + 1)) = (M.plays (cs.take k)).call c := by
  unfold MS.plays
  rw [List.take_add_one, h, List.foldl_append]
  rfl

/-- A trap's arguments, as they lie. -/
def ArgV (w : World) (v : Value) (xs : List Int) : Prop := (v = .slice none 0 0 ∧ xs = []) ∨ ∃ la cap, v = .slice (some la) xs.length cap ∧ (xs = [] ∨ ∃ lb lo, la = ⟨lb, lo, none⟩ ∧ Arg w lb lo xs) ∧ Fits xs
theorem ArgV.later {w w' : World} {v : Value} {xs : List Int} (h : ArgV w v xs) (hb : Below w.heap.size w w') : ArgV w' v xs := by
  rcases h with h | ⟨la, cap, h1, h2, h3⟩
  · exact Or.inl h
  · refine Or.inr ⟨la, cap, h1, h2.imp id (fun ⟨lb, lo, e, ha⟩ => ⟨lb, lo, e, ha.below hb ha.lt⟩), h3⟩
theorem ArgV.form {w : World} {v : Value} {xs : List Int} (h : ArgV w v xs) : ∃ a n c, v = .slice a n c := by
  rcases h with ⟨h, _⟩ | ⟨la, cap, h, _⟩
  · exact ⟨_, _, _, h⟩
  · exact ⟨_, _, _, h⟩

/-- Calls, as they lie. -/
def CallsAt (w : World) (sa : Option Addr) (cs : List (Int × List Int)) : Prop :=
  cs = [] ∨ ∃ sb so, sa = some ⟨sb, so, none⟩ ∧ sb < w.heap.size ∧ ∀ i c, cs[i]? = some c → ∃ v, w.cell? ⟨sb, so + i * 2, none⟩ = some (.int .i64 c.1) ∧ w.cell? ⟨sb, so + i * 2 + 1, none⟩ = some v ∧ ArgV w v c.2

section
variable {w w' : World} {kb : Nat} {F : Nat → Prop} {M : MS}

theorem kn_trapV (h : Kn w kb F M) (n : Int) {v : Value} {xs : List Int} (ha : ArgV w v xs) :
    Calls Try.prog 19 #[.pointer (some ⟨kb, 0, none⟩), .int .i64 n, v] w fun e w' => e = .returned (M.out n xs) ∧ KnGoes w kb F (M.trap n xs).2 w' := by
  rcases ha with ⟨rfl, rfl⟩ | ⟨la, cap, rfl, h2, h3⟩
  · exact kn_trap h n [] none 0 (fun x hx => by cases hx) (Or.inl rfl)
  · exact kn_trap h n xs (some la) cap h3 (h2.imp id (fun ⟨lb, lo, e, ha⟩ => ⟨lb, lo, by rw [e], ha⟩))

theorem kn_view (h : Kn w kb F M) (lab : Int) :
    Calls Try.prog 12 #[.pointer (some ⟨kb, 0, none⟩), .int .i64 lab] w fun e w' => ∃ v, e = .returned v ∧ Outs w' w.heap.size v (viewM M lab) ∧ Kn w' kb F M ∧ Fr F w w' := by
  obtain ⟨ob, cb, qp, h1, h2, h3⟩ := h
  refine (p_view h1 h2 lab).mono ?_
  rintro e w' ⟨v, rfl, g1, g2, g3⟩
  exact ⟨v, rfl, g1, ⟨ob, cb, qp, g2, h2, h3⟩, g3.mono (fun k _ hk => (h3 k).1 hk)⟩

/-- Its blocks are new since B; all ahead of B is as it was in w0. -/
theorem KnGoes.since {w0 : World} {M' : MS} {B : Nat} (hF : ∀ k, F k → B ≤ k) (hB : B ≤ w.heap.size) (hb : Below B w0 w) (h : KnGoes w kb F M' w') : ∃ F', Kn w' kb F' M' ∧ (∀ k, F' k → B ≤ k) ∧ Below B w0 w' := by
  obtain ⟨F', g1, g2, g3⟩ := h
  exact ⟨F', g1, fun k hk => (g2 k hk).elim (hF k) (fun h => by omega), hb.trans (Fr.below_lo g3 hF hB)⟩
end

set_option maxRecDepth 100000 in
set_option maxHeartbeats 4000000 in
theorem played_any (w : World) (sa : Option Addr) (n cap : Nat) (cs : List (Int × List Int)) (hn : cs.length = n) (hn4 : n ≤ 17592186043904) (hs : CallsAt w sa cs) :
    Calls Try.prog 17 #[.slice sa n cap] w fun e w' => ∃ kb F, e = .returned (.pointer (some ⟨kb, 0, none⟩)) ∧ Kn w' kb F (MS.boot.plays cs) ∧ (∀ k, F k → w.heap.size ≤ k) ∧ Below w.heap.size w w' := by
  have HS := hide hs
  have HB := hide (booted_any w)
  clear hs
  go_enter Try.func17, Try.ntmps17
  go_wp2_with fail
  refine HB.out.mono ?_
  clear HB
  rintro e w1 ⟨kb, F1, rfl, k1, f1, b1⟩
  have K1 := hide k1
  have HF1 := hide f1
  have B1 := hide b1
  clear k1 f1 b1
  go_wp2_with fail
  go_loopw [4] (fun i w' => ∃ (k : Nat) (F : Nat → Prop), k ≤ n ∧ i = .int .i64 k ∧ Kn w' kb F (MS.boot.plays (cs.take k)) ∧ (∀ k, F k → w.heap.size ≤ k) ∧ Below w.heap.size w w') (fun i _ => n - (intOf i).toNat)
  case atStart => exact ⟨0, F1, by omega, rfl, K1.out, HF1.out, B1.out⟩
  case round =>
    obtain ⟨k, F2, hk, rfl, k2, f2, b2⟩ := hrel
    clear K1 HF1 B1
    have K2 := hide k2
    have HF2 := hide f2
    have B2 := hide b2
    have hsz := b2.size
    by_cases hkn : k < n
    · have hki : (k : Int) < (n : Int) := by omega
      obtain ⟨c, hc⟩ : ∃ c, cs[k]? = some c := ⟨_, List.getElem?_eq_getElem (by omega)⟩
      obtain ⟨sb, so, hsa, hsb, hcs⟩ := HS.out.resolve_left (fun e => by rw [e] at hc; simp at hc)
      subst hsa
      obtain ⟨v, c0, c1, ha⟩ := hcs k c hc
      have d0 := (cell_same (b2.block sb hsb) _).trans c0
      have d1 := (cell_same (b2.block sb hsb) _).trans c1
      have hsb' : sb < wr.heap.size := by omega
      have EP := hide (MS.plays_take (M := MS.boot) hc)
      have HA := hide (ha.later b2)
      obtain ⟨va, vn, vc, hv⟩ := ha.form
      subst hv
      clear k2 f2 b2 c0 c1 ha hcs hc
      by_cases ht : c.1 = -1
      · have ec : Hid ((MS.boot.plays (cs.take k)).call c = (MS.boot.plays (cs.take k)).tick) := if_pos ht
        rw [ht] at d0
        clear ht
        go_wp2_with fail
        refine (kn_tick K2.out).mono ?_
        rintro e w4 ⟨rfl, h4⟩
        have H4 := hide (h4.since HF2.out hsz B2.out)
        clear h4
        go_wp2_with fail
        obtain ⟨F4, g1, g2, g3⟩ := H4.out
        exact ⟨⟨k + 1, F4, by omega, by go_num, by rw [EP.out, ec.out]; exact g1, g2, g3⟩, by simp [intOf]; omega⟩
      · have ec : Hid ((MS.boot.plays (cs.take k)).call c = ((MS.boot.plays (cs.take k)).trap c.1 c.2).2) := if_neg ht
        go_wp2_with fail
        go_still_tail 11, (by kernel_rfl)
        go_wp2_with fail
        have hd : Below wr.heap.size wr wr.drew := (Below.refl _ _).drew
        refine (kn_trapV (K2.out.below hd) c.1 (HA.out.later hd)).mono ?_
        rintro e w4 ⟨rfl, h4⟩
        have H4 := hide (h4.since HF2.out (by have := hd.size; omega) (B2.out.trans (hd.mono hsz)))
        clear h4 hd
        generalize (MS.boot.plays (cs.take k)).out c.1 c.2 = ov
        go_wp2_with fail
        obtain ⟨F4, g1, g2, g3⟩ := H4.out
        exact ⟨⟨k + 1, F4, by omega, by go_num, by rw [EP.out, ec.out]; exact g1, g2, g3⟩, by simp [intOf]; omega⟩
    · have : k = n := by omega
      subst this
      clear k2 f2 b2
      have ef : cs.take k = cs := List.take_of_length_le (by omega)
      rw [ef] at K2
      go_wp2_with fail
      go_ret
      exact ⟨kb, F2, rfl, K2.out, HF2.out, B2.out⟩

/-- Is one row the other? -/
theorem take_ne {xs ys : List Int} {j : Nat} {x y : Int} (hx : xs[j]? = some x) (hy : ys[j]? = some y) (h : x ≠ y) : xs ≠ ys := fun e => h (by rw [e, hy] at hx; injection hx with hx; exact hx.symm)

set_option maxRecDepth 100000 in
set_option maxHeartbeats 4000000 in
theorem same_any (w : World) (Bx By : Nat) (vx vy : Value) (xs ys : List Int) (hx : Outs w Bx vx xs) (hy : Outs w By vy ys) (hl : xs.length ≤ 1000000) :
    Calls Try.prog 11 #[vx, vy] w fun e w' => e = .returned (.bool (decide (xs = ys))) ∧ Below w.heap.size w w' := by
  obtain ⟨xa, xc, rfl⟩ := hx.form'
  obtain ⟨ya, yc, rfl⟩ := hy.form'
  have AX := hide hx.arg
  have AY := hide hy.arg
  clear hx hy
  by_cases hlen : xs.length = ys.length
  · rw [← hlen]
    have HLEN := hide hlen
    clear hlen
    go_enter Try.func11, Try.ntmps11
    go_wp2_with fail
    go_loopw [5] (fun i w' => ∃ k : Nat, k ≤ xs.length ∧ i = .int .i64 k ∧ xs.take k = ys.take k ∧ Below w.heap.size w w') (fun i _ => xs.length - (intOf i).toNat)
    case atStart => exact ⟨0, by omega, rfl, rfl, Below.refl _ _⟩
    case round =>
      obtain ⟨k, hk, rfl, heq, hb⟩ := hrel
      have HB := hide hb
      have HEQ := hide heq
      clear heq
      by_cases hkn : k < xs.length
      · have hki : (k : Int) < (xs.length : Int) := by omega
        obtain ⟨x, hx⟩ : ∃ x, xs[k]? = some x := ⟨_, List.getElem?_eq_getElem hkn⟩
        obtain ⟨y, hy⟩ : ∃ y, ys[k]? = some y := ⟨_, List.getElem?_eq_getElem (by have := HLEN.out; omega)⟩
        obtain ⟨gx, cx, ex, _, ax⟩ := AX.out.resolve_left (fun e => by rw [e] at hx; simp at hx)
        obtain ⟨gy, cy, ey, _, ay⟩ := AY.out.resolve_left (fun e => by rw [e] at hy; simp at hy)
        injection ex with ex _ ecx
        injection ey with ey _ ecy
        subst ex ey ecx ecy
        have d0 := (cell_same (hb.block gx ax.lt) _).trans (ax.cell k x hx)
        have d1 := (cell_same (hb.block gy ay.lt) _).trans (ay.cell k y hy)
        rw [Nat.zero_add] at d0 d1
        have l0 := ax.lt
        have l1 := ay.lt
        have hz := hb.size
        have l2 : gx < wr.heap.size := by omega
        have l3 : gy < wr.heap.size := by omega
        have HX := hide hx
        have HY := hide hy
        clear ax ay hb hx hy
        by_cases hxy : x = y
        · subst hxy
          have EQ1 : Hid (xs.take (k + 1) = ys.take (k + 1)) := by
            unfold Hid
            rw [List.take_add_one, List.take_add_one, HX.out, HY.out, HEQ.out]
          go_wp2_with fail
          go_still (by kernel_rfl)
          go_wp2_with fail
          exact ⟨⟨k + 1, by omega, by go_num, EQ1.out, HB.out.drew⟩, by simp [intOf]; omega⟩
        · have NE := hide (take_ne HX.out HY.out hxy)
          go_wp2_with fail
          go_still (by kernel_rfl)
          go_wp2_with fail
          go_ret
          exact ⟨by rw [decide_eq_false NE.out]; rfl, HB.out.drew⟩
      · have : k = xs.length := by omega
        subst this
        have E := HEQ.out
        rw [List.take_length, HLEN.out, List.take_length] at E
        have HE := hide E
        clear E hb
        go_wp2_with fail
        go_ret
        exact ⟨by rw [decide_eq_true HE.out]; rfl, HB.out⟩
  · have hne : xs ≠ ys := fun e => hlen (by rw [e])
    have HNE := hide hne
    have hli : ¬ ((xs.length : Int) = (ys.length : Int)) := by omega
    clear hne
    go_enter Try.func11, Try.ntmps11
    go_wp2_with fail
    go_ret
    exact ⟨by rw [decide_eq_false HNE.out]; rfl, Below.refl _ _⟩

end Go.Proofs.Ytloppmepfkkblaa
end

section
/- What comes in to the keep's statements: calls, opened at every index. -/
open Go Go.Proofs Go.RowKit Go.ChangeShapes Go.WideShapes Go.ChangeAt
namespace Go.Proofs.Ytloppmepfkkblaa

theorem bytes_call : Try.prog.bytesOf 39 = 32 := by kernel_rfl
theorem cells_call : Try.prog.cellsOf 39 = 2 := by kernel_rfl

theorem ArgsV.argV {w : World} {F : Nat → Prop} {v : Value} (h : ArgsV w F v) : ∃ xs, ArgV w v xs := by
  rcases h with rfl | ⟨la, xs, cap, rfl, h⟩
  · exact ⟨[], Or.inl ⟨rfl, rfl⟩⟩
  · exact ⟨xs, Or.inr ⟨la, cap, rfl, h.at'.imp id (fun ⟨lb, lo, e, ha, _⟩ => ⟨lb, lo, e, ha⟩), h.wf⟩⟩

theorem calls_of {W : World} {b off n : Nat} (hb : b < W.heap.size) (h : ∀ i, i < n → ∃ (c : Int × List Int) (v : Value), W.cell? ⟨b, off + i * 2, none⟩ = some (.int .i64 c.1) ∧ W.cell? ⟨b, off + i * 2 + 1, none⟩ = some v ∧ ArgV W v c.2) : ∃ cs : List (Int × List Int), cs.length = n ∧ CallsAt W (some ⟨b, off, none⟩) cs := by
  have hc : ∀ i, ∃ c : Int × List Int, i < n → ∃ v, W.cell? ⟨b, off + i * 2, none⟩ = some (.int .i64 c.1) ∧ W.cell? ⟨b, off + i * 2 + 1, none⟩ = some v ∧ ArgV W v c.2 := fun i => by
    by_cases hi : i < n
    · obtain ⟨c, v, h1⟩ := h i hi
      exact ⟨c, fun _ => ⟨v, h1⟩⟩
    · exact ⟨(0, []), fun h => absurd h hi⟩
  refine ⟨(List.range n).map (fun i => Classical.choose (hc i)), by simp, Or.inr ⟨b, off, rfl, hb, fun i c hi => ?_⟩⟩
  rw [List.getElem?_map] at hi
  have hin : i < n := by
    rcases Nat.lt_or_ge i n with h1 | h1
    · exact h1
    · rw [List.getElem?_eq_none (by simpa using h1)] at hi; cases hi
  rw [List.getElem?_range hin] at hi
  injection hi with hi
  subst hi
  exact Classical.choose_spec (hc i) hin

theorem trod_two {H : Type} {enc : TypeId × Value → H} {P : Program} {w : World} {base : Nat} {spare : Nat → Bool} {held : Bool} {t : TypeId} {f0 f1 : Field} {fuel : Nat} {cs : List Value} {x : DataW H × List MemPlace} (ht : P.underlying t = some (.struct #[f0, f1])) (h : DataW.trod enc P w base spare held fuel t cs = some x) :
    ∃ y0 y1 n, x = (.agg [y0.1, y1.1], y0.2 ++ y1.2) ∧ cs.length = P.cellsOf t ∧ DataW.trod enc P w base spare held n f0.type ((cs.drop f0.offset).take (P.cellsOf f0.type)) = some y0 ∧
      DataW.trod enc P w base spare held n f1.type ((cs.drop f1.offset).take (P.cellsOf f1.type)) = some y1 := by
  obtain ⟨xs, n, _, rfl, hl, hlen, hf⟩ := DataW.trod_struct ht h
  match xs, hlen with
  | [y0, y1], _ => exact ⟨y0, y1, n, by simp, hl, by simpa using hf 0 f0 rfl, by simpa using hf 1 f1 rfl⟩

section
variable {H : Type} {enc : TypeId × Value → H} {W : World}

set_option maxRecDepth 100000 in
theorem calls_open {fuel : Nat} {sa : Option Addr} {n cap : Nat} {x : DataW H × List MemPlace} (h : DataW.trod enc Try.prog W 0 (fun _ => true) true fuel 22 [.slice sa n cap] = some x) (hw : ∀ k ∈ x.1.weights Try.prog 22, k ≤ reachBytes) :
    ∃ cs : List (Int × List Int), cs.length = n ∧ n ≤ 17592186043904 ∧ CallsAt W sa cs := by
  rcases Deep.open_slice Try.underlying22 h with ⟨hcs, _⟩ | ⟨a, len, cap', m, k, D, Pl, hcs, _, hl, hm, hmm, hx, hel⟩
  · simp at hcs
    obtain ⟨rfl, rfl, rfl⟩ := hcs
    exact ⟨[], rfl, by omega, Or.inl rfl⟩
  · simp at hcs hmm
    obtain ⟨rfl, rfl, rfl⟩ := hcs
    subst hmm
    have hb := hw ((((List.range n).map D).length + ((List.range (m - n)).map fun j => D (n + j)).length) * Try.prog.bytesOf 39) (by rw [hx]; simp [DataW.weights, Try.underlying22])
    rw [bytes_call] at hb
    simp [reachBytes] at hb
    by_cases h0 : n = 0
    · subst h0
      exact ⟨[], rfl, by omega, Or.inl rfl⟩
    · have each : ∀ i, i < n → ∃ v0 v1 y0 y1 q, W.cell? (a.add (i * 2)) = some v0 ∧ W.cell? (a.add (i * 2 + 1)) = some v1 ∧
          DataW.trod enc Try.prog W 0 (fun _ => true) true q 3 [v0] = some y0 ∧ DataW.trod enc Try.prog W 0 (fun _ => true) true q 29 [v1] = some y1 ∧ D i = .agg [y0.1, y1.1] := by
        intro i hi
        obtain ⟨cs', g1, g2⟩ := hel i (by omega)
        rw [cells_call] at g1
        obtain ⟨_, hlen, hcell⟩ := World.cells?_some g1
        obtain ⟨y0, y1, q, hy, _, t0, t1⟩ := trod_two Try.underlying39 g2
        simp only [Prod.mk.injEq] at hy
        match cs', hlen with
        | [v0, v1], _ =>
          have e0 := hcell 0 (by omega)
          have e1 := hcell 1 (by omega)
          rw [Deep.add_add] at e0 e1
          simp [cells_int, cells_ints] at t0 t1
          exact ⟨v0, v1, y0, y1, q, by simpa using e0, by simpa using e1, t0, t1, hy.1⟩
      obtain ⟨b, off, spot⟩ := a
      have hspot : spot = none := by
        obtain ⟨v0, _, _, _, _, c0, _⟩ := each 0 (by omega)
        simpa [Addr.add] using World.cell?_spot c0
      subst hspot
      have hadd : ∀ j, (⟨b, off, none⟩ : Addr).add j = ⟨b, off + j, none⟩ := fun j => by rw [add_plain]
      have hbl : b < W.heap.size := by
        obtain ⟨v0, _, _, _, _, c0, _⟩ := each 0 (by omega)
        rw [hadd] at c0
        exact cell_lt c0
      obtain ⟨cs, h1, h2⟩ := calls_of (W := W) (b := b) (off := off) (n := n) hbl (fun i hi => by
        obtain ⟨v0, v1, y0, y1, q, c0, c1, t0, t1, hD⟩ := each i hi
        rw [hadd] at c0 c1
        obtain ⟨K, hK, _, wK⟩ := DataW.trod_int Try.underlying3 t0
        simp at hK
        subst hK
        obtain ⟨xs, hxs⟩ := (args_open t1 (fun k hk => hw k (by
          rw [hx]
          simp only [DataW.weights, Try.underlying22, List.mem_cons, List.mem_append]
          refine Or.inr (Or.inl (weightsAll_mem (d := D i) (List.mem_map.2 ⟨i, List.mem_range.2 hi, rfl⟩) k ?_))
          rw [hD]
          simp only [DataW.weights, Try.underlying39]
          exact DataW.weights_mem_each (ts := [3, 29]) (j := 1) rfl rfl k hk))).argV
        exact ⟨(K, xs), v1, c0, c1, hxs⟩)
      exact ⟨cs, h1, by omega, h2⟩
end

end Go.Proofs.Ytloppmepfkkblaa
end

section
/- 'Apart' gives true. -/
open Go Go.Proofs Go.RowKit
namespace Go.Proofs.Ytloppmepfkkblaa

/-- Four kernels apart from one another, in memory that is new since w0. -/
structure Ks (w0 w : World) (k0 k1 k2 k3 : Nat) (M0 M1 M2 M3 : MS) : Prop where
  all : ∃ F0 F1 F2 F3 : Nat → Prop, Kn w k0 F0 M0 ∧ Kn w k1 F1 M1 ∧ Kn w k2 F2 M2 ∧ Kn w k3 F3 M3 ∧ (∀ k, F0 k → ¬ F1 k ∧ ¬ F2 k ∧ ¬ F3 k) ∧ (∀ k, F1 k → ¬ F2 k ∧ ¬ F3 k) ∧ (∀ k, F2 k → ¬ F3 k) ∧ ∀ k, F0 k ∨ F1 k ∨ F2 k ∨ F3 k → w0.heap.size ≤ k
  old : Below w0.heap.size w0 w

section
variable {w0 w w' : World} {k0 k1 k2 k3 : Nat} {M0 M1 M2 M3 : MS}

theorem Ks.later (h : Ks w0 w k0 k1 k2 k3 M0 M1 M2 M3) (hb : Below w.heap.size w w') : Ks w0 w' k0 k1 k2 k3 M0 M1 M2 M3 := by
  obtain ⟨F0, F1, F2, F3, h0, h1, h2, h3, d⟩ := h.all
  exact ⟨⟨F0, F1, F2, F3, h0.below hb, h1.below hb, h2.below hb, h3.below hb, d⟩, h.old.trans (hb.mono h.old.size)⟩

theorem Ks.zero (h : Ks w0 w k0 k1 k2 k3 M0 M1 M2 M3) : ∃ F, Kn w k0 F M0 ∧ ∀ w' M', KnGoes w k0 F M' w' → Ks w0 w' k0 k1 k2 k3 M' M1 M2 M3 := by
  obtain ⟨F0, F1, F2, F3, h0, h1, h2, h3, d0, d1, d2, hF⟩ := h.all
  refine ⟨F0, h0, ?_⟩
  rintro w' M' ⟨F', g1, g2, g3⟩
  have hz := h.old.size
  refine ⟨⟨F', F1, F2, F3, g1, h1.fr g3 (fun k a b => (d0 k b).1 a), h2.fr g3 (fun k a b => (d0 k b).2.1 a), h3.fr g3 (fun k a b => (d0 k b).2.2 a), fun k hk => ?_, d1, d2, fun k hk => ?_⟩, h.old.trans (g3.below_lo (fun k hk => hF k (Or.inl hk)) hz)⟩
  · rcases g2 k hk with h | h
    · exact d0 k h
    · exact ⟨fun x => by have := h1.lt x; omega, fun x => by have := h2.lt x; omega, fun x => by have := h3.lt x; omega⟩
  · rcases hk with hk | hk
    · rcases g2 k hk with h | h
      · exact hF k (Or.inl h)
      · omega
    · exact hF k (Or.inr hk)

theorem Ks.swap (h : Ks w0 w k0 k1 k2 k3 M0 M1 M2 M3) : Ks w0 w k1 k0 k2 k3 M1 M0 M2 M3 := by
  obtain ⟨F0, F1, F2, F3, h0, h1, h2, h3, d0, d1, d2, hF⟩ := h.all
  exact ⟨⟨F1, F0, F2, F3, h1, h0, h2, h3, fun k hk => ⟨fun x => (d0 k x).1 hk, (d1 k hk).1, (d1 k hk).2⟩, fun k hk => ⟨(d0 k hk).2.1, (d0 k hk).2.2⟩, d2, fun k hk => hF k (by rcases hk with h | h | h | h <;> simp [h])⟩, h.old⟩
theorem Ks.swap2 (h : Ks w0 w k0 k1 k2 k3 M0 M1 M2 M3) : Ks w0 w k2 k1 k0 k3 M2 M1 M0 M3 := by
  obtain ⟨F0, F1, F2, F3, h0, h1, h2, h3, d0, d1, d2, hF⟩ := h.all
  exact ⟨⟨F2, F1, F0, F3, h2, h1, h0, h3, fun k hk => ⟨fun x => (d1 k x).1 hk, fun x => (d0 k x).2.1 hk, d2 k hk⟩, fun k hk => ⟨fun x => (d0 k x).1 hk, (d1 k hk).2⟩, fun k hk => (d0 k hk).2.2, fun k hk => hF k (by rcases hk with h | h | h | h <;> simp [h])⟩, h.old⟩
theorem Ks.swap3 (h : Ks w0 w k0 k1 k2 k3 M0 M1 M2 M3) : Ks w0 w k3 k1 k2 k0 M3 M1 M2 M0 := by
  obtain ⟨F0, F1, F2, F3, h0, h1, h2, h3, d0, d1, d2, hF⟩ := h.all
  exact ⟨⟨F3, F1, F2, F0, h3, h1, h2, h0, fun k hk => ⟨fun x => (d1 k x).2 hk, fun x => d2 k x hk, fun x => (d0 k x).2.2 hk⟩, fun k hk => ⟨(d1 k hk).1, fun x => (d0 k x).1 hk⟩, fun k hk x => (d0 k x).2.1 hk, fun k hk => hF k (by rcases hk with h | h | h | h <;> simp [h])⟩, h.old⟩

theorem Ks.step0 (h : Ks w0 w k0 k1 k2 k3 M0 M1 M2 M3) : ∃ F, Kn w k0 F M0 ∧ ∀ w' M', KnGoes w k0 F M' w' → Ks w0 w' k0 k1 k2 k3 M' M1 M2 M3 := h.zero
theorem Ks.step1 (h : Ks w0 w k0 k1 k2 k3 M0 M1 M2 M3) : ∃ F, Kn w k1 F M1 ∧ ∀ w' M', KnGoes w k1 F M' w' → Ks w0 w' k0 k1 k2 k3 M0 M' M2 M3 := by
  obtain ⟨F, h1, h2⟩ := h.swap.zero
  exact ⟨F, h1, fun w' M' g => (h2 w' M' g).swap⟩
theorem Ks.step2 (h : Ks w0 w k0 k1 k2 k3 M0 M1 M2 M3) : ∃ F, Kn w k2 F M2 ∧ ∀ w' M', KnGoes w k2 F M' w' → Ks w0 w' k0 k1 k2 k3 M0 M1 M' M3 := by
  obtain ⟨F, h1, h2⟩ := h.swap2.zero
  exact ⟨F, h1, fun w' M' g => (h2 w' M' g).swap2⟩
theorem Ks.step3 (h : Ks w0 w k0 k1 k2 k3 M0 M1 M2 M3) : ∃ F, Kn w k3 F M3 ∧ ∀ w' M', KnGoes w k3 F M' w' → Ks w0 w' k0 k1 k2 k3 M0 M1 M2 M' := by
  obtain ⟨F, h1, h2⟩ := h.swap3.zero
  exact ⟨F, h1, fun w' M' g => (h2 w' M' g).swap3⟩

theorem now_form (M : MS) : ∃ (nt : Int) (nl : Nat), M.now = nowV M.ph nt nl := by
  unfold MS.now
  cases M.cur with
  | none => exact ⟨-1, 0, rfl⟩
  | some s => exact ⟨s, _, rfl⟩

theorem plays_stop {M : MS} {cs : List (Int × List Int)} {k : Nat} (h : cs.length ≤ k) : M.plays (cs.take (k + 1)) = M.plays (cs.take k) := by
  rw [List.take_of_length_le h, List.take_of_length_le (by omega)]

theorem ks_start {w w1 w2 w3 w4 : World} {F0 F1 F2 F3 : Nat → Prop} (b1 : Below w.heap.size w w1) (b2 : Below w1.heap.size w1 w2) (b3 : Below w2.heap.size w2 w3) (b4 : Below w3.heap.size w3 w4)
    (h0 : Kn w1 k0 F0 M0) (h1 : Kn w2 k1 F1 M1) (h2 : Kn w3 k2 F2 M2) (h3 : Kn w4 k3 F3 M3) (f0 : ∀ k, F0 k → w.heap.size ≤ k) (f1 : ∀ k, F1 k → w1.heap.size ≤ k) (f2 : ∀ k, F2 k → w2.heap.size ≤ k) (f3 : ∀ k, F3 k → w3.heap.size ≤ k) : Ks w w4 k0 k1 k2 k3 M0 M1 M2 M3 := by
  have s1 := b1.size
  have s2 := b2.size
  have s3 := b3.size
  have s4 := b4.size
  have l0 := fun k (hk : F0 k) => h0.lt hk
  have l1 := fun k (hk : F1 k) => h1.lt hk
  have l2 := fun k (hk : F2 k) => h2.lt hk
  refine ⟨⟨F0, F1, F2, F3, ((h0.below b2).below b3).below b4, (h1.below b3).below b4, h2.below b4, h3, fun k hk => ⟨fun x => ?_, fun x => ?_, fun x => ?_⟩, fun k hk => ⟨fun x => ?_, fun x => ?_⟩, fun k hk x => ?_, fun k hk => ?_⟩, ((b1.trans (b2.mono s1)).trans (b3.mono (by omega))).trans (b4.mono (by omega))⟩
  · have := l0 k hk; have := f1 k x; omega
  · have := l0 k hk; have := f2 k x; omega
  · have := l0 k hk; have := f3 k x; omega
  · have := l1 k hk; have := f2 k x; omega
  · have := l1 k hk; have := f3 k x; omega
  · have := l2 k hk; have := f3 k x; omega
  · rcases hk with h | h | h | h
    · exact f0 k h
    · have := f1 k h; omega
    · have := f2 k h; omega
    · have := f3 k h; omega
end

/-- Four kernels, their blocks fixed. -/
structure V4 (w0 w : World) (k0 k1 k2 k3 : Nat) (F0 F1 F2 F3 : Nat → Prop) (M0 M1 M2 M3 : MS) : Prop where
  h0 : Kn w k0 F0 M0
  h1 : Kn w k1 F1 M1
  h2 : Kn w k2 F2 M2
  h3 : Kn w k3 F3 M3
  d0 : ∀ k, F0 k → ¬ F1 k ∧ ¬ F2 k ∧ ¬ F3 k
  d1 : ∀ k, F1 k → ¬ F2 k ∧ ¬ F3 k
  d2 : ∀ k, F2 k → ¬ F3 k
  lo : ∀ k, F0 k ∨ F1 k ∨ F2 k ∨ F3 k → w0.heap.size ≤ k
  old : Below w0.heap.size w0 w

section
variable {w0 w w' : World} {k0 k1 k2 k3 : Nat} {F0 F1 F2 F3 : Nat → Prop} {M0 M1 M2 M3 : MS}
theorem V4.later (h : V4 w0 w k0 k1 k2 k3 F0 F1 F2 F3 M0 M1 M2 M3) (hb : Below w.heap.size w w') : V4 w0 w' k0 k1 k2 k3 F0 F1 F2 F3 M0 M1 M2 M3 :=
  ⟨h.h0.below hb, h.h1.below hb, h.h2.below hb, h.h3.below hb, h.d0, h.d1, h.d2, h.lo, h.old.trans (hb.mono h.old.size)⟩
theorem V4.go0 (h : V4 w0 w k0 k1 k2 k3 F0 F1 F2 F3 M0 M1 M2 M3) (k : Kn w' k0 F0 M0) (f : Fr F0 w w') : V4 w0 w' k0 k1 k2 k3 F0 F1 F2 F3 M0 M1 M2 M3 :=
  ⟨k, h.h1.fr f (fun k a b => (h.d0 k b).1 a), h.h2.fr f (fun k a b => (h.d0 k b).2.1 a), h.h3.fr f (fun k a b => (h.d0 k b).2.2 a), h.d0, h.d1, h.d2, h.lo, h.old.trans (f.below_lo (fun k hk => h.lo k (Or.inl hk)) h.old.size)⟩
theorem V4.go1 (h : V4 w0 w k0 k1 k2 k3 F0 F1 F2 F3 M0 M1 M2 M3) (k : Kn w' k1 F1 M1) (f : Fr F1 w w') : V4 w0 w' k0 k1 k2 k3 F0 F1 F2 F3 M0 M1 M2 M3 :=
  ⟨h.h0.fr f (fun k a b => (h.d0 k a).1 b), k, h.h2.fr f (fun k a b => (h.d1 k b).1 a), h.h3.fr f (fun k a b => (h.d1 k b).2 a), h.d0, h.d1, h.d2, h.lo, h.old.trans (f.below_lo (fun k hk => h.lo k (Or.inr (Or.inl hk))) h.old.size)⟩
theorem V4.go2 (h : V4 w0 w k0 k1 k2 k3 F0 F1 F2 F3 M0 M1 M2 M3) (k : Kn w' k2 F2 M2) (f : Fr F2 w w') : V4 w0 w' k0 k1 k2 k3 F0 F1 F2 F3 M0 M1 M2 M3 :=
  ⟨h.h0.fr f (fun k a b => (h.d0 k a).2.1 b), h.h1.fr f (fun k a b => (h.d1 k a).1 b), k, h.h3.fr f (fun k a b => h.d2 k b a), h.d0, h.d1, h.d2, h.lo, h.old.trans (f.below_lo (fun k hk => h.lo k (Or.inr (Or.inr (Or.inl hk)))) h.old.size)⟩
theorem V4.go3 (h : V4 w0 w k0 k1 k2 k3 F0 F1 F2 F3 M0 M1 M2 M3) (k : Kn w' k3 F3 M3) (f : Fr F3 w w') : V4 w0 w' k0 k1 k2 k3 F0 F1 F2 F3 M0 M1 M2 M3 :=
  ⟨h.h0.fr f (fun k a b => (h.d0 k a).2.2 b), h.h1.fr f (fun k a b => (h.d1 k a).2 b), h.h2.fr f (fun k a b => h.d2 k a b), k, h.d0, h.d1, h.d2, h.lo, h.old.trans (f.below_lo (fun k hk => h.lo k (Or.inr (Or.inr (Or.inr hk)))) h.old.size)⟩
end
theorem KnGoes.from {w w1 w' : World} {kb : Nat} {F : Nat → Prop} {M' : MS} (h : KnGoes w1 kb F M' w') (hb : Below w.heap.size w w1) : KnGoes w kb F M' w' := by
  obtain ⟨F', h1, h2, h3⟩ := h
  exact ⟨F', h1, fun k hk => (h2 k hk).imp id (fun h => Nat.le_trans hb.size h), ((Fr.of_below hb : Fr (fun _ => False) w w1).mono (fun _ _ h => h.elim)).trans h3⟩
theorem CallsAt.later {w w' : World} {sa : Option Addr} {cs : List (Int × List Int)} (h : CallsAt w sa cs) (hb : Below w.heap.size w w') : CallsAt w' sa cs := by
  rcases h with h | ⟨sb, so, h1, h2, h3⟩
  · exact Or.inl h
  · refine Or.inr ⟨sb, so, h1, Nat.lt_of_lt_of_le h2 hb.size, fun i c hc => ?_⟩
    obtain ⟨v, c0, c1, ha⟩ := h3 i c hc
    exact ⟨v, (cell_same (hb.block sb h2) _).trans c0, (cell_same (hb.block sb h2) _).trans c1, ha.later hb⟩

/-- A call that stands at place k of a script, in later memory. -/
theorem CallsAt.get {w w' : World} {sa : Option Addr} {cs : List (Int × List Int)} {k : Nat} (h : CallsAt w sa cs) (hk : k < cs.length) (hb : Below w.heap.size w w') :
    ∃ sb so c v, sa = some ⟨sb, so, none⟩ ∧ sb < w.heap.size ∧ cs[k]? = some c ∧ w'.cell? ⟨sb, so + k * 2, none⟩ = some (.int .i64 c.1) ∧ w'.cell? ⟨sb, so + k * 2 + 1, none⟩ = some v ∧ ArgV w' v c.2 := by
  obtain ⟨c, hc⟩ : ∃ c, cs[k]? = some c := ⟨_, List.getElem?_eq_getElem hk⟩
  obtain ⟨sb, so, hsa, hsb, hcs⟩ := h.resolve_left (fun e => by rw [e] at hc; simp at hc)
  obtain ⟨v, c0, c1, ha⟩ := hcs k c hc
  exact ⟨sb, so, c, v, hsa, hsb, hc, (cell_same (hb.block sb hsb) _).trans c0, (cell_same (hb.block sb hsb) _).trans c1, ha.later hb⟩

set_option maxRecDepth 100000 in
set_option maxHeartbeats 16000000 in
theorem apart_walk (w : World) (s1 s2 : Option Addr) (n1 n2 p1 p2 : Nat) (c1 c2 : List (Int × List Int)) (e1 : c1.length = n1) (e2 : c2.length = n2) (m1 : n1 ≤ 17592186043904) (m2 : n2 ≤ 17592186043904) (h1 : CallsAt w s1 c1) (h2 : CallsAt w s2 c2) :
    Calls Try.prog 8 #[.slice s1 n1 p1, .slice s2 n2 p2] w fun e w' => e = .returned (.bool true) ∧ Below w.heap.size w w' := by
  have CA1 := hide h1
  have CA2 := hide h2
  have E1 := hide e1
  have E2 := hide e2
  clear h1 h2 e1 e2
  go_enter Try.func8, Try.ntmps8
  go_wp2_with fail
  refine (booted_any w).mono ?_
  rintro e w1 ⟨k0, F0, rfl, a0, f0, b0⟩
  have A0 := hide a0
  have HF0 := hide f0
  have B0 := hide b0
  clear a0 f0 b0
  go_wp2_with fail
  refine (booted_any w1).mono ?_
  rintro e w2 ⟨k1, F1, rfl, a1, f1, b1⟩
  have A1 := hide a1
  have HF1 := hide f1
  have B1 := hide b1
  clear a1 f1 b1
  go_wp2_with fail
  have PL1 := hide (played_any w2 s1 n1 p1 c1 E1.out m1 (CA1.out.later (B0.out.trans (B1.out.mono B0.out.size))))
  refine PL1.out.mono ?_
  clear PL1
  rintro e w3 ⟨k2, F2, rfl, a2, f2, b2⟩
  have A2 := hide a2
  have HF2 := hide f2
  have B2 := hide b2
  clear a2 f2 b2
  go_wp2_with fail
  have PL2 := hide (played_any w3 s2 n2 p2 c2 E2.out m2 (CA2.out.later ((B0.out.trans (B1.out.mono B0.out.size)).trans (B2.out.mono (Nat.le_trans B0.out.size B1.out.size)))))
  refine PL2.out.mono ?_
  clear PL2
  rintro e w4 ⟨k3, F3, rfl, a3, f3, b3⟩
  have KS := hide (ks_start B0.out B1.out B2.out b3 A0.out A1.out A2.out a3 HF0.out HF1.out HF2.out f3)
  clear a3 f3 b3 A0 A1 A2 HF0 HF1 HF2 B0 B1 B2
  go_wp2_with fail
  go_loopw [9] (fun i w' => ∃ t : Nat, i = .int .i64 t ∧ (t ≤ n1 ∨ t ≤ n2) ∧ Ks w w' k0 k1 k2 k3 (MS.boot.plays (c1.take t)) (MS.boot.plays (c2.take t)) (MS.boot.plays c1) (MS.boot.plays c2)) (fun i _ => n1 + n2 - (intOf i).toNat)
  case atStart => exact ⟨0, rfl, by omega, KS.out⟩
  case round =>
    obtain ⟨t, rfl, ht, ks⟩ := hrel
    clear KS
    have KS := hide ks
    have hz := ks.old.size
    clear ks
    have ht4 : t ≤ 17592186043904 := by omega
    by_cases t1 : t < n1
    · have t1i : (t : Int) < (n1 : Int) := by omega
      obtain ⟨sb1, so1, d1, v1, hsa1, hsb1, hc1, q10, q11, av1⟩ := CA1.out.get (k := t) (by have := E1.out; omega) KS.out.old
      have AV1 := hide av1
      obtain ⟨va1, vn1, vc1, hv1⟩ := av1.form
      subst hv1
      subst hsa1
      have EP1 := hide (MS.plays_take (M := MS.boot) hc1)
      have hl1 : sb1 < wr.heap.size := by have := KS.out.old.size; omega
      obtain ⟨Fa1, ka1, go1⟩ := KS.out.step0
      have Ka1 := hide ka1
      have Go1 := hide go1
      clear av1 ka1 go1 hc1
      by_cases dt1 : d1.1 = -1
      · have ec : (MS.boot.plays (c1.take t)).call d1 = (MS.boot.plays (c1.take t)).tick := if_pos dt1
        rw [ec] at EP1
        rw [dt1] at q10
        clear ec dt1
        go_wp2_with fail
        refine (kn_tick Ka1.out).mono ?_
        rintro e w6 ⟨rfl, g⟩
        have KS6 := hide (Go1.out w6 _ g)
        have hz1 := KS6.out.old.size
        clear g KS Ka1 Go1
        by_cases t2 : t < n2
        · have t2i : (t : Int) < (n2 : Int) := by omega
          obtain ⟨sb2, so2, d2, v2, hsa2, hsb2, hc2, q20, q21, av2⟩ := CA2.out.get (k := t) (by have := E2.out; omega) KS6.out.old
          have AV2 := hide av2
          obtain ⟨va2, vn2, vc2, hv2⟩ := av2.form
          subst hv2
          subst hsa2
          have EP2 := hide (MS.plays_take (M := MS.boot) hc2)
          have hl2 : sb2 < w6.heap.size := by have := KS6.out.old.size; omega
          obtain ⟨Fa2, ka2, go2⟩ := KS6.out.step1
          have Ka2 := hide ka2
          have Go2 := hide go2
          clear av2 ka2 go2 hc2
          by_cases dt2 : d2.1 = -1
          · have ec : (MS.boot.plays (c2.take t)).call d2 = (MS.boot.plays (c2.take t)).tick := if_pos dt2
            rw [ec] at EP2
            rw [dt2] at q20
            clear ec dt2
            go_wp2_with fail
            refine (kn_tick Ka2.out).mono ?_
            rintro e w7 ⟨rfl, g⟩
            have KS7 := hide (Go2.out w7 _ g)
            have hz2 := KS7.out.old.size
            clear g KS6 Ka2 Go2
            go_wp2_with fail
            exact ⟨⟨t + 1, by go_num, by omega, by rw [EP1.out, EP2.out]; exact KS7.out⟩, by simp [intOf]; omega⟩
          · have ec : (MS.boot.plays (c2.take t)).call d2 = ((MS.boot.plays (c2.take t)).trap d2.1 d2.2).2 := if_neg dt2
            rw [ec] at EP2
            clear ec
            go_wp2_with fail
            go_still_tail 11, (by kernel_rfl)
            go_wp2_with fail
            refine (kn_trapV (Ka2.out.below (Below.refl _ _).drew) d2.1 (AV2.out.later (Below.refl _ _).drew)).mono ?_
            rintro e w7 ⟨rfl, g⟩
            have KS7 := hide (Go2.out w7 _ (g.from (Below.refl _ _).drew))
            have hz2 := KS7.out.old.size
            clear g KS6 Ka2 Go2
            generalize MS.out _ d2.1 d2.2 = ov2
            go_wp2_with fail
            exact ⟨⟨t + 1, by go_num, by omega, by rw [EP1.out, EP2.out]; exact KS7.out⟩, by simp [intOf]; omega⟩
        · have t2i : ¬ (t : Int) < (n2 : Int) := by omega
          have EP2 := hide (plays_stop (M := MS.boot) (cs := c2) (k := t) (by have := E2.out; omega))
          go_wp2_with fail
          exact ⟨⟨t + 1, by go_num, by omega, by rw [EP1.out, EP2.out]; exact KS6.out⟩, by simp [intOf]; omega⟩
      · have ec : (MS.boot.plays (c1.take t)).call d1 = ((MS.boot.plays (c1.take t)).trap d1.1 d1.2).2 := if_neg dt1
        rw [ec] at EP1
        clear ec
        go_wp2_with fail
        go_still_tail 11, (by kernel_rfl)
        go_wp2_with fail
        refine (kn_trapV (Ka1.out.below (Below.refl _ _).drew) d1.1 (AV1.out.later (Below.refl _ _).drew)).mono ?_
        rintro e w6 ⟨rfl, g⟩
        have KS6 := hide (Go1.out w6 _ (g.from (Below.refl _ _).drew))
        have hz1 := KS6.out.old.size
        clear g KS Ka1 Go1
        generalize MS.out _ d1.1 d1.2 = ov1
        by_cases t2 : t < n2
        · have t2i : (t : Int) < (n2 : Int) := by omega
          obtain ⟨sb2, so2, d2, v2, hsa2, hsb2, hc2, q20, q21, av2⟩ := CA2.out.get (k := t) (by have := E2.out; omega) KS6.out.old
          have AV2 := hide av2
          obtain ⟨va2, vn2, vc2, hv2⟩ := av2.form
          subst hv2
          subst hsa2
          have EP2 := hide (MS.plays_take (M := MS.boot) hc2)
          have hl2 : sb2 < w6.heap.size := by have := KS6.out.old.size; omega
          obtain ⟨Fa2, ka2, go2⟩ := KS6.out.step1
          have Ka2 := hide ka2
          have Go2 := hide go2
          clear av2 ka2 go2 hc2
          by_cases dt2 : d2.1 = -1
          · have ec : (MS.boot.plays (c2.take t)).call d2 = (MS.boot.plays (c2.take t)).tick := if_pos dt2
            rw [ec] at EP2
            rw [dt2] at q20
            clear ec dt2
            go_wp2_with fail
            refine (kn_tick Ka2.out).mono ?_
            rintro e w7 ⟨rfl, g⟩
            have KS7 := hide (Go2.out w7 _ g)
            have hz2 := KS7.out.old.size
            clear g KS6 Ka2 Go2
            go_wp2_with fail
            exact ⟨⟨t + 1, by go_num, by omega, by rw [EP1.out, EP2.out]; exact KS7.out⟩, by simp [intOf]; omega⟩
          · have ec : (MS.boot.plays (c2.take t)).call d2 = ((MS.boot.plays (c2.take t)).trap d2.1 d2.2).2 := if_neg dt2
            rw [ec] at EP2
            clear ec
            go_wp2_with fail
            go_still_tail 11, (by kernel_rfl)
            go_wp2_with fail
            refine (kn_trapV (Ka2.out.below (Below.refl _ _).drew) d2.1 (AV2.out.later (Below.refl _ _).drew)).mono ?_
            rintro e w7 ⟨rfl, g⟩
            have KS7 := hide (Go2.out w7 _ (g.from (Below.refl _ _).drew))
            have hz2 := KS7.out.old.size
            clear g KS6 Ka2 Go2
            generalize MS.out _ d2.1 d2.2 = ov2
            go_wp2_with fail
            exact ⟨⟨t + 1, by go_num, by omega, by rw [EP1.out, EP2.out]; exact KS7.out⟩, by simp [intOf]; omega⟩
        · have t2i : ¬ (t : Int) < (n2 : Int) := by omega
          have EP2 := hide (plays_stop (M := MS.boot) (cs := c2) (k := t) (by have := E2.out; omega))
          go_wp2_with fail
          exact ⟨⟨t + 1, by go_num, by omega, by rw [EP1.out, EP2.out]; exact KS6.out⟩, by simp [intOf]; omega⟩
    · have t1i : ¬ (t : Int) < (n1 : Int) := by omega
      have EP1 := hide (plays_stop (M := MS.boot) (cs := c1) (k := t) (by have := E1.out; omega))
      by_cases t2 : t < n2
      · have t2i : (t : Int) < (n2 : Int) := by omega
        obtain ⟨sb2, so2, d2, v2, hsa2, hsb2, hc2, q20, q21, av2⟩ := CA2.out.get (k := t) (by have := E2.out; omega) KS.out.old
        have AV2 := hide av2
        obtain ⟨va2, vn2, vc2, hv2⟩ := av2.form
        subst hv2
        subst hsa2
        have EP2 := hide (MS.plays_take (M := MS.boot) hc2)
        have hl2 : sb2 < wr.heap.size := by have := KS.out.old.size; omega
        obtain ⟨Fa2, ka2, go2⟩ := KS.out.step1
        have Ka2 := hide ka2
        have Go2 := hide go2
        clear av2 ka2 go2 hc2
        by_cases dt2 : d2.1 = -1
        · have ec : (MS.boot.plays (c2.take t)).call d2 = (MS.boot.plays (c2.take t)).tick := if_pos dt2
          rw [ec] at EP2
          rw [dt2] at q20
          clear ec dt2
          go_wp2_with fail
          refine (kn_tick Ka2.out).mono ?_
          rintro e w7 ⟨rfl, g⟩
          have KS7 := hide (Go2.out w7 _ g)
          have hz2 := KS7.out.old.size
          clear g KS Ka2 Go2
          go_wp2_with fail
          exact ⟨⟨t + 1, by go_num, by omega, by rw [EP1.out, EP2.out]; exact KS7.out⟩, by simp [intOf]; omega⟩
        · have ec : (MS.boot.plays (c2.take t)).call d2 = ((MS.boot.plays (c2.take t)).trap d2.1 d2.2).2 := if_neg dt2
          rw [ec] at EP2
          clear ec
          go_wp2_with fail
          go_still_tail 11, (by kernel_rfl)
          go_wp2_with fail
          refine (kn_trapV (Ka2.out.below (Below.refl _ _).drew) d2.1 (AV2.out.later (Below.refl _ _).drew)).mono ?_
          rintro e w7 ⟨rfl, g⟩
          have KS7 := hide (Go2.out w7 _ (g.from (Below.refl _ _).drew))
          have hz2 := KS7.out.old.size
          clear g KS Ka2 Go2
          generalize MS.out _ d2.1 d2.2 = ov2
          go_wp2_with fail
          exact ⟨⟨t + 1, by go_num, by omega, by rw [EP1.out, EP2.out]; exact KS7.out⟩, by simp [intOf]; omega⟩
      · have t2i : ¬ (t : Int) < (n2 : Int) := by omega
        have EP2 := hide (plays_stop (M := MS.boot) (cs := c2) (k := t) (by have := E2.out; omega))
        obtain ⟨F0, F1, F2, F3, h0, h1, h2, h3, d0, d1, d2, hF⟩ := KS.out.all
        rw [List.take_of_length_le (by have := E1.out; omega)] at h0
        rw [List.take_of_length_le (by have := E2.out; omega)] at h1
        have V := hide (V4.mk h0 h1 h2 h3 d0 d1 d2 hF KS.out.old)
        have VS1 := hide (view_short h0.inv 255)
        have VS2 := hide (view_short h1.inv 255)
        have L1 : Hid (∀ k, F1 k → k < wr.heap.size) := fun k hk => h1.lt hk
        have L2 : Hid (∀ k, F2 k → k < wr.heap.size) := fun k hk => h2.lt hk
        have L3 : Hid (∀ k, F3 k → k < wr.heap.size) := fun k hk => h3.lt hk
        clear h0 h1 h2 h3 d0 d1 d2 hF KS EP1 EP2
        go_wp2_with fail
        refine (kn_view V.out.h0 255).mono ?_
        rintro e wA ⟨va, rfl, oa, ka, fa⟩
        have OA := hide oa
        have VA := hide (V.out.go0 ka fa)
        have za := fa.size
        clear oa ka fa V
        go_wp2_with fail
        refine (kn_view VA.out.h2 255).mono ?_
        rintro e wB ⟨vb, rfl, ob, kb, fb⟩
        have OB := hide ob
        have OA2 := hide (OA.out.same (fun k hk => fb.block k (OA.out.row hk).2 (fun hf => by have := L2.out k hf; have := (OA.out.row hk).1; omega)))
        have VB := hide (VA.out.go2 kb fb)
        have zb := fb.size
        clear ob kb fb VA OA
        go_wp2_with fail
        refine (same_any wB _ _ va vb _ _ OA2.out OB.out (Nat.le_trans VS1.out (by omega))).mono ?_
        rintro e wC ⟨rfl, bc⟩
        have VC := hide (VB.out.later bc)
        have zc := bc.size
        clear bc VB OA2 OB
        rw [decide_eq_true rfl]
        go_wp2_with fail
        refine (kn_view VC.out.h1 255).mono ?_
        rintro e wD ⟨vd, rfl, od, kd, fd⟩
        have OD := hide od
        have VD := hide (VC.out.go1 kd fd)
        have zd := fd.size
        clear od kd fd VC
        go_wp2_with fail
        refine (kn_view VD.out.h3 255).mono ?_
        rintro e wE ⟨ve, rfl, oe, ke, fe⟩
        have OE := hide oe
        have OD2 := hide (OD.out.same (fun k hk => fe.block k (OD.out.row hk).2 (fun hf => by have := L3.out k hf; have := (OD.out.row hk).1; omega)))
        have VE := hide (VD.out.go3 ke fe)
        clear oe ke fe VD OD
        go_wp2_with fail
        refine (same_any wE _ _ vd ve _ _ OD2.out OE.out (Nat.le_trans VS2.out (by omega))).mono ?_
        rintro e wF ⟨rfl, bf⟩
        have VF := hide (VE.out.later bf)
        clear bf VE OD2 OE
        rw [decide_eq_true rfl]
        obtain ⟨nt, nl, hnow⟩ := now_form (MS.boot.plays c1)
        obtain ⟨mt, ml, hmow⟩ := now_form (MS.boot.plays c2)
        go_wp2_with fail
        refine (kn_now VF.out.h0).mono ?_
        rintro e wG ⟨rfl, bg⟩
        have VG := hide (VF.out.later bg)
        clear bg VF
        rw [hnow, nowV]
        go_wp2_with fail
        refine (kn_now VG.out.h2).mono ?_
        rintro e wH ⟨rfl, bh⟩
        have VH := hide (VG.out.later bh)
        clear bh VG
        rw [hnow, nowV]
        go_wp2_with fail
        refine (kn_now VH.out.h1).mono ?_
        rintro e wI ⟨rfl, bi⟩
        have VI := hide (VH.out.later bi)
        clear bi VH
        rw [hmow, nowV]
        go_wp2_with fail
        refine (kn_now VI.out.h3).mono ?_
        rintro e wJ ⟨rfl, bj⟩
        have VJ := hide (VI.out.later bj)
        clear bj VI
        rw [hmow, nowV]
        go_wp2_with fail
        go_ret
        exact ⟨rfl, VJ.out.old⟩

end Go.Proofs.Ytloppmepfkkblaa
end

section
/- A trap whose answer is laid down in a new block: the call and the block may come in either order. -/
open Go Go.Proofs Go.RowKit
namespace Go.Proofs.Ytloppmepfkkblaa

theorem eval_put_ne {a : Act} {i j : Nat} {v : Value} (h : j ≠ i) : (a.put (some j) v).eval (.tmp i) = a.eval (.tmp i) := by
  show (a.tmps.setIfInBounds j v).getD i undef = a.tmps.getD i undef
  rw [Array.getD_eq_getD_getElem?, Array.getD_eq_getD_getElem?, Array.getElem?_setIfInBounds_ne h]
theorem eval_put_self {a : Act} {j : Nat} {v : Value} (h : j < a.tmps.size) : (a.put (some j) v).eval (.tmp j) = v := by
  show (a.tmps.setIfInBounds j v).getD j undef = v
  rw [Array.getD_eq_getD_getElem?, Array.getElem?_setIfInBounds_self_of_lt h]
  rfl
theorem put_comm {a : Act} {i j : Nat} {u v : Value} (h : i ≠ j) : (a.put (some i) u).put (some j) v = (a.put (some j) v).put (some i) u := by
  show (⟨(a.tmps.setIfInBounds i u).setIfInBounds j v, a.defers⟩ : Act) = ⟨(a.tmps.setIfInBounds j v).setIfInBounds i u, a.defers⟩
  rw [Array.setIfInBounds_comm _ _ h]

section
variable {P : Program} {md : Region.Mode} {ops : Array Oper} {Q : Exit → Act → World → Prop} {S : World → Prop} {n : Nat}
theorem wpAnyT_step {l : List Nat} {fuel : Nat} {listed : Array Bool} {a : Act} {w : World} (hr : Region.ready md ops listed = l) (hne : l ≠ [])
    (h : ∀ i ∈ l, ∃ o, ops[i]? = some o ∧ o.guard = none ∧ ∀ K : Act → World → Prop, (∀ a' w', (i < n → S w') → wpAnyT P md ops Q S n fuel (listed.setIfInBounds i true) a' w' → K a' w') → Oper.wp P o a w K Q) : wpAnyT P md ops Q S n (fuel + 1) listed a w := by
  refine ⟨fun h0 => absurd (hr.symm.trans h0) hne, fun j hj => ?_⟩
  rw [hr] at hj
  obtain ⟨o, ho, hg, hw⟩ := h j hj
  have hwd : Region.wanted o (yielded ops a.tmps) = true := by simp [Region.wanted, hg]
  unfold wpOp
  simp only [ho, hwd, if_true]
  exact Or.inl (hw _ (fun a' w' h1 h2 => ⟨h1, h2⟩))
theorem wpAnyT_as {fuel fuel' : Nat} {listed listed' : Array Bool} {a : Act} {w : World} (h1 : fuel' = fuel) (h2 : listed' = listed) (h : wpAnyT P md ops Q S n fuel listed a w) : wpAnyT P md ops Q S n fuel' listed' a w := by
  rw [h1, h2]; exact h
end

/-- Eleven are done; the call; the block; the store. -/
def LT (c b s : Bool) : Array Bool := #[true, true, true, true, true, true, true, true, true, true, true, c, b, s]

structure TailOps (ops : Array Oper) (t0 t5 t10 d1 dv : Nat) : Prop where
  o11 : ∃ o, ops[11]? = some o ∧ o.guard = none ∧ o.dst = some d1 ∧ o.op = .call { callee := .value (.func 19), args := #[.tmp t0, .tmp t5, .tmp t10], argTypes := #[25, 3, 29] }
  o12 : ∃ o, ops[12]? = some o ∧ o.guard = none ∧ o.dst = some dv ∧ o.op = .alloc 46
  o13 : ∃ o, ops[13]? = some o ∧ o.guard = none ∧ o.dst = none ∧ o.op = .store 46 (.tmp dv) (.tmp d1)
  r00 : Region.ready .any ops (LT false false false) = [11, 12]
  r10 : Region.ready .any ops (LT true false false) = [12]
  r01 : Region.ready .any ops (LT false true false) = [11]
  r11 : Region.ready .any ops (LT true true false) = [13]
  r2 : Region.ready .any ops (LT true true true) = []

/-- What it leaves. -/
def TrapLaid (w : World) (kb : Nat) (F : Nat → Prop) (M2 : MS) (oc : Array Value) (ob : Nat) (w' : World) : Prop :=
  ∃ F', Kn w' kb F' M2 ∧ (∀ k, F' k → F k ∨ w.heap.size ≤ k) ∧ Fr F w w' ∧ w.heap.size ≤ ob ∧ ¬ F' ob ∧ Blk w' ob oc

theorem TrapLaid.set {w w' : World} {kb : Nat} {F : Nat → Prop} {M2 : MS} {oc : Array Value} {ob : Nat} (h : TrapLaid w kb F M2 oc ob w') (i : Nat) (x : Value) : TrapLaid w kb F M2 (oc.setIfInBounds i x) ob (w'.setCell ⟨ob, i, none⟩ x) := by
  obtain ⟨F', h1, h2, h3, h4, h5, h6⟩ := h
  have e : Fr (fun k => k = ob) w' (w'.setCell ⟨ob, i, none⟩ x) := Fr.own w' ob i x
  exact ⟨F', h1.fr e (fun k hk he => h5 (he ▸ hk)), h2, h3.trans' e (fun k hk he => by omega), h4, h5, h6.set i x⟩

set_option maxHeartbeats 2000000 in
theorem trap_tail {ops : Array Oper} {Q : Exit → Act → World → Prop} {S : World → Prop} {a : Act} {w : World} {t0 t5 t10 d1 dv : Nat} (ho : TailOps ops t0 t5 t10 d1 dv) {kb : Nat} {F : Nat → Prop} {M : MS} (hk : Kn w kb F M) {T : Int} {v : Value} {xs : List Int} (ha : ArgV w v xs)
    (h0 : a.eval (.tmp t0) = .pointer (some ⟨kb, 0, none⟩)) (h5 : a.eval (.tmp t5) = .int .i64 T) (h10 : a.eval (.tmp t10) = v) (hd1 : d1 < a.tmps.size) (hdv : dv < a.tmps.size) (hne : dv ≠ d1 ∧ dv ≠ t0 ∧ dv ≠ t5 ∧ dv ≠ t10)
    {e1 v1 : Int} {u1 : Nat} {M2 : MS} (hout : M.trap T xs = ((e1, v1, u1), M2)) {sb : Nat} (hsb : sb < w.heap.size) (hsF : ¬ F sb) (hS : ∀ w', w'.heap[sb]? = w.heap[sb]? → S w')
    (hQ : ∀ ob w', TrapLaid w kb F M2 #[.int .i64 e1, .int .i64 v1, .int .i64 u1] ob w' → Q .normal ((a.put (some d1) (.agg #[.int .i64 e1, .int .i64 v1, .int .i64 u1])).put (some dv) (.pointer (some ⟨ob, 0, none⟩))) w') :
    wpAnyT Try.prog .any ops Q S 13 3 (LT false false false) a w := by
  have eo : M.out T xs = .agg #[.int .i64 e1, .int .i64 v1, .int .i64 u1] := by unfold MS.out; rw [hout]; rfl
  have g0 : a.tmps[t0]?.getD undef = .pointer (some ⟨kb, 0, none⟩) := by rw [← Array.getD_eq_getD_getElem?]; exact h0
  have g5 : a.tmps[t5]?.getD undef = .int .i64 T := by rw [← Array.getD_eq_getD_getElem?]; exact h5
  have g10 : a.tmps[t10]?.getD undef = v := by rw [← Array.getD_eq_getD_getElem?]; exact h10
  -- the store
  have last : ∀ ob w', TrapLaid w kb F M2 #[.int .i64 0, .int .i64 0, .int .i64 0] ob w' → wpAnyT Try.prog .any ops Q S 13 1 (LT true true false) ((a.put (some d1) (.agg #[.int .i64 e1, .int .i64 v1, .int .i64 u1])).put (some dv) (.pointer (some ⟨ob, 0, none⟩))) w' := by
    intro ob w' hl
    have hl3 := ((hl.set 0 (.int .i64 e1)).set 1 (.int .i64 v1)).set 2 (.int .i64 u1)
    have f1 : ((a.put (some d1) (.agg #[.int .i64 e1, .int .i64 v1, .int .i64 u1])).put (some dv) (.pointer (some ⟨ob, 0, none⟩))).eval (.tmp dv) = .pointer (some ⟨ob, 0, none⟩) := eval_put_self (by show dv < (a.tmps.setIfInBounds d1 _).size; simpa using hdv)
    have f2 : ((a.put (some d1) (.agg #[.int .i64 e1, .int .i64 v1, .int .i64 u1])).put (some dv) (.pointer (some ⟨ob, 0, none⟩))).eval (.tmp d1) = .agg #[.int .i64 e1, .int .i64 v1, .int .i64 u1] := (eval_put_ne hne.1).trans (eval_put_self hd1)
    have hq := hQ ob _ hl3
    obtain ⟨F', _, _, _, _, _, hb⟩ := hl
    have c0 := (hb.cell 0).trans (show _ = some (Value.int .i64 0) from rfl)
    have c1 := (hb.cell 1).trans (show _ = some (Value.int .i64 0) from rfl)
    have c2 := (hb.cell 2).trans (show _ = some (Value.int .i64 0) from rfl)
    have z0 := hb.frozen 0
    have z1 := hb.frozen 1
    have z2 := hb.frozen 2
    generalize (a.put (some d1) (.agg #[.int .i64 e1, .int .i64 v1, .int .i64 u1])).put (some dv) (.pointer (some ⟨ob, 0, none⟩)) = a3 at *
    refine wpAnyT_step ho.r11 (by simp) (fun i hi => ?_)
    obtain rfl := List.mem_singleton.1 hi
    obtain ⟨o, o1, o2, o3, o4⟩ := ho.o13
    refine ⟨o, o1, o2, fun K hK => ?_⟩
    unfold Oper.wp execOp
    simp only [o4, f1, f2]
    simp [go_sem, c0, c1, c2, z0, z1, z2]
    refine hK _ _ (fun h => absurd h (by omega)) ?_
    rw [show (LT true true false).setIfInBounds 13 true = LT true true true from by kernel_rfl]
    refine wpAnyT_done ho.r2 ?_
    rw [o3]
    exact hq
  refine wpAnyT_step ho.r00 (by simp) (fun i hi => ?_)
  simp only [List.mem_cons, List.not_mem_nil, or_false] at hi
  rcases hi with rfl | rfl
  · obtain ⟨o, o1, o2, o3, o4⟩ := ho.o11
    refine ⟨o, o1, o2, fun K hK => ?_⟩
    unfold Oper.wp execOp
    simp only [o4]
    simp [go_sem]
    rw [g0, g5, g10]
    refine (kn_trapV hk T ha).mono ?_
    rintro e w1 ⟨rfl, F', k1, k2, k3⟩
    rw [eo]
    rw [hout] at k1
    show K (a.put o.dst (.agg #[.int .i64 e1, .int .i64 v1, .int .i64 u1])) w1
    rw [o3]
    have z1 := k3.size
    refine hK _ _ (fun _ => hS _ (k3.block sb hsb hsF)) ?_
    clear hK
    rw [show (LT false false false).setIfInBounds 11 true = LT true false false from by kernel_rfl]
    refine wpAnyT_step ho.r10 (by simp) (fun i hi => ?_)
    obtain rfl := List.mem_singleton.1 hi
    obtain ⟨o, o1, o2, o3, o4⟩ := ho.o12
    refine ⟨o, o1, o2, fun K hK => ?_⟩
    unfold Oper.wp execOp
    simp only [o4]
    simp [go_sem]
    show K ((a.put (some d1) (.agg #[.int .i64 e1, .int .i64 v1, .int .i64 u1])).put o.dst (.pointer (some ⟨w1.heap.size, 0, none⟩))) (w1.alloc (.cells #[.int .i64 0, .int .i64 0, .int .i64 0] 46))
    rw [o3]
    have b1 : Below w1.heap.size w1 (w1.alloc (.cells #[.int .i64 0, .int .i64 0, .int .i64 0] 46)) := (Below.refl _ _).alloc (Nat.le_refl _) _
    refine hK _ _ (fun _ => hS _ ((b1.block sb (by omega)).trans (k3.block sb hsb hsF))) ?_
    rw [show (LT true false false).setIfInBounds 12 true = LT true true false from by kernel_rfl]
    exact last _ _ ⟨F', k1.below b1, k2, k3.trans (Fr.of_below b1), z1, fun hf => by have := k1.lt hf; omega, Blk.new _ _ _⟩
  · obtain ⟨o, o1, o2, o3, o4⟩ := ho.o12
    refine ⟨o, o1, o2, fun K hK => ?_⟩
    unfold Oper.wp execOp
    simp only [o4]
    simp [go_sem]
    show K (a.put o.dst (.pointer (some ⟨w.heap.size, 0, none⟩))) (w.alloc (.cells #[.int .i64 0, .int .i64 0, .int .i64 0] 46))
    rw [o3]
    have b1 : Below w.heap.size w (w.alloc (.cells #[.int .i64 0, .int .i64 0, .int .i64 0] 46)) := (Below.refl _ _).alloc (Nat.le_refl _) _
    have hB := Blk.new w #[.int .i64 0, .int .i64 0, .int .i64 0] 46
    have z1 : (w.alloc (.cells #[.int .i64 0, .int .i64 0, .int .i64 0] 46)).heap.size = w.heap.size + 1 := by simp
    refine hK _ _ (fun _ => hS _ (b1.block sb hsb)) ?_
    clear hK
    rw [show (LT false false false).setIfInBounds 12 true = LT false true false from by kernel_rfl]
    have y0 : (a.put (some dv) (.pointer (some ⟨w.heap.size, 0, none⟩))).tmps[t0]?.getD undef = .pointer (some ⟨kb, 0, none⟩) := by
      rw [← Array.getD_eq_getD_getElem?]; exact (eval_put_ne hne.2.1).trans h0
    have y5 : (a.put (some dv) (.pointer (some ⟨w.heap.size, 0, none⟩))).tmps[t5]?.getD undef = .int .i64 T := by
      rw [← Array.getD_eq_getD_getElem?]; exact (eval_put_ne hne.2.2.1).trans h5
    have y10 : (a.put (some dv) (.pointer (some ⟨w.heap.size, 0, none⟩))).tmps[t10]?.getD undef = v := by
      rw [← Array.getD_eq_getD_getElem?]; exact (eval_put_ne hne.2.2.2).trans h10
    have ec := put_comm (a := a) (u := .agg #[.int .i64 e1, .int .i64 v1, .int .i64 u1]) (v := .pointer (some ⟨w.heap.size, 0, none⟩)) (Ne.symm hne.1)
    have lw := last w.heap.size
    rw [ec] at lw
    generalize a.put (some dv) (.pointer (some ⟨w.heap.size, 0, none⟩)) = a2 at *
    refine wpAnyT_step ho.r01 (by simp) (fun i hi => ?_)
    obtain rfl := List.mem_singleton.1 hi
    obtain ⟨o, o1, o2, o3, o4⟩ := ho.o11
    refine ⟨o, o1, o2, fun K hK => ?_⟩
    unfold Oper.wp execOp
    simp only [o4]
    simp [go_sem]
    rw [y0, y5, y10]
    refine (kn_trapV (hk.below b1) T (ha.later b1)).mono ?_
    rintro e w1 ⟨rfl, F', k1, k2, k3⟩
    rw [eo]
    rw [hout] at k1
    show K (a2.put o.dst (.agg #[.int .i64 e1, .int .i64 v1, .int .i64 u1])) w1
    rw [o3]
    have nf : ¬ F w.heap.size := fun hf => by have := hk.lt hf; omega
    refine hK _ _ (fun _ => hS _ ((k3.block sb (by omega) hsF).trans (b1.block sb hsb))) ?_
    rw [show (LT false true false).setIfInBounds 11 true = LT true true false from by kernel_rfl]
    refine lw _ ⟨F', k1, fun k hk => (k2 k hk).imp id (fun h => by omega), (Fr.of_below b1).trans k3, Nat.le_refl _, fun hf => ?_, hB.fr k3 nf⟩
    rcases k2 _ hf with h | h
    · exact nf h
    · omega

end Go.Proofs.Ytloppmepfkkblaa
end

section
/- The keep's 'in', 'heard', 'alone'. -/
open Go Go.Proofs Go.RowKit
namespace Go.Proofs.Ytloppmepfkkblaa

theorem in_val (w : World) {a b : Nat} (ha : a < 256) (hb : b < 256) : Calls Try.prog 21 #[.int .i64 a, .int .i64 b] w fun e w' => e = .returned (.bool (sub a b)) ∧ w' = w := by
  have hor := i64_or a b ha hb
  by_cases h : sub a b = true
  · have e : a ||| b = b := by unfold sub at h; simpa using h
    rw [h]
    rw [e] at hor
    go_enter Try.func21, Try.ntmps21
    go_wp2_with fail
    go_ret
    exact ⟨rfl, rfl⟩
  · have e : ¬ ((a ||| b : Nat) : Int) = (b : Int) := by unfold sub at h; simp at h; omega
    have e2 : sub a b = false := by simpa using h
    rw [e2]
    have e3 : (((a ||| b : Nat) : Int) == (b : Int)) = false := by simpa using e
    clear h e2
    generalize (a ||| b : Nat) = c at *
    go_enter Try.func21, Try.ntmps21
    go_wp2_with fail
    go_ret
    exact ⟨rfl, rfl⟩

set_option maxHeartbeats 1000000 in
theorem heard_any {w : World} {kb : Nat} {F : Nat → Prop} {M : MS} (h : Kn w kb F M) {l : Nat} (hl : l < 256) :
    Calls Try.prog 16 #[.pointer (some ⟨kb, 0, none⟩), .int .i64 l] w fun e w' => e = .returned (.bool (heardB M l)) ∧ Below w.heap.size w w' := by
  have NN := hide (kn_now h)
  have hI := h.inv
  clear h
  cases hc : M.cur with
  | none =>
    have e1 : M.now = nowV M.ph (-1) 0 := by unfold MS.now; rw [hc]
    have e2 : heardB M l = false := by unfold heardB; rw [hc]
    rw [e1] at NN
    rw [e2]
    unfold nowV at NN
    clear e1 e2 hc hI
    go_enter Try.func16, Try.ntmps16
    go_wp2_with fail
    refine NN.out.mono ?_
    rintro e w1 ⟨rfl, b1⟩
    have B1 := hide (b1.alloc (o := .cells #[.int .i64 M.ph, .int .i64 (-1), .int .i64 ((0 : Nat) : Int)] 42) b1.size)
    clear b1 NN
    go_wp2_with fail
    go_ret
    exact ⟨rfl, B1.out⟩
  | some t =>
    have e1 : M.now = nowV M.ph t (M.S t).label := by unfold MS.now; rw [hc]
    have e2 : heardB M l = sub (M.S t).label l := by unfold heardB; rw [hc]
    have t1 := (hI.cur_some hc).1
    have hx := (hI.tree.wf t t1).1
    rw [e1] at NN
    rw [e2]
    unfold nowV at NN
    clear e1 e2 hc hI
    have ht0 : (0 : Int) ≤ (t : Int) := by omega
    generalize (M.S t).label = x at *
    have IV := hide (fun w => in_val w hx hl)
    go_enter Try.func16, Try.ntmps16
    go_wp2_with fail
    refine NN.out.mono ?_
    rintro e w1 ⟨rfl, b1⟩
    have B1 := hide (b1.alloc (o := .cells #[.int .i64 M.ph, .int .i64 t, .int .i64 x] 42) b1.size)
    clear b1 NN
    go_wp2_with fail
    refine (IV.out _).mono ?_
    rintro e w2 ⟨rfl, rfl⟩
    go_wp2_with fail
    go_ret
    exact ⟨rfl, B1.out⟩

/-- On from there. -/
theorem KnGoes.step {w w1 w2 : World} {kb : Nat} {F F1 : Nat → Prop} {M2 : MS} (g1 : ∀ k, F1 k → F k ∨ w.heap.size ≤ k) (f1 : Fr F w w1) (h : KnGoes w1 kb F1 M2 w2) : KnGoes w kb F M2 w2 := by
  obtain ⟨F2, k2, g2, f2⟩ := h
  have hs := f1.size
  refine ⟨F2, k2, fun k hk => (g2 k hk).elim (g1 k) (fun h => Or.inr (by omega)), f1.trans' f2 (fun k hk h => ?_)⟩
  rcases g1 k h with q | q
  · exact q
  · omega

theorem KnGoes.refl {w : World} {kb : Nat} {F : Nat → Prop} {M : MS} (h : Kn w kb F M) : KnGoes w kb F M w := ⟨F, h, fun _ hk => Or.inl hk, Fr.refl _ _⟩

theorem out_form (M : MS) (T : Int) (xs : List Int) : M.out T xs = .agg #[.int .i64 (M.trap T xs).1.1, .int .i64 (M.trap T xs).1.2.1, .int .i64 (M.trap T xs).1.2.2] := rfl

/-- What 'alone' leaves. -/
def AloneEnd (w : World) (kb : Nat) (F : Nat → Prop) (M : MS) (l : Nat) (e : Ending) (w' : World) : Prop := ∃ o M', e = .returned (.tuple #[.bool true, .bool o]) ∧ KnGoes w kb F M' w' ∧ (o = false → Alike l M M' ∧ Tight l M')

set_option maxRecDepth 100000 in
set_option maxHeartbeats 8000000 in
theorem alone_any {w0 w : World} {kb : Nat} {F : Nat → Prop} {M : MS} {l : Nat} (h : Kn w kb F M) (hl : l < 256) (ht : Tight l M) (hF : ∀ k, F k → w0.heap.size ≤ k) (hb : Below w0.heap.size w0 w) (sa : Option Addr) (n cap : Nat) (cs : List (Int × List Int)) (hn : cs.length = n) (hn4 : n ≤ 17592186043904) (hs : CallsAt w0 sa cs) :
    Calls Try.prog 14 #[.pointer (some ⟨kb, 0, none⟩), .int .i64 l, .slice sa n cap] w fun e w' => AloneEnd w kb F M l e w' := by
  have HS := hide hs
  have HF := hide hF
  have HB := hide hb
  have HN := hide hn
  have K0 := hide h
  have T0 := hide ht
  have hz0 := hb.size
  clear hs hF hb hn h ht
  go_enter Try.func14, Try.ntmps14
  go_wp2_with fail
  go_loopw [8] (fun i w' => ∃ (j : Nat) (M' : MS), j ≤ n ∧ i = .int .i64 j ∧ KnGoes w kb F M' w' ∧ Alike l M M' ∧ Tight l M') (fun i _ => n - (intOf i).toNat)
  case atStart => exact ⟨0, M, by omega, rfl, KnGoes.refl K0.out, Alike.refl _ _, T0.out⟩
  case round =>
    obtain ⟨j, M1, hj, rfl, hg, hA, hT⟩ := hrel
    clear K0 T0
    have GO := hide hg
    have AL := hide hA
    have TI := hide hT
    clear hg hA hT
    by_cases hjn : j < n
    · have hji : (j : Int) < (n : Int) := by omega
      obtain ⟨F1, k1, g1, f1⟩ := GO.out
      have K1 := hide k1
      have G1 := hide g1
      have F1F := hide f1
      have INV := hide k1.inv
      have L1 : Hid (∀ k, F1 k → k < wr.heap.size ∧ w0.heap.size ≤ k) := fun k hk => ⟨k1.lt hk, (g1 k hk).elim (HF.out k) (fun h => by omega)⟩
      have hb1 := HB.out.trans (Fr.below_lo f1 HF.out hz0)
      have HB1 := hide hb1
      have hz1 := hb1.size
      clear k1 g1 f1 hb1
      cases hh : heardB M1 l with
      | true =>
        have HA := hide (heard_any K1.out hl)
        rw [hh] at HA
        clear hh
        go_wp2_with fail
        refine HA.out.mono ?_
        rintro e w2 ⟨rfl, b2⟩
        have GN : Hid (KnGoes w kb F M1 w2) := KnGoes.step G1.out F1F.out ⟨F1, K1.out.below b2, fun _ hk => Or.inl hk, Fr.of_below b2⟩
        clear b2
        go_wp2_with fail
        go_ret2
        exact ⟨false, M1, rfl, GN.out, fun _ => ⟨AL.out, TI.out⟩⟩
      | false =>
        have HA := hide (heard_any K1.out hl)
        rw [hh] at HA
        have HH := hide hh
        clear hh
        obtain ⟨sb, so, c, v, hsa, hsb, hcj, c0, c1, hav⟩ := HS.out.get (k := j) (by rw [HN.out]; exact hjn) (Below.refl _ _)
        subst hsa
        obtain ⟨T, xs⟩ := c
        obtain ⟨va, vn, vc, hv⟩ := hav.form
        subst hv
        have CW : Hid (∀ W, Below w0.heap.size w0 W → (W.cell? ⟨sb, so + j * 2, none⟩ = some (.int .i64 T) ∧ W.cell? ⟨sb, so + j * 2 + 1, none⟩ = some (.slice va vn vc)) ∧ ArgV W (.slice va vn vc) xs) := fun W hW => ⟨⟨(cell_same (hW.block sb hsb) _).trans c0, (cell_same (hW.block sb hsb) _).trans c1⟩, hav.later hW⟩
        clear hav hcj c0 c1
        go_wp2_with fail
        refine HA.out.mono ?_
        clear HA
        rintro e w2 ⟨rfl, b2⟩
        have B2 := hide (HB1.out.trans (b2.mono hz1))
        have z2 := b2.size
        have K2 := hide (K1.out.below b2)
        have FR2 : Hid (Fr F1 wr w2) := Fr.of_below b2
        clear b2
        go_wp2_with fail
        refine (kn_view K2.out l).mono ?_
        rintro e w3 ⟨v3, rfl, o3, k3, f3⟩
        have z3 := f3.size
        have O3 := hide o3
        have K3 : Hid (Kn w3.drew kb F1 M1) := k3.fr (P := fun _ => False) (Fr.of_below (Below.refl _ _).drew) (fun _ _ => id)
        have FR3 : Hid (Fr F1 wr w3.drew) := (FR2.out.trans f3).drew
        have B3 : Hid (Below w0.heap.size w0 w3.drew) := (B2.out.trans (f3.below_lo (fun k hk => (L1.out k hk).2) (by omega))).drew
        have R3 : Hid (∀ k, v3.ownBlock = some k → w2.heap.size ≤ k ∧ k < w3.heap.size) := fun k hk => o3.row hk
        obtain ⟨o3a, o3n, o3c, hv3⟩ := o3.form
        subst hv3
        clear o3 k3 f3 K2 FR2 B2
        obtain ⟨e1, v1, u1, M2, hout⟩ : ∃ (e1 v1 : Int) (u1 : Nat) (M2 : MS), M1.trap T xs = ((e1, v1, u1), M2) := ⟨_, _, _, _, rfl⟩
        have hu1 : u1 < 256 := by have := (trap_range INV.out T xs).2.2.1; rw [hout] at this; exact this
        have OUT := hide hout
        clear hout
        have hsF : ¬ F1 sb := fun hf => by have := (L1.out sb hf).2; omega
        have hsb3 : sb < w3.drew.heap.size := by show sb < w3.heap.size; omega
        have hS0 := (CW.out _ B3.out).1
        go_wp2_with fail
        refine wp_region_plan2 (fun w' => w'.cell? ⟨sb, so + j * 2, none⟩ = some (.int .i64 T) ∧ w'.cell? ⟨sb, so + j * 2 + 1, none⟩ = some (.slice va vn vc)) 13 11 0 0 (by kernel_rfl) (by kernel_rfl) (by rfl) (fun _ a d v w h => by cases d <;> exact h) hS0 ?_
        simp only [List.take_succ_cons, List.take_zero, List.drop_zero, List.append_nil]
        iterate 11 (
          refine wpPlanL_cons (v := ?_) (by rfl) ?_ ?_
          rotate_left
          · (intro wS hSw; (try dsimp only at hSw); go_simp; try with_reducible rfl)
          simp only [Act.put, List.setIfInBounds_toArray])
        refine wpPlanL_nil ?_
        refine wpAnyT_as (fuel := 3) (listed := LT false false false) (by kernel_rfl) (by kernel_rfl) ?_
        simp only [List.set_cons_succ, List.set_cons_zero]
        refine trap_tail (t0 := 27) (t5 := 32) (t10 := 37) (d1 := 38) (dv := 11) (kb := kb) (F := F1) (M := M1) (T := T) (v := .slice va vn vc) (xs := xs) (sb := sb) ?ko K3.out (CW.out _ B3.out).2 rfl rfl rfl (by simp) (by simp) (by decide) OUT.out hsb3 hsF ?s ?q
        case ko => exact ⟨⟨_, rfl, rfl, rfl, rfl⟩, ⟨_, rfl, rfl, rfl, rfl⟩, ⟨_, rfl, rfl, rfl, rfl⟩, by kernel_rfl, by kernel_rfl, by kernel_rfl, by kernel_rfl, by kernel_rfl⟩
        case s => exact fun w' e => ⟨(cell_same e _).trans hS0.1, (cell_same e _).trans hS0.2⟩
        case q =>
          intro ob w4 hlaid
          simp only [Act.put, List.setIfInBounds_toArray, List.set_cons_succ, List.set_cons_zero]
          obtain ⟨F2, k4, g4, f4, hob, nob, bob⟩ := hlaid
          have x2 := (bob.cell 2).trans (show _ = some (Value.int .i64 u1) from rfl)
          have hobl := bob.lt
          have z4 := f4.size
          have z3' : w3.drew.heap.size = w3.heap.size := rfl
          have K4 := hide k4
          have F4 := hide f4
          have G4 := hide g4
          have GN : Hid (KnGoes w kb F M2 w4) := KnGoes.step G1.out F1F.out ⟨F2, k4, fun k hk => (g4 k hk).imp id (fun h => by omega), FR3.out.trans f4⟩
          have IV := hide (in_val w4 hu1 hl)
          clear k4 f4 g4 bob nob hS0
          cases hsub : sub u1 l with
          | false =>
            rw [hsub] at IV
            clear hsub
            go_wp2_with fail
            refine IV.out.mono ?_
            rintro e w5 ⟨rfl, rfl⟩
            go_wp2_with fail
            go_ret2
            exact ⟨true, M2, rfl, GN.out, fun h => by cases h⟩
          | true =>
            rw [hsub] at IV
            have A2 : Hid (Alike l M1 M2) := by
              have := trap_unheard (l := l) INV.out HH.out (n := T) (xs := xs) (by rw [OUT.out]; exact hsub)
              rw [OUT.out] at this
              exact this
            have T2 : Hid (Tight l M2) := by
              have := trap_tight (l := l) INV.out TI.out (n := T) (xs := xs) (by rw [OUT.out]; exact hsub)
              rw [OUT.out] at this
              exact this
            have I2 := hide K4.out.inv
            have EV := hide (view_alike A2.out INV.out I2.out)
            have EH := hide (heard_alike A2.out INV.out I2.out TI.out T2.out).1
            clear hsub
            go_wp2_with fail
            refine IV.out.mono ?_
            rintro e w5 ⟨rfl, rfl⟩
            clear IV
            go_wp2_with fail
            refine (kn_view K4.out l).mono ?_
            rintro e w6 ⟨v6, rfl, o6, k6, f6⟩
            have z6 := f6.size
            have O6 := hide o6
            have K6 := hide k6
            have F6 := hide f6
            obtain ⟨o6a, o6n, o6c, hv6⟩ := o6.form
            subst hv6
            have O36 := hide (O3.out.same (w' := w6) (fun k hk => by
              obtain ⟨r1, r2⟩ := R3.out k hk
              have n1 : ¬ F1 k := fun hf => by have := (L1.out k hf).1; omega
              have n2 : ¬ F2 k := fun hf => by
                rcases G4.out k hf with q | q
                · exact n1 q
                · omega
              exact (f6.block k (by omega) n2).trans (F4.out.block k (by omega) n1)))
            clear o6 k6 f6
            go_wp2_with fail
            refine (same_any w6 _ _ _ _ _ _ O6.out O36.out (Nat.le_trans (view_short I2.out l) (by omega))).mono ?_
            rintro e w7 ⟨rfl, b7⟩
            rw [decide_eq_true EV.out.symm]
            have K7 := hide (K6.out.below b7)
            have GN7 : Hid (KnGoes w kb F M2 w7) := by
              refine KnGoes.step G1.out F1F.out ⟨F2, K7.out, fun k hk => (G4.out k hk).imp id (fun h => by omega), (FR3.out.trans F4.out).trans' (F6.out.trans (Fr.of_below b7)) (fun k hk h => ?_)⟩
              rcases G4.out k h with q | q
              · exact q
              · omega
            clear b7
            go_wp2_with fail
            have HA2 := hide (heard_any K7.out hl)
            rw [← EH.out, HH.out] at HA2
            refine HA2.out.mono ?_
            rintro e w8 ⟨rfl, b8⟩
            have GN8 : Hid (KnGoes w kb F M2 w8) := by
              obtain ⟨F9, q1, q2, q3⟩ := GN7.out
              exact ⟨F9, q1.below b8, q2, q3.trans (Fr.of_below b8)⟩
            clear b8 HA2
            go_wp2_with fail
            exact ⟨⟨j + 1, M2, by omega, by go_num, GN8.out, AL.out.trans A2.out, T2.out⟩, by simp [intOf] <;> omega⟩
    · have hji : ¬ (j : Int) < (n : Int) := by omega
      go_wp2_with fail
      go_ret2
      exact ⟨false, M1, rfl, GO.out, fun _ => ⟨AL.out, TI.out⟩⟩

end Go.Proofs.Ytloppmepfkkblaa
end
