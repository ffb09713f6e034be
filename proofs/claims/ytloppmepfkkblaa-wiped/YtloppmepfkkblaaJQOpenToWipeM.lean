/- What comes in to the keep's statements: numbers, opened. -/
import Derived.Test.YtloppmepfkkblaaRows
import Derived.ProofKit
import Derived.OpenShut
import Derived.SizedLaws
import Derived.ChangeOld
import Derived.Deep.Slices
import Derived.Deep.Strs
import Derived.StillTailTactics
import Derived.Test.YtloppmepfkkblaaJQBase
import Derived.Test.YtloppmepfkkblaaJKView
import Derived.Test.YtloppmepfkkblaaJMKeepsToViewM
import Derived.Test.YtloppmepfkkblaaJBaseToTreeKeeps

section
open Go Go.Proofs Go.RowKit Go.ChangeShapes Go.WideShapes Go.ChangeAt
namespace Go.Proofs.Ytloppmepfkkblaa

theorem own_knob : ownKnob Try.prog.godebug = none := by kernel_rfl
theorem laid_out : laidOutB Try.prog = true := by kernel_rfl

theorem cell_lt {w : World} {b n : Nat} {v : Value} (h : w.cell? ⟨b, n, none⟩ = some v) : b < w.heap.size := by
  rcases Nat.lt_or_ge b w.heap.size with h1 | h1
  · exact h1
  · exfalso
    simp [World.cell?, Array.getElem?_eq_none h1] at h

theorem weightsAll_mem {H : Type} {P : Program} {e : TypeId} : ∀ {l : List (DataW H)} {d : DataW H}, d ∈ l → ∀ n ∈ d.weights P e, n ∈ DataW.weightsAll P e l
  | d0 :: l, d, hd, n, hn => by
    simp only [DataW.weightsAll, List.mem_append]
    rcases List.mem_cons.1 hd with rfl | h
    · exact Or.inl hn
    · exact Or.inr (weightsAll_mem h n hn)
  | [], _, hd, _, _ => by simp at hd

theorem bytes_int : Try.prog.bytesOf 3 = 8 := by kernel_rfl
theorem cells_int : Try.prog.cellsOf 3 = 1 := by kernel_rfl
theorem cells_ints : Try.prog.cellsOf 29 = 1 := by kernel_rfl
section
variable {H : Type} {enc : TypeId × Value → H} {W : World}

/-- A step's arguments. -/
theorem args_open {fuel : Nat} {v : Value} {x : DataW H × List MemPlace} (h : DataW.trod enc Try.prog W 0 (fun _ => true) true fuel 29 [v] = some x) (hw : ∀ n ∈ x.1.weights Try.prog 29, n ≤ reachBytes) :
    ArgsV W (fun k => W.heap.size ≤ k) v := by
  rcases open_ints Try.underlying29 Try.underlying3 cells_int h with ⟨hcs, _⟩ | ⟨a, len, cap, zs, hcs, _, hl, hm, hz, hx, hcell, hwz⟩
  · simp at hcs
    exact Or.inl hcs
  · simp at hcs hz
    subst hcs
    refine Or.inr ⟨a, zs.take len, cap, by simp; omega, ?_, ?_, fun y hy => bounds_i64 (hwz y (List.mem_of_mem_take hy))⟩
    · have := hw (((lits .i64 (zs.take len) : List (DataW H)).length + (lits .i64 (zs.drop len) : List (DataW H)).length) * Try.prog.bytesOf 3) (by rw [hx]; simp [DataW.weights, Try.underlying29])
      rw [bytes_int] at this
      simp [lits, reachBytes] at this
      simp
      omega
    · by_cases h0 : len = 0
      · subst h0; exact Or.inl rfl
      · obtain ⟨b, off, rfl, hc⟩ := ints_at hcell (by omega)
        refine Or.inr ⟨b, off, rfl, ⟨cell_lt (hc 0 (by omega)), fun i y hy => ?_⟩, fun h => ?_⟩
        · have hi : i < len := by
            have := (List.getElem?_eq_some_iff.1 hy).1
            simp at this; omega
          rw [hc i (by omega)]
          rw [List.getElem?_take_of_lt hi] at hy
          rw [List.getD_eq_getElem?_getD, hy]; rfl
        · have := cell_lt (hc 0 (by omega))
          omega

end

end Go.Proofs.Ytloppmepfkkblaa
end

section
/- The keep's 'played', 'same'; a kernel's view. -/
open Go Go.Proofs Go.RowKit
namespace Go.Proofs.Ytloppmepfkkblaa

/-- A call: a tick or a trap. -/
def MS.call (M : MS) (c : Int × List Int) : MS := if c.1 = -1 then M.tick else (M.trap c.1 c.2).2
def MS.plays (M : MS) (cs : List (Int × List Int)) : MS := cs.foldl MS.call M
theorem MS.plays_take {M : MS} {cs : List (Int × List Int)} {k : Nat} {c : Int × List Int} (h : cs[k]? = some c) : M.plays (cs.take (k + 1)) = (M.plays (cs.take k)).call c := by
  unfold MS.plays
  rw [List.take_add_one, h, List.foldl_append]
  rfl

/-- A trap's arguments, as they lie. -/
def ArgV (w : World) (v : Value) (xs : List Int) : Prop := (v = .slice none 0 0 ∧ xs = []) ∨ ∃ la cap, v = .slice (some la) xs.length cap ∧ (xs = [] ∨ ∃ lb lo, la = ⟨lb, lo, none⟩ ∧ Arg w lb lo xs) ∧ Fits xs
theorem ArgV.later {w w' : World} {v : Value} {xs : List Int} (h : ArgV w v xs) (hb : Below w.heap.size w w') : ArgV w' v xs := by
  rcases h with h | ⟨la, cap, h1, h2, h3⟩
  · exact Or.inl h
  · refine Or.inr ⟨la, cap, h1, h2.imp id (fun ⟨lb, lo, e, ha⟩ => ⟨lb, lo, e, ha.below hb ha.lt⟩), h3⟩
theorem ArgV.form {w : World} {v : Value} {xs : List Int} (h : ArgV w v xs) : ∃ a n c, v = .slice a n c := by
  rcases h with ⟨h, _⟩ | ⟨la, cap, h, _⟩
  · exact ⟨_, _, _, h⟩
  · exact ⟨_, _, _, h⟩

/-- Calls, as they lie. -/
def CallsAt (w : World) (sa : Option Addr) (cs : List (Int × List Int)) : Prop :=
  cs = [] ∨ ∃ sb so, sa = some ⟨sb, so, none⟩ ∧ sb < w.heap.size ∧ ∀ i c, cs[i]? = some c → ∃ v, w.cell? ⟨sb, so + i * 2, none⟩ = some (.int .i64 c.1) ∧ w.cell? ⟨sb, so + i * 2 + 1, none⟩ = some v ∧ ArgV w v c.2

section
variable {w w' : World} {kb : Nat} {F : Nat → Prop} {M : MS}

theorem kn_trapV (h : Kn w kb F M) (n : Int) {v : Value} {xs : List Int} (ha : ArgV w v xs) :
    Calls Try.prog 19 #[.pointer (some ⟨kb, 0, none⟩), .int .i64 n, v] w fun e w' => e = .returned (M.out n xs) ∧ KnGoes w kb F (M.trap n xs).2 w' := by
  rcases ha with ⟨rfl, rfl⟩ | ⟨la, cap, rfl, h2, h3⟩
  · exact kn_trap h n [] none 0 (fun x hx => by cases hx) (Or.inl rfl)
  · exact kn_trap h n xs (some la) cap h3 (h2.imp id (fun ⟨lb, lo, e, ha⟩ => ⟨lb, lo, by rw [e], ha⟩))

theorem kn_view (h : Kn w kb F M) (lab : Int) :
    Calls Try.prog 12 #[.pointer (some ⟨kb, 0, none⟩), .int .i64 lab] w fun e w' => ∃ v, e = .returned v ∧ Outs w' w.heap.size v (viewM M lab) ∧ Kn w' kb F M ∧ Fr F w w' := by
  obtain ⟨ob, cb, qp, h1, h2, h3⟩ := h
  refine (p_view h1 h2 lab).mono ?_
  rintro e w' ⟨v, rfl, g1, g2, g3⟩
  exact ⟨v, rfl, g1, ⟨ob, cb, qp, g2, h2, h3⟩, g3.mono (fun k _ hk => (h3 k).1 hk)⟩

/-- Its blocks are new since B; all ahead of B is as it was in w0. -/
theorem KnGoes.since {w0 : World} {M' : MS} {B : Nat} (hF : ∀ k, F k → B ≤ k) (hB : B ≤ w.heap.size) (hb : Below B w0 w) (h : KnGoes w kb F M' w') : ∃ F', Kn w' kb F' M' ∧ (∀ k, F' k → B ≤ k) ∧ Below B w0 w' := by
  obtain ⟨F', g1, g2, g3⟩ := h
  exact ⟨F', g1, fun k hk => (g2 k hk).elim (hF k) (fun h => by omega), hb.trans (Fr.below_lo g3 hF hB)⟩
end

set_option maxRecDepth 100000 in
set_option maxHeartbeats 4000000 in
theorem played_any (w : World) (sa : Option Addr) (n cap : Nat) (cs : List (Int × List Int)) (hn : cs.length = n) (hn4 : n ≤ 17592186043904) (hs : CallsAt w sa cs) :
    Calls Try.prog 17 #[.slice sa n cap] w fun e w' => ∃ kb F, e = .returned (.pointer (some ⟨kb, 0, none⟩)) ∧ Kn w' kb F (MS.boot.plays cs) ∧ (∀ k, F k → w.heap.size ≤ k) ∧ Below w.heap.size w w' := by
  have HS := hide hs
  have HB := hide (booted_any w)
  clear hs
  go_enter Try.func17, Try.ntmps17
  go_wp2_with fail
  refine HB.out.mono ?_
  clear HB
  rintro e w1 ⟨kb, F1, rfl, k1, f1, b1⟩
  have K1 := hide k1
  have HF1 := hide f1
  have B1 := hide b1
  clear k1 f1 b1
  go_wp2_with fail
  go_loopw [4] (fun i w' => ∃ (k : Nat) (F : Nat → Prop), k ≤ n ∧ i = .int .i64 k ∧ Kn w' kb F (MS.boot.plays (cs.take k)) ∧ (∀ k, F k → w.heap.size ≤ k) ∧ Below w.heap.size w w') (fun i _ => n - (intOf i).toNat)
  case atStart => exact ⟨0, F1, by omega, rfl, K1.out, HF1.out, B1.out⟩
  case round =>
    obtain ⟨k, F2, hk, rfl, k2, f2, b2⟩ := hrel
    clear K1 HF1 B1
    have K2 := hide k2
    have HF2 := hide f2
    have B2 := hide b2
    have hsz := b2.size
    by_cases hkn : k < n
    · have hki : (k : Int) < (n : Int) := by omega
      obtain ⟨c, hc⟩ : ∃ c, cs[k]? = some c := ⟨_, List.getElem?_eq_getElem (by omega)⟩
      obtain ⟨sb, so, hsa, hsb, hcs⟩ := HS.out.resolve_left (fun e => by rw [e] at hc; simp at hc)
      subst hsa
      obtain ⟨v, c0, c1, ha⟩ := hcs k c hc
      have d0 := (cell_same (b2.block sb hsb) _).trans c0
      have d1 := (cell_same (b2.block sb hsb) _).trans c1
      have hsb' : sb < wr.heap.size := by omega
      have EP := hide (MS.plays_take (M := MS.boot) hc)
      have HA := hide (ha.later b2)
      obtain ⟨va, vn, vc, hv⟩ := ha.form
      subst hv
      clear k2 f2 b2 c0 c1 ha hcs hc
      by_cases ht : c.1 = -1
      · have ec : Hid ((MS.boot.plays (cs.take k)).call c = (MS.boot.plays (cs.take k)).tick) := if_pos ht
        rw [ht] at d0
        clear ht
        go_wp2_with fail
        refine (kn_tick K2.out).mono ?_
        rintro e w4 ⟨rfl, h4⟩
        have H4 := hide (h4.since HF2.out hsz B2.out)
        clear h4
        go_wp2_with fail
        obtain ⟨F4, g1, g2, g3⟩ := H4.out
        exact ⟨⟨k + 1, F4, by omega, by go_num, by rw [EP.out, ec.out]; exact g1, g2, g3⟩, by simp [intOf]; omega⟩
      · have ec : Hid ((MS.boot.plays (cs.take k)).call c = ((MS.boot.plays (cs.take k)).trap c.1 c.2).2) := if_neg ht
        go_wp2_with fail
        go_still_tail 11, (by kernel_rfl)
        go_wp2_with fail
        have hd : Below wr.heap.size wr wr.drew := (Below.refl _ _).drew
        refine (kn_trapV (K2.out.below hd) c.1 (HA.out.later hd)).mono ?_
        rintro e w4 ⟨rfl, h4⟩
        have H4 := hide (h4.since HF2.out (by have := hd.size; omega) (B2.out.trans (hd.mono hsz)))
        clear h4 hd
        generalize (MS.boot.plays (cs.take k)).out c.1 c.2 = ov
        go_wp2_with fail
        obtain ⟨F4, g1, g2, g3⟩ := H4.out
        exact ⟨⟨k + 1, F4, by omega, by go_num, by rw [EP.out, ec.out]; exact g1, g2, g3⟩, by simp [intOf]; omega⟩
    · have : k = n := by omega
      subst this
      clear k2 f2 b2
      have ef : cs.take k = cs := List.take_of_length_le (by omega)
      rw [ef] at K2
      go_wp2_with fail
      go_ret
      exact ⟨kb, F2, rfl, K2.out, HF2.out, B2.out⟩

/-- Is one row the other? -/
theorem take_ne {xs ys : List Int} {j : Nat} {x y : Int} (hx : xs[j]? = some x) (hy : ys[j]? = some y) (h : x ≠ y) : xs ≠ ys := fun e => h (by rw [e, hy] at hx; injection hx with hx; exact hx.symm)

set_option maxRecDepth 100000 in
set_option maxHeartbeats 4000000 in
theorem same_any (w : World) (Bx By : Nat) (vx vy : Value) (xs ys : List Int) (hx : Outs w Bx vx xs) (hy : Outs w By vy ys) (hl : xs.length ≤ 1000000) :
    Calls Try.prog 11 #[vx, vy] w fun e w' => e = .returned (.bool (decide (xs = ys))) ∧ Below w.heap.size w w' := by
  obtain ⟨xa, xc, rfl⟩ := hx.form'
  obtain ⟨ya, yc, rfl⟩ := hy.form'
  have AX := hide hx.arg
  have AY := hide hy.arg
  clear hx hy
  by_cases hlen : xs.length = ys.length
  · rw [← hlen]
    have HLEN := hide hlen
    clear hlen
    go_enter Try.func11, Try.ntmps11
    go_wp2_with fail
    go_loopw [5] (fun i w' => ∃ k : Nat, k ≤ xs.length ∧ i = .int .i64 k ∧ xs.take k = ys.take k ∧ Below w.heap.size w w') (fun i _ => xs.length - (intOf i).toNat)
    case atStart => exact ⟨0, by omega, rfl, rfl, Below.refl _ _⟩
    case round =>
      obtain ⟨k, hk, rfl, heq, hb⟩ := hrel
      have HB := hide hb
      have HEQ := hide heq
      clear heq
      by_cases hkn : k < xs.length
      · have hki : (k : Int) < (xs.length : Int) := by omega
        obtain ⟨x, hx⟩ : ∃ x, xs[k]? = some x := ⟨_, List.getElem?_eq_getElem hkn⟩
        obtain ⟨y, hy⟩ : ∃ y, ys[k]? = some y := ⟨_, List.getElem?_eq_getElem (by have := HLEN.out; omega)⟩
        obtain ⟨gx, cx, ex, _, ax⟩ := AX.out.resolve_left (fun e => by rw [e] at hx; simp at hx)
        obtain ⟨gy, cy, ey, _, ay⟩ := AY.out.resolve_left (fun e => by rw [e] at hy; simp at hy)
        injection ex with ex _ ecx
        injection ey with ey _ ecy
        subst ex ey ecx ecy
        have d0 := (cell_same (hb.block gx ax.lt) _).trans (ax.cell k x hx)
        have d1 := (cell_same (hb.block gy ay.lt) _).trans (ay.cell k y hy)
        rw [Nat.zero_add] at d0 d1
        have l0 := ax.lt
        have l1 := ay.lt
        have hz := hb.size
        have l2 : gx < wr.heap.size := by omega
        have l3 : gy < wr.heap.size := by omega
        have HX := hide hx
        have HY := hide hy
        clear ax ay hb hx hy
        by_cases hxy : x = y
        · subst hxy
          have EQ1 : Hid (xs.take (k + 1) = ys.take (k + 1)) := by
            unfold Hid
            rw [List.take_add_one, List.take_add_one, HX.out, HY.out, HEQ.out]
          go_wp2_with fail
          go_still (by kernel_rfl)
          go_wp2_with fail
          exact ⟨⟨k + 1, by omega, by go_num, EQ1.out, HB.out.drew⟩, by simp [intOf]; omega⟩
        · have NE := hide (take_ne HX.out HY.out hxy)
          go_wp2_with fail
          go_still (by kernel_rfl)
          go_wp2_with fail
          go_ret
          exact ⟨by rw [decide_eq_false NE.out]; rfl, HB.out.drew⟩
      · have : k = xs.length := by omega
        subst this
        have E := HEQ.out
        rw [List.take_length, HLEN.out, List.take_length] at E
        have HE := hide E
        clear E hb
        go_wp2_with fail
        go_ret
        exact ⟨by rw [decide_eq_true HE.out]; rfl, HB.out⟩
  · have hne : xs ≠ ys := fun e => hlen (by rw [e])
    have HNE := hide hne
    have hli : ¬ ((xs.length : Int) = (ys.length : Int)) := by omega
    clear hne
    go_enter Try.func11, Try.ntmps11
    go_wp2_with fail
    go_ret
    exact ⟨by rw [decide_eq_false HNE.out]; rfl, Below.refl _ _⟩

end Go.Proofs.Ytloppmepfkkblaa
end

section
/- What comes in to the keep's statements: calls, opened at every index. -/
open Go Go.Proofs Go.RowKit Go.ChangeShapes Go.WideShapes Go.ChangeAt
namespace Go.Proofs.Ytloppmepfkkblaa

theorem bytes_call : Try.prog.bytesOf 39 = 32 := by kernel_rfl
theorem cells_call : Try.prog.cellsOf 39 = 2 := by kernel_rfl

theorem ArgsV.argV {w : World} {F : Nat → Prop} {v : Value} (h : ArgsV w F v) : ∃ xs, ArgV w v xs := by
  rcases h with rfl | ⟨la, xs, cap, rfl, h⟩
  · exact ⟨[], Or.inl ⟨rfl, rfl⟩⟩
  · exact ⟨xs, Or.inr ⟨la, cap, rfl, h.at'.imp id (fun ⟨lb, lo, e, ha, _⟩ => ⟨lb, lo, e, ha⟩), h.wf⟩⟩

theorem calls_of {W : World} {b off n : Nat} (hb : b < W.heap.size) (h : ∀ i, i < n → ∃ (c : Int × List Int) (v : Value), W.cell? ⟨b, off + i * 2, none⟩ = some (.int .i64 c.1) ∧ W.cell? ⟨b, off + i * 2 + 1, none⟩ = some v ∧ ArgV W v c.2) : ∃ cs : List (Int × List Int), cs.length = n ∧ CallsAt W (some ⟨b, off, none⟩) cs := by
  have hc : ∀ i, ∃ c : Int × List Int, i < n → ∃ v, W.cell? ⟨b, off + i * 2, none⟩ = some (.int .i64 c.1) ∧ W.cell? ⟨b, off + i * 2 + 1, none⟩ = some v ∧ ArgV W v c.2 := fun i => by
    by_cases hi : i < n
    · obtain ⟨c, v, h1⟩ := h i hi
      exact ⟨c, fun _ => ⟨v, h1⟩⟩
    · exact ⟨(0, []), fun h => absurd h hi⟩
  refine ⟨(List.range n).map (fun i => Classical.choose (hc i)), by simp, Or.inr ⟨b, off, rfl, hb, fun i c hi => ?_⟩⟩
  rw [List.getElem?_map] at hi
  have hin : i < n := by
    rcases Nat.lt_or_ge i n with h1 | h1
    · exact h1
    · rw [List.getElem?_eq_none (by simpa using h1)] at hi; cases hi
  rw [List.getElem?_range hin] at hi
  injection hi with hi
  subst hi
  exact Classical.choose_spec (hc i) hin

theorem trod_two {H : Type} {enc : TypeId × Value → H} {P : Program} {w : World} {base : Nat} {spare : Nat → Bool} {held : Bool} {t : TypeId} {f0 f1 : Field} {fuel : Nat} {cs : List Value} {x : DataW H × List MemPlace} (ht : P.underlying t = some (.struct #[f0, f1])) (h : DataW.trod enc P w base spare held fuel t cs = some x) :
    ∃ y0 y1 n, x = (.agg [y0.1, y1.1], y0.2 ++ y1.2) ∧ cs.length = P.cellsOf t ∧ DataW.trod enc P w base spare held n f0.type ((cs.drop f0.offset).take (P.cellsOf f0.type)) = some y0 ∧
      DataW.trod enc P w base spare held n f1.type ((cs.drop f1.offset).take (P.cellsOf f1.type)) = some y1 := by
  obtain ⟨xs, n, _, rfl, hl, hlen, hf⟩ := DataW.trod_struct ht h
  match xs, hlen with
  | [y0, y1], _ => exact ⟨y0, y1, n, by simp, hl, by simpa using hf 0 f0 rfl, by simpa using hf 1 f1 rfl⟩

section
variable {H : Type} {enc : TypeId × Value → H} {W : World}

set_option maxRecDepth 100000 in
theorem calls_open {fuel : Nat} {sa : Option Addr} {n cap : Nat} {x : DataW H × List MemPlace} (h : DataW.trod enc Try.prog W 0 (fun _ => true) true fuel 22 [.slice sa n cap] = some x) (hw : ∀ k ∈ x.1.weights Try.prog 22, k ≤ reachBytes) :
    ∃ cs : List (Int × List Int), cs.length = n ∧ n ≤ 17592186043904 ∧ CallsAt W sa cs := by
  rcases Deep.open_slice Try.underlying22 h with ⟨hcs, _⟩ | ⟨a, len, cap', m, k, D, Pl, hcs, _, hl, hm, hmm, hx, hel⟩
  · simp at hcs
    obtain ⟨rfl, rfl, rfl⟩ := hcs
    exact ⟨[], rfl, by omega, Or.inl rfl⟩
  · simp at hcs hmm
    obtain ⟨rfl, rfl, rfl⟩ := hcs
    subst hmm
    have hb := hw ((((List.range n).map D).length + ((List.range (m - n)).map fun j => D (n + j)).length) * Try.prog.bytesOf 39) (by rw [hx]; simp [DataW.weights, Try.underlying22])
    rw [bytes_call] at hb
    simp [reachBytes] at hb
    by_cases h0 : n = 0
    · subst h0
      exact ⟨[], rfl, by omega, Or.inl rfl⟩
    · have each : ∀ i, i < n → ∃ v0 v1 y0 y1 q, W.cell? (a.add (i * 2)) = some v0 ∧ W.cell? (a.add (i * 2 + 1)) = some v1 ∧
          DataW.trod enc Try.prog W 0 (fun _ => true) true q 3 [v0] = some y0 ∧ DataW.trod enc Try.prog W 0 (fun _ => true) true q 29 [v1] = some y1 ∧ D i = .agg [y0.1, y1.1] := by
        intro i hi
        obtain ⟨cs', g1, g2⟩ := hel i (by omega)
        rw [cells_call] at g1
        obtain ⟨_, hlen, hcell⟩ := World.cells?_some g1
        obtain ⟨y0, y1, q, hy, _, t0, t1⟩ := trod_two Try.underlying39 g2
        simp only [Prod.mk.injEq] at hy
        match cs', hlen with
        | [v0, v1], _ =>
          have e0 := hcell 0 (by omega)
          have e1 := hcell 1 (by omega)
          rw [Deep.add_add] at e0 e1
          simp [cells_int, cells_ints] at t0 t1
          exact ⟨v0, v1, y0, y1, q, by simpa using e0, by simpa using e1, t0, t1, hy.1⟩
      obtain ⟨b, off, spot⟩ := a
      have hspot : spot = none := by
        obtain ⟨v0, _, _, _, _, c0, _⟩ := each 0 (by omega)
        simpa [Addr.add] using World.cell?_spot c0
      subst hspot
      have hadd : ∀ j, (⟨b, off, none⟩ : Addr).add j = ⟨b, off + j, none⟩ := fun j => by rw [add_plain]
      have hbl : b < W.heap.size := by
        obtain ⟨v0, _, _, _, _, c0, _⟩ := each 0 (by omega)
        rw [hadd] at c0
        exact cell_lt c0
      obtain ⟨cs, h1, h2⟩ := calls_of (W := W) (b := b) (off := off) (n := n) hbl (fun i hi => by
        obtain ⟨v0, v1, y0, y1, q, c0, c1, t0, t1, hD⟩ := each i hi
        rw [hadd] at c0 c1
        obtain ⟨K, hK, _, wK⟩ := DataW.trod_int Try.underlying3 t0
        simp at hK
        subst hK
        obtain ⟨xs, hxs⟩ := (args_open t1 (fun k hk => hw k (by
          rw [hx]
          simp only [DataW.weights, Try.underlying22, List.mem_cons, List.mem_append]
          refine Or.inr (Or.inl (weightsAll_mem (d := D i) (List.mem_map.2 ⟨i, List.mem_range.2 hi, rfl⟩) k ?_))
          rw [hD]
          simp only [DataW.weights, Try.underlying39]
          exact DataW.weights_mem_each (ts := [3, 29]) (j := 1) rfl rfl k hk))).argV
        exact ⟨(K, xs), v1, c0, c1, hxs⟩)
      exact ⟨cs, h1, by omega, h2⟩
end

end Go.Proofs.Ytloppmepfkkblaa
end

section
/- 'Apart' gives true. -/
open Go Go.Proofs Go.RowKit
namespace Go.Proofs.Ytloppmepfkkblaa

/-- Four kernels apart from one another, in memory that is new since w0. -/
structure Ks (w0 w : World) (k0 k1 k2 k3 : Nat) (M0 M1 M2 M3 : MS) : Prop where
  all : ∃ F0 F1 F2 F3 : Nat → Prop, Kn w k0 F0 M0 ∧ Kn w k1 F1 M1 ∧ Kn w k2 F2 M2 ∧ Kn w k3 F3 M3 ∧ (∀ k, F0 k → ¬ F1 k ∧ ¬ F2 k ∧ ¬ F3 k) ∧ (∀ k, F1 k → ¬ F2 k ∧ ¬ F3 k) ∧ (∀ k, F2 k → ¬ F3 k) ∧ ∀ k, F0 k ∨ F1 k ∨ F2 k ∨ F3 k → w0.heap.size ≤ k
  old : Below w0.heap.size w0 w

section
variable {w0 w w' : World} {k0 k1 k2 k3 : Nat} {M0 M1 M2 M3 : MS}

theorem Ks.later (h : Ks w0 w k0 k1 k2 k3 M0 M1 M2 M3) (hb : Below w.heap.size w w') : Ks w0 w' k0 k1 k2 k3 M0 M1 M2 M3 := by
  obtain ⟨F0, F1, F2, F3, h0, h1, h2, h3, d⟩ := h.all
  exact ⟨⟨F0, F1, F2, F3, h0.below hb, h1.below hb, h2.below hb, h3.below hb, d⟩, h.old.trans (hb.mono h.old.size)⟩

theorem Ks.zero (h : Ks w0 w k0 k1 k2 k3 M0 M1 M2 M3) : ∃ F, Kn w k0 F M0 ∧ ∀ w' M', KnGoes w k0 F M' w' → Ks w0 w' k0 k1 k2 k3 M' M1 M2 M3 := by
  obtain ⟨F0, F1, F2, F3, h0, h1, h2, h3, d0, d1, d2, hF⟩ := h.all
  refine ⟨F0, h0, ?_⟩
  rintro w' M' ⟨F', g1, g2, g3⟩
  have hz := h.old.size
  refine ⟨⟨F', F1, F2, F3, g1, h1.fr g3 (fun k a b => (d0 k b).1 a), h2.fr g3 (fun k a b => (d0 k b).2.1 a), h3.fr g3 (fun k a b => (d0 k b).2.2 a), fun k hk => ?_, d1, d2, fun k hk => ?_⟩, h.old.trans (g3.below_lo (fun k hk => hF k (Or.inl hk)) hz)⟩
  · rcases g2 k hk with h | h
    · exact d0 k h
    · exact ⟨fun x => by have := h1.lt x; omega, fun x => by have := h2.lt x; omega, fun x => by have := h3.lt x; omega⟩
  · rcases hk with hk | hk
    · rcases g2 k hk with h | h
      · exact hF k (Or.inl h)
      · omega
    · exact hF k (Or.inr hk)

theorem Ks.swap (h : Ks w0 w k0 k1 k2 k3 M0 M1 M2 M3) : Ks w0 w k1 k0 k2 k3 M1 M0 M2 M3 := by
  obtain ⟨F0, F1, F2, F3, h0, h1, h2, h3, d0, d1, d2, hF⟩ := h.all
  exact ⟨⟨F1, F0, F2, F3, h1, h0, h2, h3, fun k hk => ⟨fun x => (d0 k x).1 hk, (d1 k hk).1, (d1 k hk).2⟩, fun k hk => ⟨(d0 k hk).2.1, (d0 k hk).2.2⟩, d2, fun k hk => hF k (by rcases hk with h | h | h | h <;> simp [h])⟩, h.old⟩
theorem Ks.swap2 (h : Ks w0 w k0 k1 k2 k3 M0 M1 M2 M3) : Ks w0 w k2 k1 k0 k3 M2 M1 M0 M3 := by
  obtain ⟨F0, F1, F2, F3, h0, h1, h2, h3, d0, d1, d2, hF⟩ := h.all
  exact ⟨⟨F2, F1, F0, F3, h2, h1, h0, h3, fun k hk => ⟨fun x => (d1 k x).1 hk, fun x => (d0 k x).2.1 hk, d2 k hk⟩, fun k hk => ⟨fun x => (d0 k x).1 hk, (d1 k hk).2⟩, fun k hk => (d0 k hk).2.2, fun k hk => hF k (by rcases hk with h | h | h | h <;> simp [h])⟩, h.old⟩
theorem Ks.swap3 (h : Ks w0 w k0 k1 k2 k3 M0 M1 M2 M3) : Ks w0 w k3 k1 k2 k0 M3 M1 M2 M0 := by
  obtain ⟨F0, F1, F2, F3, h0, h1, h2, h3, d0, d1, d2, hF⟩ := h.all
  exact ⟨⟨F3, F1, F2, F0, h3, h1, h2, h0, fun k hk => ⟨fun x => (d1 k x).2 hk, fun x => d2 k x hk, fun x => (d0 k x).2.2 hk⟩, fun k hk => ⟨(d1 k hk).1, fun x => (d0 k x).1 hk⟩, fun k hk x => (d0 k x).2.1 hk, fun k hk => hF k (by rcases hk with h | h | h | h <;> simp [h])⟩, h.old⟩

theorem Ks.step0 (h : Ks w0 w k0 k1 k2 k3 M0 M1 M2 M3) : ∃ F, Kn w k0 F M0 ∧ ∀ w' M', KnGoes w k0 F M' w' → Ks w0 w' k0 k1 k2 k3 M' M1 M2 M3 := h.zero
theorem Ks.step1 (h : Ks w0 w k0 k1 k2 k3 M0 M1 M2 M3) : ∃ F, Kn w k1 F M1 ∧ ∀ w' M', KnGoes w k1 F M' w' → Ks w0 w' k0 k1 k2 k3 M0 M' M2 M3 := by
  obtain ⟨F, h1, h2⟩ := h.swap.zero
  exact ⟨F, h1, fun w' M' g => (h2 w' M' g).swap⟩
theorem Ks.step2 (h : Ks w0 w k0 k1 k2 k3 M0 M1 M2 M3) : ∃ F, Kn w k2 F M2 ∧ ∀ w' M', KnGoes w k2 F M' w' → Ks w0 w' k0 k1 k2 k3 M0 M1 M' M3 := by
  obtain ⟨F, h1, h2⟩ := h.swap2.zero
  exact ⟨F, h1, fun w' M' g => (h2 w' M' g).swap2⟩
theorem Ks.step3 (h : Ks w0 w k0 k1 k2 k3 M0 M1 M2 M3) : ∃ F, Kn w k3 F M3 ∧ ∀ w' M', KnGoes w k3 F M' w' → Ks w0 w' k0 k1 k2 k3 M0 M1 M2 M' := by
  obtain ⟨F, h1, h2⟩ := h.swap3.zero
  exact ⟨F, h1, fun w' M' g => (h2 w' M' g).swap3⟩

theorem now_form (M : MS) : ∃ (nt : Int) (nl : Nat), M.now = nowV M.ph nt nl := by
  unfold MS.now
  cases M.cur with
  | none => exact ⟨-1, 0, rfl⟩
  | some s => exact ⟨s, _, rfl⟩

theorem plays_stop {M : MS} {cs : List (Int × List Int)} {k : Nat} (h : cs.length ≤ k) : M.plays (cs.take (k + 1)) = M.plays (cs.take k) := by
  rw [List.take_of_length_le h, List.take_of_length_le (by omega)]

theorem ks_start {w w1 w2 w3 w4 : World} {F0 F1 F2 F3 : Nat → Prop} (b1 : Below w.heap.size w w1) (b2 : Below w1.heap.size w1 w2) (b3 : Below w2.heap.size w2 w3) (b4 : Below w3.heap.size w3 w4)
    (h0 : Kn w1 k0 F0 M0) (h1 : Kn w2 k1 F1 M1) (h2 : Kn w3 k2 F2 M2) (h3 : Kn w4 k3 F3 M3) (f0 : ∀ k, F0 k → w.heap.size ≤ k) (f1 : ∀ k, F1 k → w1.heap.size ≤ k) (f2 : ∀ k, F2 k → w2.heap.size ≤ k) (f3 : ∀ k, F3 k → w3.heap.size ≤ k) : Ks w w4 k0 k1 k2 k3 M0 M1 M2 M3 := by
  have s1 := b1.size
  have s2 := b2.size
  have s3 := b3.size
  have s4 := b4.size
  have l0 := fun k (hk : F0 k) => h0.lt hk
  have l1 := fun k (hk : F1 k) => h1.lt hk
  have l2 := fun k (hk : F2 k) => h2.lt hk
  refine ⟨⟨F0, F1, F2, F3, ((h0.below b2).below b3).below b4, (h1.below b3).below b4, h2.below b4, h3, fun k hk => ⟨fun x => ?_, fun x => ?_, fun x => ?_⟩, fun k hk => ⟨fun x => ?_, fun x => ?_⟩, fun k hk x => ?_, fun k hk => ?_⟩, ((b1.trans (b2.mono s1)).trans (b3.mono (by omega))).trans (b4.mono (by omega))⟩
  · have := l0 k hk; have := f1 k x; omega
  · have := l0 k hk; have := f2 k x; omega
  · have := l0 k hk; have := f3 k x; omega
  · have := l1 k hk; have := f2 k x; omega
  · have := l1 k hk; have := f3 k x; omega
  · have := l2 k hk; have := f3 k x; omega
  · rcases hk with h | h | h | h
    · exact f0 k h
    · have := f1 k h; omega
    · have := f2 k h; omega
    · have := f3 k h; omega
end

/-- Four kernels, their blocks fixed. -/
structure V4 (w0 w : World) (k0 k1 k2 k3 : Nat) (F0 F1 F2 F3 : Nat → Prop) (M0 M1 M2 M3 : MS) : Prop where
  h0 : Kn w k0 F0 M0
  h1 : Kn w k1 F1 M1
  h2 : Kn w k2 F2 M2
  h3 : Kn w k3 F3 M3
  d0 : ∀ k, F0 k → ¬ F1 k ∧ ¬ F2 k ∧ ¬ F3 k
  d1 : ∀ k, F1 k → ¬ F2 k ∧ ¬ F3 k
  d2 : ∀ k, F2 k → ¬ F3 k
  lo : ∀ k, F0 k ∨ F1 k ∨ F2 k ∨ F3 k → w0.heap.size ≤ k
  old : Below w0.heap.size w0 w

section
variable {w0 w w' : World} {k0 k1 k2 k3 : Nat} {F0 F1 F2 F3 : Nat → Prop} {M0 M1 M2 M3 : MS}
theorem V4.later (h : V4 w0 w k0 k1 k2 k3 F0 F1 F2 F3 M0 M1 M2 M3) (hb : Below w.heap.size w w') : V4 w0 w' k0 k1 k2 k3 F0 F1 F2 F3 M0 M1 M2 M3 :=
  ⟨h.h0.below hb, h.h1.below hb, h.h2.below hb, h.h3.below hb, h.d0, h.d1, h.d2, h.lo, h.old.trans (hb.mono h.old.size)⟩
theorem V4.go0 (h : V4 w0 w k0 k1 k2 k3 F0 F1 F2 F3 M0 M1 M2 M3) (k : Kn w' k0 F0 M0) (f : Fr F0 w w') : V4 w0 w' k0 k1 k2 k3 F0 F1 F2 F3 M0 M1 M2 M3 :=
  ⟨k, h.h1.fr f (fun k a b => (h.d0 k b).1 a), h.h2.fr f (fun k a b => (h.d0 k b).2.1 a), h.h3.fr f (fun k a b => (h.d0 k b).2.2 a), h.d0, h.d1, h.d2, h.lo, h.old.trans (f.below_lo (fun k hk => h.lo k (Or.inl hk)) h.old.size)⟩
theorem V4.go1 (h : V4 w0 w k0 k1 k2 k3 F0 F1 F2 F3 M0 M1 M2 M3) (k : Kn w' k1 F1 M1) (f : Fr F1 w w') : V4 w0 w' k0 k1 k2 k3 F0 F1 F2 F3 M0 M1 M2 M3 :=
  ⟨h.h0.fr f (fun k a b => (h.d0 k a).1 b), k, h.h2.fr f (fun k a b => (h.d1 k b).1 a), h.h3.fr f (fun k a b => (h.d1 k b).2 a), h.d0, h.d1, h.d2, h.lo, h.old.trans (f.below_lo (fun k hk => h.lo k (Or.inr (Or.inl hk))) h.old.size)⟩
theorem V4.go2 (h : V4 w0 w k0 k1 k2 k3 F0 F1 F2 F3 M0 M1 M2 M3) (k : Kn w' k2 F2 M2) (f : Fr F2 w w') : V4 w0 w' k0 k1 k2 k3 F0 F1 F2 F3 M0 M1 M2 M3 :=
  ⟨h.h0.fr f (fun k a b => (h.d0 k a).2.1 b), h.h1.fr f (fun k a b => (h.d1 k a).1 b), k, h.h3.fr f (fun k a b => h.d2 k b a), h.d0, h.d1, h.d2, h.lo, h.old.trans (f.below_lo (fun k hk => h.lo k (Or.inr (Or.inr (Or.inl hk)))) h.old.size)⟩
theorem V4.go3 (h : V4 w0 w k0 k1 k2 k3 F0 F1 F2 F3 M0 M1 M2 M3) (k : Kn w' k3 F3 M3) (f : Fr F3 w w') : V4 w0 w' k0 k1 k2 k3 F0 F1 F2 F3 M0 M1 M2 M3 :=
  ⟨h.h0.fr f (fun k a b => (h.d0 k a).2.2 b), h.h1.fr f (fun k a b => (h.d1 k a).2 b), h.h2.fr f (fun k a b => h.d2 k a b), k, h.d0, h.d1, h.d2, h.lo, h.old.trans (f.below_lo (fun k hk => h.lo k (Or.inr (Or.inr (Or.inr hk)))) h.old.size)⟩
end
theorem KnGoes.from {w w1 w' : World} {kb : Nat} {F : Nat → Prop} {M' : MS} (h : KnGoes w1 kb F M' w') (hb : Below w.heap.size w w1) : KnGoes w kb F M' w' := by
  obtain ⟨F', h1, h2, h3⟩ := h
  exact ⟨F', h1, fun k hk => (h2 k hk).imp id (fun h => Nat.le_trans hb.size h), ((Fr.of_below hb : Fr (fun _ => False) w w1).mono (fun _ _ h => h.elim)).trans h3⟩
theorem CallsAt.later {w w' : World} {sa : Option Addr} {cs : List (Int × List Int)} (h : CallsAt w sa cs) (hb : Below w.heap.size w w') : CallsAt w' sa cs := by
  rcases h with h | ⟨sb, so, h1, h2, h3⟩
  · exact Or.inl h
  · refine Or.inr ⟨sb, so, h1, Nat.lt_of_lt_of_le h2 hb.size, fun i c hc => ?_⟩
    obtain ⟨v, c0, c1, ha⟩ := h3 i c hc
    exact ⟨v, (cell_same (hb.block sb h2) _).trans c0, (cell_same (hb.block sb h2) _).trans c1, ha.later hb⟩

/-- A call that stands at place k of a script, in later memory. -/
theorem CallsAt.get {w w' : World} {sa : Option Addr} {cs : List (Int × List Int)} {k : Nat} (h : CallsAt w sa cs) (hk : k < cs.length) (hb : Below w.heap.size w w') :
    ∃ sb so c v, sa = some ⟨sb, so, none⟩ ∧ sb < w.heap.size ∧ cs[k]? = some c ∧ w'.cell? ⟨sb, so + k * 2, none⟩ = some (.int .i64 c.1) ∧ w'.cell? ⟨sb, so + k * 2 + 1, none⟩ = some v ∧ ArgV w' v c.2 := by
  obtain ⟨c, hc⟩ : ∃ c, cs[k]? = some c := ⟨_, List.getElem?_eq_getElem hk⟩
  obtain ⟨sb, so, hsa, hsb, hcs⟩ := h.resolve_left (fun e => by rw [e] at hc; simp at hc)
  obtain ⟨v, c0, c1, ha⟩ := hcs k c hc
  exact ⟨sb, so, c, v, hsa, hsb, hc, (cell_same (hb.block sb hsb) _).trans c0, (cell_same (hb.block sb hsb) _).trans c1, ha.later hb⟩

set_option maxRecDepth 100000 in
set_option maxHeartbeats 16000000 in
theorem apart_walk (w : World) (s1 s2 : Option Addr) (n1 n2 p1 p2 : Nat) (c1 c2 : List (Int × List Int)) (e1 : c1.length = n1) (e2 : c2.length = n2) (m1 : n1 ≤ 17592186043904) (m2 : n2 ≤ 17592186043904) (h1 : CallsAt w s1 c1) (h2 : CallsAt w s2 c2) :
    Calls Try.prog 8 #[.slice s1 n1 p1, .slice s2 n2 p2] w fun e w' => e = .returned (.bool true) ∧ Below w.heap.size w w' := by
  have CA1 := hide h1
  have CA2 := hide h2
  have E1 := hide e1
  have E2 := hide e2
  clear h1 h2 e1 e2
  go_enter Try.func8, Try.ntmps8
  go_wp2_with fail
  refine (booted_any w).mono ?_
  rintro e w1 ⟨k0, F0, rfl, a0, f0, b0⟩
  have A0 := hide a0
  have HF0 := hide f0
  have B0 := hide b0
  clear a0 f0 b0
  go_wp2_with fail
  refine (booted_any w1).mono ?_
  rintro e w2 ⟨k1, F1, rfl, a1, f1, b1⟩
  have A1 := hide a1
  have HF1 := hide f1
  have B1 := hide b1
  clear a1 f1 b1
  go_wp2_with fail
  have PL1 := hide (played_any w2 s1 n1 p1 c1 E1.out m1 (CA1.out.later (B0.out.trans (B1.out.mono B0.out.size))))
  refine PL1.out.mono ?_
  clear PL1
  rintro e w3 ⟨k2, F2, rfl, a2, f2, b2⟩
  have A2 := hide a2
  have HF2 := hide f2
  have B2 := hide b2
  clear a2 f2 b2
  go_wp2_with fail
  have PL2 := hide (played_any w3 s2 n2 p2 c2 E2.out m2 (CA2.out.later ((B0.out.trans (B1.out.mono B0.out.size)).trans (B2.out.mono (Nat.le_trans B0.out.size B1.out.size)))))
  refine PL2.out.mono ?_
  clear PL2
  rintro e w4 ⟨k3, F3, rfl, a3, f3, b3⟩
  have KS := hide (ks_start B0.out B1.out B2.out b3 A0.out A1.out A2.out a3 HF0.out HF1.out HF2.out f3)
  clear a3 f3 b3 A0 A1 A2 HF0 HF1 HF2 B0 B1 B2
  go_wp2_with fail
  go_loopw [9] (fun i w' => ∃ t : Nat, i = .int .i64 t ∧ (t ≤ n1 ∨ t ≤ n2) ∧ Ks w w' k0 k1 k2 k3 (MS.boot.plays (c1.take t)) (MS.boot.plays (c2.take t)) (MS.boot.plays c1) (MS.boot.plays c2)) (fun i _ => n1 + n2 - (intOf i).toNat)
  case atStart => exact ⟨0, rfl, by omega, KS.out⟩
  case round =>
    obtain ⟨t, rfl, ht, ks⟩ := hrel
    clear KS
    have KS := hide ks
    have hz := ks.old.size
    clear ks
    have ht4 : t ≤ 17592186043904 := by omega
    by_cases t1 : t < n1
    · have t1i : (t : Int) < (n1 : Int) := by omega
      obtain ⟨sb1, so1, d1, v1, hsa1, hsb1, hc1, q10, q11, av1⟩ := CA1.out.get (k := t) (by have := E1.out; omega) KS.out.old
      have AV1 := hide av1
      obtain ⟨va1, vn1, vc1, hv1⟩ := av1.form
      subst hv1
      subst hsa1
      have EP1 := hide (MS.plays_take (M := MS.boot) hc1)
      have hl1 : sb1 < wr.heap.size := by have := KS.out.old.size; omega
      obtain ⟨Fa1, ka1, go1⟩ := KS.out.step0
      have Ka1 := hide ka1
      have Go1 := hide go1
      clear av1 ka1 go1 hc1
      by_cases dt1 : d1.1 = -1
      · have ec : (MS.boot.plays (c1.take t)).call d1 = (MS.boot.plays (c1.take t)).tick := if_pos dt1
        rw [ec] at EP1
        rw [dt1] at q10
        clear ec dt1
        go_wp2_with fail
        refine (kn_tick Ka1.out).mono ?_
        rintro e w6 ⟨rfl, g⟩
        have KS6 := hide (Go1.out w6 _ g)
        have hz1 := KS6.out.old.size
        clear g KS Ka1 Go1
        by_cases t2 : t < n2
        · have t2i : (t : Int) < (n2 : Int) := by omega
          obtain ⟨sb2, so2, d2, v2, hsa2, hsb2, hc2, q20, q21, av2⟩ := CA2.out.get (k := t) (by have := E2.out; omega) KS6.out.old
          have AV2 := hide av2
          obtain ⟨va2, vn2, vc2, hv2⟩ := av2.form
          subst hv2
          subst hsa2
          have EP2 := hide (MS.plays_take (M := MS.boot) hc2)
          have hl2 : sb2 < w6.heap.size := by have := KS6.out.old.size; omega
          obtain ⟨Fa2, ka2, go2⟩ := KS6.out.step1
          have Ka2 := hide ka2
          have Go2 := hide go2
          clear av2 ka2 go2 hc2
          by_cases dt2 : d2.1 = -1
          · have ec : (MS.boot.plays (c2.take t)).call d2 = (MS.boot.plays (c2.take t)).tick := if_pos dt2
            rw [ec] at EP2
            rw [dt2] at q20
            clear ec dt2
            go_wp2_with fail
            refine (kn_tick Ka2.out).mono ?_
            rintro e w7 ⟨rfl, g⟩
            have KS7 := hide (Go2.out w7 _ g)
            have hz2 := KS7.out.old.size
            clear g KS6 Ka2 Go2
            go_wp2_with fail
            exact ⟨⟨t + 1, by go_num, by omega, by rw [EP1.out, EP2.out]; exact KS7.out⟩, by simp [intOf]; omega⟩
          · have ec : (MS.boot.plays (c2.take t)).call d2 = ((MS.boot.plays (c2.take t)).trap d2.1 d2.2).2 := if_neg dt2
            rw [ec] at EP2
            clear ec
            go_wp2_with fail
            go_still_tail 11, (by kernel_rfl)
            go_wp2_with fail
            refine (kn_trapV (Ka2.out.below (Below.refl _ _).drew) d2.1 (AV2.out.later (Below.refl _ _).drew)).mono ?_
            rintro e w7 ⟨rfl, g⟩
            have KS7 := hide (Go2.out w7 _ (g.from (Below.refl _ _).drew))
            have hz2 := KS7.out.old.size
            clear g KS6 Ka2 Go2
            generalize MS.out _ d2.1 d2.2 = ov2
            go_wp2_with fail
            exact ⟨⟨t + 1, by go_num, by omega, by rw [EP1.out, EP2.out]; exact KS7.out⟩, by simp [intOf]; omega⟩
        · have t2i : ¬ (t : Int) < (n2 : Int) := by omega
          have EP2 := hide (plays_stop (M := MS.boot) (cs := c2) (k := t) (by have := E2.out; omega))
          go_wp2_with fail
          exact ⟨⟨t + 1, by go_num, by omega, by rw [EP1.out, EP2.out]; exact KS6.out⟩, by simp [intOf]; omega⟩
      · have ec : (MS.boot.plays (c1.take t)).call d1 = ((MS.boot.plays (c1.take t)).trap d1.1 d1.2).2 := if_neg dt1
        rw [ec] at EP1
        clear ec
        go_wp2_with fail
        go_still_tail 11, (by kernel_rfl)
        go_wp2_with fail
        refine (kn_trapV (Ka1.out.below (Below.refl _ _).drew) d1.1 (AV1.out.later (Below.refl _ _).drew)).mono ?_
        rintro e w6 ⟨rfl, g⟩
        have KS6 := hide (Go1.out w6 _ (g.from (Below.refl _ _).drew))
        have hz1 := KS6.out.old.size
        clear g KS Ka1 Go1
        generalize MS.out _ d1.1 d1.2 = ov1
        by_cases t2 : t < n2
        · have t2i : (t : Int) < (n2 : Int) := by omega
          obtain ⟨sb2, so2, d2, v2, hsa2, hsb2, hc2, q20, q21, av2⟩ := CA2.out.get (k := t) (by have := E2.out; omega) KS6.out.old
          have AV2 := hide av2
          obtain ⟨va2, vn2, vc2, hv2⟩ := av2.form
          subst hv2
          subst hsa2
          have EP2 := hide (MS.plays_take (M := MS.boot) hc2)
          have hl2 : sb2 < w6.heap.size := by have := KS6.out.old.size; omega
          obtain ⟨Fa2, ka2, go2⟩ := KS6.out.step1
          have Ka2 := hide ka2
          have Go2 := hide go2
          clear av2 ka2 go2 hc2
          by_cases dt2 : d2.1 = -1
          · have ec : (MS.boot.plays (c2.take t)).call d2 = (MS.boot.plays (c2.take t)).tick := if_pos dt2
            rw [ec] at EP2
            rw [dt2] at q20
            clear ec dt2
            go_wp2_with fail
            refine (kn_tick Ka2.out).mono ?_
            rintro e w7 ⟨rfl, g⟩
            have KS7 := hide (Go2.out w7 _ g)
            have hz2 := KS7.out.old.size
            clear g KS6 Ka2 Go2
            go_wp2_with fail
            exact ⟨⟨t + 1, by go_num, by omega, by rw [EP1.out, EP2.out]; exact KS7.out⟩, by simp [intOf]; omega⟩
          · have ec : (MS.boot.plays (c2.take t)).call d2 = ((MS.boot.plays (c2.take t)).trap d2.1 d2.2).2 := if_neg dt2
            rw [ec] at EP2
            clear ec
            go_wp2_with fail
            go_still_tail 11, (by kernel_rfl)
            go_wp2_with fail
            refine (kn_trapV (Ka2.out.below (Below.refl _ _).drew) d2.1 (AV2.out.later (Below.refl _ _).drew)).mono ?_
            rintro e w7 ⟨rfl, g⟩
            have KS7 := hide (Go2.out w7 _ (g.from (Below.refl _ _).drew))
            have hz2 := KS7.out.old.size
            clear g KS6 Ka2 Go2
            generalize MS.out _ d2.1 d2.2 = ov2
            go_wp2_with fail
            exact ⟨⟨t + 1, by go_num, by omega, by rw [EP1.out, EP2.out]; exact KS7.out⟩, by simp [intOf]; omega⟩
        · have t2i : ¬ (t : Int) < (n2 : Int) := by omega
          have EP2 := hide (plays_stop (M := MS.boot) (cs := c2) (k := t) (by have := E2.out; omega))
          go_wp2_with fail
          exact ⟨⟨t + 1, by go_num, by omega, by rw [EP1.out, EP2.out]; exact KS6.out⟩, by simp [intOf]; omega⟩
    · have t1i : ¬ (t : Int) < (n1 : Int) := by omega
      have EP1 := hide (plays_stop (M := MS.boot) (cs := c1) (k := t) (by have := E1.out; omega))
      by_cases t2 : t < n2
      · have t2i : (t : Int) < (n2 : Int) := by omega
        obtain ⟨sb2, so2, d2, v2, hsa2, hsb2, hc2, q20, q21, av2⟩ := CA2.out.get (k := t) (by have := E2.out; omega) KS.out.old
        have AV2 := hide av2
        obtain ⟨va2, vn2, vc2, hv2⟩ := av2.form
        subst hv2
        subst hsa2
        have EP2 := hide (MS.plays_take (M := MS.boot) hc2)
        have hl2 : sb2 < wr.heap.size := by have := KS.out.old.size; omega
        obtain ⟨Fa2, ka2, go2⟩ := KS.out.step1
        have Ka2 := hide ka2
        have Go2 := hide go2
        clear av2 ka2 go2 hc2
        by_cases dt2 : d2.1 = -1
        · have ec : (MS.boot.plays (c2.take t)).call d2 = (MS.boot.plays (c2.take t)).tick := if_pos dt2
          rw [ec] at EP2
          rw [dt2] at q20
          clear ec dt2
          go_wp2_with fail
          refine (kn_tick Ka2.out).mono ?_
          rintro e w7 ⟨rfl, g⟩
          have KS7 := hide (Go2.out w7 _ g)
          have hz2 := KS7.out.old.size
          clear g KS Ka2 Go2
          go_wp2_with fail
          exact ⟨⟨t + 1, by go_num, by omega, by rw [EP1.out, EP2.out]; exact KS7.out⟩, by simp [intOf]; omega⟩
        · have ec : (MS.boot.plays (c2.take t)).call d2 = ((MS.boot.plays (c2.take t)).trap d2.1 d2.2).2 := if_neg dt2
          rw [ec] at EP2
          clear ec
          go_wp2_with fail
          go_still_tail 11, (by kernel_rfl)
          go_wp2_with fail
          refine (kn_trapV (Ka2.out.below (Below.refl _ _).drew) d2.1 (AV2.out.later (Below.refl _ _).drew)).mono ?_
          rintro e w7 ⟨rfl, g⟩
          have KS7 := hide (Go2.out w7 _ (g.from (Below.refl _ _).drew))
          have hz2 := KS7.out.old.size
          clear g KS Ka2 Go2
          generalize MS.out _ d2.1 d2.2 = ov2
          go_wp2_with fail
          exact ⟨⟨t + 1, by go_num, by omega, by rw [EP1.out, EP2.out]; exact KS7.out⟩, by simp [intOf]; omega⟩
      · have t2i : ¬ (t : Int) < (n2 : Int) := by omega
        have EP2 := hide (plays_stop (M := MS.boot) (cs := c2) (k := t) (by have := E2.out; omega))
        obtain ⟨F0, F1, F2, F3, h0, h1, h2, h3, d0, d1, d2, hF⟩ := KS.out.all
        rw [List.take_of_length_le (by have := E1.out; omega)] at h0
        rw [List.take_of_length_le (by have := E2.out; omega)] at h1
        have V := hide (V4.mk h0 h1 h2 h3 d0 d1 d2 hF KS.out.old)
        have VS1 := hide (view_short h0.inv 255)
        have VS2 := hide (view_short h1.inv 255)
        have L1 : Hid (∀ k, F1 k → k < wr.heap.size) := fun k hk => h1.lt hk
        have L2 : Hid (∀ k, F2 k → k < wr.heap.size) := fun k hk => h2.lt hk
        have L3 : Hid (∀ k, F3 k → k < wr.heap.size) := fun k hk => h3.lt hk
        clear h0 h1 h2 h3 d0 d1 d2 hF KS EP1 EP2
        go_wp2_with fail
        refine (kn_view V.out.h0 255).mono ?_
        rintro e wA ⟨va, rfl, oa, ka, fa⟩
        have OA := hide oa
        have VA := hide (V.out.go0 ka fa)
        have za := fa.size
        clear oa ka fa V
        go_wp2_with fail
        refine (kn_view VA.out.h2 255).mono ?_
        rintro e wB ⟨vb, rfl, ob, kb, fb⟩
        have OB := hide ob
        have OA2 := hide (OA.out.same (fun k hk => fb.block k (OA.out.row hk).2 (fun hf => by have := L2.out k hf; have := (OA.out.row hk).1; omega)))
        have VB := hide (VA.out.go2 kb fb)
        have zb := fb.size
        clear ob kb fb VA OA
        go_wp2_with fail
        refine (same_any wB _ _ va vb _ _ OA2.out OB.out (Nat.le_trans VS1.out (by omega))).mono ?_
        rintro e wC ⟨rfl, bc⟩
        have VC := hide (VB.out.later bc)
        have zc := bc.size
        clear bc VB OA2 OB
        rw [decide_eq_true rfl]
        go_wp2_with fail
        refine (kn_view VC.out.h1 255).mono ?_
        rintro e wD ⟨vd, rfl, od, kd, fd⟩
        have OD := hide od
        have VD := hide (VC.out.go1 kd fd)
        have zd := fd.size
        clear od kd fd VC
        go_wp2_with fail
        refine (kn_view VD.out.h3 255).mono ?_
        rintro e wE ⟨ve, rfl, oe, ke, fe⟩
        have OE := hide oe
        have OD2 := hide (OD.out.same (fun k hk => fe.block k (OD.out.row hk).2 (fun hf => by have := L3.out k hf; have := (OD.out.row hk).1; omega)))
        have VE := hide (VD.out.go3 ke fe)
        clear oe ke fe VD OD
        go_wp2_with fail
        refine (same_any wE _ _ vd ve _ _ OD2.out OE.out (Nat.le_trans VS2.out (by omega))).mono ?_
        rintro e wF ⟨rfl, bf⟩
        have VF := hide (VE.out.later bf)
        clear bf VE OD2 OE
        rw [decide_eq_true rfl]
        obtain ⟨nt, nl, hnow⟩ := now_form (MS.boot.plays c1)
        obtain ⟨mt, ml, hmow⟩ := now_form (MS.boot.plays c2)
        go_wp2_with fail
        refine (kn_now VF.out.h0).mono ?_
        rintro e wG ⟨rfl, bg⟩
        have VG := hide (VF.out.later bg)
        clear bg VF
        rw [hnow, nowV]
        go_wp2_with fail
        refine (kn_now VG.out.h2).mono ?_
        rintro e wH ⟨rfl, bh⟩
        have VH := hide (VG.out.later bh)
        clear bh VG
        rw [hnow, nowV]
        go_wp2_with fail
        refine (kn_now VH.out.h1).mono ?_
        rintro e wI ⟨rfl, bi⟩
        have VI := hide (VH.out.later bi)
        clear bi VH
        rw [hmow, nowV]
        go_wp2_with fail
        refine (kn_now VI.out.h3).mono ?_
        rintro e wJ ⟨rfl, bj⟩
        have VJ := hide (VI.out.later bj)
        clear bj VI
        rw [hmow, nowV]
        go_wp2_with fail
        go_ret
        exact ⟨rfl, VJ.out.old⟩

end Go.Proofs.Ytloppmepfkkblaa
end

section
/- The plain kernel with a port in slot 2, behind the start: what its traps tell. Without conditions. -/
open Go Go.RowKit
namespace Go.Proofs.Ytloppmepfkkblaa

/-- The start, and a port in slot 2 with words. -/
def pM (l : Nat) (ws : List Int) : MS := { MS.boot with S := upd MS.boot.S 2 (portT l), ws := upd MS.boot.ws 2 ws }

theorem pM_cur (l : Nat) (ws : List Int) : (pM l ws).cur = some 1 := rfl
theorem pM_me (l : Nat) (ws : List Int) : ((pM l ws).S 1).owns = 255 ∧ ((pM l ws).S 1).label = 0 := ⟨rfl, rfl⟩
theorem pM_ws (l : Nat) (ws : List Int) : (pM l ws).ws 2 = ws := rfl

theorem ask_new : ∀ l, l < 256 → mMake MS.boot.S 255 0 0 2 l = (0, 0) := by decide +kernel
theorem ask_recv : ∀ l, l < 256 → kindF (upd MS.boot.S 2 (portT l)) 2 4 (chk 255 0 l (chk 255 l 0 (mFind (upd MS.boot.S 2 (portT l)) 255 0 2))) = (l, 0) := by decide +kernel
theorem ask_send : ∀ l, l < 256 → kindF (upd MS.boot.S 2 (portT l)) 2 4 (chk 255 0 l (mFind (upd MS.boot.S 2 (portT l)) 255 0 2)) = (0, 0) := by decide +kernel
theorem ask_free : ∀ l, l < 256 → mFree (upd MS.boot.S 2 (portT l)) 255 0 2 = (0, 0) := by decide +kernel

theorem words_pM (l : Nat) (ws ws' : List Int) : (pM l ws).words 2 ws' = pM l ws' := by
  have e : upd (pM l ws).ws 2 ws' = upd MS.boot.ws 2 ws' := by
    funext i
    by_cases h : i = 2
    · rw [h, upd_same, upd_same]
    · rw [upd_ne _ _ h, upd_ne _ _ h]
      exact upd_ne _ _ h
  unfold MS.words
  rw [e]
  rfl

theorem trap_go {M : MS} {me u : Nat} {n : Int} {xs : List Int} (hc : M.cur = some me) (h1 : ¬ (n < 1 ∨ 17 ≤ n ∨ (shapeL n).length ≠ xs.length)) (h2 : mayTo (shapeL n) xs xs.length = true) (ha : M.ask me n xs = (u, 0)) : M.trap n xs = ((0, M.val me n xs, u), M.next me n xs) := by
  unfold MS.trap
  rw [hc]
  dsimp only
  rw [if_neg h1, if_neg (by rw [h2]; decide), ha, if_pos rfl]
theorem trap_stop {M : MS} {me u : Nat} {n e : Int} {xs : List Int} (hc : M.cur = some me) (h1 : ¬ (n < 1 ∨ 17 ≤ n ∨ (shapeL n).length ≠ xs.length)) (h2 : mayTo (shapeL n) xs xs.length = true) (ha : M.ask me n xs = (u, e)) (he : e ≠ 0) : M.trap n xs = ((e, 0, u), M) := by
  unfold MS.trap
  rw [hc]
  dsimp only
  rw [if_neg h1, if_neg (by rw [h2]; decide), ha, if_neg he]

theorem new_pM (l : Nat) : MS.boot.put 2 (portT l) [] = pM l [] := rfl

theorem gone_pM (l : Nat) (ws : List Int) : (pM l ws).gone 2 = MS.boot := by
  have hk : ((pM l ws).S 2).kind = 4 := rfl
  have hg : ∀ i, goes (pM l ws).S 2 i ↔ i = 2 := fun i => by unfold goes; rw [hk]; omega
  unfold MS.gone
  have e1 : (fun i => if goes (pM l ws).S 2 i then fth else (pM l ws).S i) = MS.boot.S := by
    funext i
    by_cases h : i = 2
    · subst h; rw [if_pos ((hg 2).2 rfl)]; rfl
    · rw [if_neg (fun x => h ((hg i).1 x))]; exact upd_ne _ _ h
  have e2 : (fun i => if goes (pM l ws).S 2 i then [] else (pM l ws).ws i) = MS.boot.ws := by
    funext i
    by_cases h : i = 2
    · subst h; rw [if_pos ((hg 2).2 rfl)]; rfl
    · rw [if_neg (fun x => h ((hg i).1 x))]; exact upd_ne _ _ h
  have e3 : (fun q : Nat => if ((pM l ws).S 2).kind = 1 ∧ ((pM l ws).S 2).G ≤ q ∧ (q : Int) < ((pM l ws).S 2).H then none else ((pM l ws).lq q).bind fun t => if goes (pM l ws).S 2 t then none else some t) = MS.boot.lq := by
    funext q
    rw [if_neg (by rw [hk]; omega)]
    show (if q < 8 then some 1 else none : Option Nat).bind _ = if q < 8 then some 1 else none
    by_cases h : q < 8
    · rw [if_pos h]
      show (if goes (pM l ws).S 2 1 then none else some 1) = some 1
      rw [if_neg (fun x => by have := (hg 1).1 x; omega)]
    · rw [if_neg h]; rfl
  rw [e1, e2, e3]
  rfl

theorem may_new (l : Nat) (hl : l < 256) : mayTo (shapeL 14) [0, 2, (l : Int)] 3 = true := by
  have : okAt 108 2 (l : Int) = true := by
    show decide (0 ≤ (l : Int) ∧ (l : Int) ≤ 255) = true
    exact decide_eq_true (by omega)
  show (((true && okAt 115 0 0) && okAt 115 0 2) && okAt 108 2 (l : Int)) = true
  rw [this]
  rfl
theorem may_send (x : Int) : mayTo (shapeL 15) [2, x] 2 = true := rfl
theorem shape_new (l : Int) : ¬ ((14 : Int) < 1 ∨ 17 ≤ (14 : Int) ∨ (shapeL 14).length ≠ [0, 2, l].length) := by
  have : (shapeL 14).length = [0, 2, l].length := rfl
  omega
theorem shape_send (x : Int) : ¬ ((15 : Int) < 1 ∨ 17 ≤ (15 : Int) ∨ (shapeL 15).length ≠ [2, x].length) := by
  have : (shapeL 15).length = [2, x].length := rfl
  omega

theorem trap_new (l : Nat) (hl : l < 256) : MS.boot.trap 14 [0, 2, (l : Int)] = ((0, 0, 0), pM l []) :=
  trap_go (me := 1) rfl (shape_new l) (may_new l hl) (ask_new l hl)

theorem trap_recv (l : Nat) (hl : l < 256) (ws : List Int) : (pM l ws).trap 16 [2] = match ws with | [] => ((9, 0, l), pM l []) | x :: xs => ((0, x, l), pM l xs) := by
  have ha : (pM l ws).ask 1 16 [2] = if ws.length = 0 then failed 9 (l, 0) else (l, 0) := by
    show (fun p => if ws.length = 0 then failed 9 p else p) (kindF (upd MS.boot.S 2 (portT l)) 2 4 (chk 255 0 l (chk 255 l 0 (mFind (upd MS.boot.S 2 (portT l)) 255 0 2)))) = _
    rw [ask_recv l hl]
  cases ws with
  | nil => exact trap_stop (me := 1) rfl (by decide) (by decide) ha (by decide)
  | cons x xs =>
    refine (trap_go (me := 1) (u := l) rfl (by decide) (by decide) ?_).trans ?_
    · rw [ha, if_neg (by simp)]
    · show ((0, x, l), (pM l (x :: xs)).words 2 xs) = _
      rw [words_pM]

theorem sub_zero : ∀ l, l < 256 → (sub l 0 = true ↔ l = 0) := by decide +kernel

theorem trap_send (l : Nat) (hl : l < 256) (ws : List Int) (x : Int) : (pM l ws).trap 15 [2, x] = if ws.length < 4 then ((0, 0, 0), pM l (ws ++ [x])) else if l = 0 then ((8, 0, 0), pM l ws) else ((0, 0, 0), pM l ws) := by
  have ha : (pM l ws).ask 1 15 [2, x] = if 4 ≤ ws.length ∧ sub l 0 = true then failed 8 (0, 0) else (0, 0) := by
    show (fun p => if 4 ≤ ws.length ∧ sub l 0 = true then failed 8 p else p) (kindF (upd MS.boot.S 2 (portT l)) 2 4 (chk 255 0 l (mFind (upd MS.boot.S 2 (portT l)) 255 0 2))) = _
    rw [ask_send l hl]
  have hn : (pM l ws).next 1 15 [2, x] = if 4 ≤ ws.length then pM l ws else (pM l ws).words 2 (ws ++ [x]) := rfl
  by_cases h4 : ws.length < 4
  · rw [if_pos h4, trap_go (me := 1) (u := 0) rfl (shape_send x) (may_send x) (by rw [ha, if_neg (by omega)]), hn, if_neg (by omega), words_pM]
    rfl
  · rw [if_neg h4]
    by_cases h0 : l = 0
    · rw [if_pos h0]
      exact trap_stop (me := 1) rfl (shape_send x) (may_send x) (by rw [ha, if_pos ⟨by omega, (sub_zero l hl).2 h0⟩]; rfl) (by decide)
    · rw [if_neg h0, trap_go (me := 1) (u := 0) rfl (shape_send x) (may_send x) (by rw [ha, if_neg (fun h => h0 ((sub_zero l hl).1 h.2))]), hn, if_pos (by omega)]
      rfl

theorem trap_free (l : Nat) (hl : l < 256) (ws : List Int) : (pM l ws).trap 8 [2] = ((0, 0, 0), MS.boot) := by
  refine (trap_go (M := pM l ws) (n := 8) (xs := [2]) (me := 1) (u := 0) rfl (by decide) (by decide) (ask_free l hl)).trans ?_
  show ((0, 0, 0), (pM l ws).gone 2) = _
  rw [gone_pM]

theorem trap_dead : MS.boot.trap 15 [2, 1] = ((5, 0, 0), MS.boot) :=
  trap_stop (me := 1) rfl (by decide) (by decide) (show MS.boot.ask 1 15 [2, 1] = (0, 5) by decide +kernel) (by decide)

end Go.Proofs.Ytloppmepfkkblaa
end

section
/- The plain kernel with a container in slot 2, behind the start: what is made in it, and what is left when it goes. Without conditions. -/
open Go Go.RowKit
namespace Go.Proofs.Ytloppmepfkkblaa

/-- All that is not the container's is as at first. -/
structure Held (l a b : Nat) (M : MS) : Prop where
  inv : MInv M
  ph : M.ph = 0
  slot : ∀ i, i ≠ 2 → ¬ (a ≤ i ∧ i < b) → M.S i = MS.boot.S i ∧ M.ws i = []
  two : M.S 2 = contT l a b 1 5
  ws : M.ws 2 = []
  lq : ∀ q, ¬ (1 ≤ q ∧ q < 5) → M.lq q = MS.boot.lq q

theorem Held.me {l a b : Nat} {M : MS} (h : Held l a b M) (ha : 3 ≤ a) : M.S 1 = MS.boot.S 1 := (h.slot 1 (by omega) (by omega)).1
theorem Held.cur {l a b : Nat} {M : MS} (h : Held l a b M) (ha : 3 ≤ a) : M.cur = some 1 := by
  unfold MS.cur
  rw [h.ph, h.lq 0 (by omega)]
  show (if (M.S 1).awake = true then some 1 else none) = some 1
  rw [h.me ha]
  rfl

/-! ### at first -/
theorem boot_free : ∀ i, i < 32 → 2 ≤ i → (MS.boot.S i).kind = 0 ∧ lies MS.boot.S i = some 0 := by decide +kernel
theorem boot_has : ∀ q : Nat, q < 8 → has MS.boot.S q = some 0 := by decide +kernel
theorem boot_busy {a b : Nat} (ha : 3 ≤ a) : busyB MS.boot.S 0 2 a b 1 5 = false := by
  unfold busyB
  simp only [Bool.or_eq_false_iff, List.any_eq_false, List.mem_range, decide_eq_false_iff_not, Bool.and_eq_true, decide_eq_true_eq, Bool.not_eq_true', not_and, Classical.not_not]
  refine ⟨⟨by omega, fun i hi h => ?_⟩, fun q hq h => ?_⟩
  · obtain ⟨h1, h2⟩ := boot_free i hi (by omega)
    simp [h1, h2]
  · simp [boot_has q hq]

theorem may_cont {l a b : Nat} (hl : l < 256) (ha : 3 ≤ a) (hab : a ≤ b) (hb : b ≤ 32) : mayTo (shapeL 7) [0, 2, (l : Int), (a : Int), (b : Int), 1, 5] 7 = true := by
  have h1 : okAt 108 2 (l : Int) = true := by
    show decide (0 ≤ (l : Int) ∧ (l : Int) ≤ 255) = true
    exact decide_eq_true (by omega)
  have h2 : okAt 97 l (a : Int) = true := by
    show decide (1 ≤ (a : Int) ∧ (a : Int) ≤ 32) = true
    exact decide_eq_true (by omega)
  have h3 : okAt 98 a (b : Int) = true := by
    show decide ((a : Int) ≤ (b : Int) ∧ (b : Int) ≤ 32) = true
    exact decide_eq_true (by omega)
  have h4 : okAt 103 b 1 = true := rfl
  show (((((((true && okAt 115 0 0) && okAt 115 0 2) && okAt 108 2 (l : Int)) && okAt 97 l (a : Int)) && okAt 98 a (b : Int)) && okAt 103 b 1) && okAt 104 1 5) = true
  rw [h1, h2, h3, h4]
  rfl

theorem trap_cont {l a b : Nat} (hl : l < 256) (ha : 3 ≤ a) (hab : a ≤ b) (hb : b ≤ 32) : ∃ M, MS.boot.trap 7 [0, 2, (l : Int), (a : Int), (b : Int), 1, 5] = ((0, 0, 0), M) ∧ Held l a b M := by
  have hs : ¬ ((7 : Int) < 1 ∨ 17 ≤ (7 : Int) ∨ (shapeL 7).length ≠ [0, 2, (l : Int), (a : Int), (b : Int), 1, 5].length) := by
    have : (shapeL 7).length = [0, 2, (l : Int), (a : Int), (b : Int), 1, 5].length := rfl
    omega
  have hask : MS.boot.ask 1 7 [0, 2, (l : Int), (a : Int), (b : Int), 1, 5] = (0, 0) := by
    show mCont MS.boot.S 255 0 0 2 l a b 1 5 = (0, 0)
    unfold mCont
    rw [boot_busy ha]
    exact ask_new l hl
  have ht := trap_go (me := 1) rfl hs (may_cont hl ha hab hb) hask
  have hI := MInv.boot.trap 7 [0, 2, (l : Int), (a : Int), (b : Int), 1, 5]
  rw [ht] at hI
  refine ⟨_, ht, hI, rfl, fun i h2 hi => ⟨upd_ne _ _ h2, ?_⟩, rfl, rfl, fun q hq => if_neg hq⟩
  exact upd_ne _ _ h2

/-! ### what is made in it -/
section
variable {l a b : Nat} {M : MS}
theorem Held.within (h : Held l a b M) {c s l' : Nat} (hc : c < 32) (hin : c = 2 ∨ a ≤ c ∧ c < b) (hm : Made M.S c s l') : (a ≤ s ∧ s < b) ∧ ∀ q : Int, (M.S c).inQ q → 1 ≤ q ∧ q < 5 := by
  have k2 : (M.S 2).kind = 1 := by rw [h.two]; rfl
  have l1 := (lies_spec hm.lies).2.2.1
  rcases hin with rfl | hin
  · rw [h.two] at l1
    refine ⟨?_, fun q hq => ?_⟩
    · have l1 : (a : Int) ≤ s ∧ (s : Int) < b := l1
      omega
    · rw [h.two] at hq
      have hq : ((1 : Nat) : Int) ≤ q ∧ q < ((5 : Nat) : Int) := hq
      omega
  · have hi := h.inv.tree.slot_inside (c := c) (d := 2) hc hm.cont (by omega) k2 (by rw [h.two]; show (a : Int) ≤ c ∧ (c : Int) < b; omega)
    refine ⟨?_, fun q hq => ?_⟩
    · have := hi.sub s l1
      rw [h.two] at this
      have this : (a : Int) ≤ s ∧ (s : Int) < b := this
      omega
    · have := hi.subq q hq
      rw [h.two] at this
      have this : ((1 : Nat) : Int) ≤ q ∧ q < ((5 : Nat) : Int) := this
      omega

theorem Held.put (h : Held l a b M) (ha : 3 ≤ a) {s : Nat} (hs : a ≤ s ∧ s < b) (t : Th) (ws : List Int) (hI : MInv (M.put s t ws)) : Held l a b (M.put s t ws) := by
  refine ⟨hI, h.ph, fun i h2 hi => ?_, ?_, ?_, h.lq⟩
  · have hne : i ≠ s := fun e => hi (e ▸ hs)
    exact ⟨(upd_ne _ _ hne).trans (h.slot i h2 hi).1, (upd_ne _ _ hne).trans (h.slot i h2 hi).2⟩
  · exact (upd_ne _ _ (show 2 ≠ s by omega)).trans h.two
  · exact (upd_ne _ _ (show 2 ≠ s by omega)).trans h.ws

/-- One of the calls that are let through. -/
def inner (a b : Nat) (n : Int) (xs : List Int) : Prop :=
  ((n = 4 ∨ n = 7 ∨ n = 9 ∨ n = 14) ∧ 0 < xs.length ∧ (xs.getD 0 0 = 2 ∨ (a : Int) ≤ xs.getD 0 0 ∧ xs.getD 0 0 < b)) ∨ (n = 10 ∧ xs.length = 2 ∧ 1 ≤ xs.getD 0 0 ∧ xs.getD 0 0 < 5)

theorem Held.next (h : Held l a b M) (ha : 3 ≤ a) {n : Int} {xs : List Int} (hin : inner a b n xs) (hargs : Args n xs) (hz : (M.ask 1 n xs).2 = 0) (hI : MInv (M.next 1 n xs)) : Held l a b (M.next 1 n xs) := by
  cases hargs with
  | seg c s lb hc hs hl =>
    change (mMake M.S (M.S 1).owns (M.S 1).label c s lb).2 = 0 at hz
    have hin : c = 2 ∨ a ≤ c ∧ c < b := by
      rcases hin with ⟨_, _, h⟩ | ⟨h, _⟩
      · have h : (c : Int) = 2 ∨ (a : Int) ≤ c ∧ (c : Int) < b := h
        omega
      · omega
    exact h.put ha (h.within hc hin (making_zero hz)).1 _ _ hI
  | cont c s lb a' e g k hc hs hl ha' hae he hgk hk =>
    change (mCont M.S (M.S 1).owns (M.S 1).label c s lb a' e g k).2 = 0 at hz
    unfold mCont at hz
    obtain ⟨hb, hz⟩ := if_zero' (by decide) hz
    have hr : Roomy M.S c s a' e g k := busyB_spec he hk (by simpa using hb)
    have hin : c = 2 ∨ a ≤ c ∧ c < b := by
      rcases hin with ⟨_, _, h⟩ | ⟨h, _⟩
      · have h : (c : Int) = 2 ∨ (a : Int) ≤ c ∧ (c : Int) < b := h
        omega
      · omega
    obtain ⟨w1, w2⟩ := h.within hc hin (making_zero hz)
    have hm := making_zero hz
    refine ⟨hI, h.ph, fun i h2 hi => ?_, ?_, ?_, fun q hq => ?_⟩
    · have hne : i ≠ s := fun e => hi (e ▸ w1)
      exact ⟨(upd_ne _ _ hne).trans (h.slot i h2 hi).1, (upd_ne _ _ hne).trans (h.slot i h2 hi).2⟩
    · exact (upd_ne _ _ (show 2 ≠ s by omega)).trans h.two
    · exact (upd_ne _ _ (show 2 ≠ s by omega)).trans h.ws
    · refine (if_neg (fun hg => hq ?_)).trans (h.lq q hq)
      have := w2 q (has_spec (hr.quanta q hg.1 hg.2)).2.2.1
      omega
  | thread c s lb o hc hs hl ho =>
    change (mThread M.S (M.S 1).owns (M.S 1).label c s lb o).2 = 0 at hz
    unfold mThread at hz
    obtain ⟨_, hz⟩ := if_zero (by decide) hz
    have hin : c = 2 ∨ a ≤ c ∧ c < b := by
      rcases hin with ⟨_, _, h⟩ | ⟨h, _⟩
      · have h : (c : Int) = 2 ∨ (a : Int) ≤ c ∧ (c : Int) < b := h
        omega
      · omega
    exact h.put ha (h.within hc hin (making_zero hz)).1 _ _ hI
  | give q s hq hs =>
    have hin : 1 ≤ q ∧ q < 5 := by
      rcases hin with ⟨h, _⟩ | ⟨_, _, h⟩
      · omega
      · have h : 1 ≤ (q : Int) ∧ (q : Int) < 5 := h
        omega
    exact ⟨hI, h.ph, h.slot, h.two, h.ws, fun q' hq' => (upd_ne _ _ (show q' ≠ q from fun e => hq' (e ▸ hin))).trans (h.lq q' hq')⟩
  | port c s lb hc hs hl =>
    change (mMake M.S (M.S 1).owns (M.S 1).label c s lb).2 = 0 at hz
    have hin : c = 2 ∨ a ≤ c ∧ c < b := by
      rcases hin with ⟨_, _, h⟩ | ⟨h, _⟩
      · have h : (c : Int) = 2 ∨ (a : Int) ≤ c ∧ (c : Int) < b := h
        omega
      · omega
    exact h.put ha (h.within hc hin (making_zero hz)).1 _ _ hI
  | _ => exfalso; rcases hin with ⟨h, _⟩ | ⟨h, _⟩ <;> omega

theorem Held.trap (h : Held l a b M) (ha : 3 ≤ a) {n : Int} {xs : List Int} (hin : inner a b n xs) : Held l a b (M.trap n xs).2 := by
  have hI := h.inv.trap n xs
  unfold MS.trap at hI ⊢
  rw [h.cur ha] at hI ⊢
  dsimp only at hI ⊢
  by_cases h1 : n < 1 ∨ 17 ≤ n ∨ (shapeL n).length ≠ xs.length
  · rw [if_pos h1]; exact h
  · rw [if_neg h1] at hI ⊢
    by_cases h2 : mayTo (shapeL n) xs xs.length = false
    · rw [if_pos h2]; exact h
    · rw [if_neg h2] at hI ⊢
      by_cases h3 : (M.ask 1 n xs).2 = 0
      · rw [if_pos h3] at hI ⊢
        exact h.next ha hin (args_of (by omega) (by omega) (Classical.not_not.1 (fun e => h1 (Or.inr (Or.inr e)))) (by simpa using h2)) h3 hI
      · rw [if_neg h3]; exact h
end

/-! ### it goes -/
theorem sub_all : ∀ x, x < 256 → sub x 255 = true := by decide +kernel
theorem chk_all {x y : Nat} {p : Nat × Int} (hx : x < 256) (h : p.2 = 0) : (chk 255 x y p).2 = 0 := by
  unfold chk
  rw [if_neg (by omega), if_pos (sub_all _ (mis_lt y hx))]
theorem path_all {S : Nat → Th} (hS : Tree S) {T : Nat} : ∀ (n : Nat) (s : Int) (p : Nat × Int), p.2 = 0 → (pathF S 255 T n s p).2 = 0
  | 0, _, _, h => h
  | n + 1, s, p, h => by
    unfold pathF
    cases hl : lies S s with
    | none => exact h
    | some c => exact chk_all (hS.wf c (lies_spec hl).1).1 (path_all hS n c p h)

/-- The start, but that the quanta from m on to 4 have no threads. -/
def lessM (m : Nat) : MS := { MS.boot with lq := fun q => if m ≤ q ∧ q < 5 then none else MS.boot.lq q }

theorem Held.gone {l a b : Nat} {M : MS} (h : Held l a b M) (ha : 3 ≤ a) : M.gone 2 = lessM 1 := by
  have hg : ∀ i, goes M.S 2 i ↔ i = 2 ∨ a ≤ i ∧ i < b := fun i => by
    unfold goes
    rw [h.two]
    show i = 2 ∨ (1 : Int) = 1 ∧ (a : Int) ≤ i ∧ (i : Int) < b ↔ _
    omega
  have e1 : (fun i => if goes M.S 2 i then fth else M.S i) = MS.boot.S := by
    funext i
    by_cases hi : i = 2 ∨ a ≤ i ∧ i < b
    · rw [if_pos ((hg i).2 hi)]
      show fth = if i = 0 then _ else if i = 1 then _ else fth
      rw [if_neg (by omega), if_neg (by omega)]
    · rw [if_neg (fun x => hi ((hg i).1 x))]
      exact (h.slot i (fun e => hi (Or.inl e)) (fun e => hi (Or.inr e))).1
  have e2 : (fun i => if goes M.S 2 i then [] else M.ws i) = MS.boot.ws := by
    funext i
    by_cases hi : i = 2 ∨ a ≤ i ∧ i < b
    · rw [if_pos ((hg i).2 hi)]; rfl
    · rw [if_neg (fun x => hi ((hg i).1 x))]
      exact (h.slot i (fun e => hi (Or.inl e)) (fun e => hi (Or.inr e))).2
  have e3 : (fun q : Nat => if (M.S 2).kind = 1 ∧ (M.S 2).G ≤ q ∧ (q : Int) < (M.S 2).H then none else (M.lq q).bind fun t => if goes M.S 2 t then none else some t) = (lessM 1).lq := by
    funext q
    rw [h.two]
    show (if (1 : Int) = 1 ∧ ((1 : Nat) : Int) ≤ q ∧ (q : Int) < ((5 : Nat) : Int) then none else _) = if 1 ≤ q ∧ q < 5 then none else MS.boot.lq q
    by_cases hq : 1 ≤ q ∧ q < 5
    · rw [if_pos hq, if_pos (by omega)]
    · rw [if_neg hq, if_neg (by omega), h.lq q hq]
      show (if q < 8 then some 1 else none : Option Nat).bind _ = if q < 8 then some 1 else none
      by_cases h8 : q < 8
      · rw [if_pos h8]
        show (if goes M.S 2 1 then none else some 1) = some 1
        rw [if_neg (fun x => by have := (hg 1).1 x; omega)]
      · rw [if_neg h8]; rfl
  unfold MS.gone
  rw [e1, e2, e3, h.ph]
  rfl

theorem Held.free {l a b : Nat} {M : MS} (h : Held l a b M) (ha : 3 ≤ a) : ∃ u, M.trap 8 [2] = ((0, 0, u), lessM 1) := by
  have hz : (M.ask 1 8 [2]).2 = 0 := by
    show (mFree M.S (M.S 1).owns (M.S 1).label 2).2 = 0
    rw [h.me ha]
    show (mFree M.S 255 0 2).2 = 0
    unfold mFree mFind
    rw [if_neg (by omega)]
    refine chk_all (by omega) ?_
    unfold thereF
    rw [if_neg (by rw [h.two]; show ¬ (1 : Int) = 0; decide)]
    exact path_all h.inv.tree _ _ _ rfl
  have ht := trap_go (M := M) (n := 8) (xs := [2]) (me := 1) (u := (M.ask 1 8 [2]).1) (h.cur ha) (by decide) (by decide) (by rw [← hz])
  exact ⟨(M.ask 1 8 [2]).1, by rw [ht]; show ((0, 0, (M.ask 1 8 [2]).1), M.gone 2) = _; rw [h.gone ha]⟩

theorem give_ask : ∀ q : Nat, q < 5 → mGive MS.boot.S 255 0 q 1 = (0, 0) := by decide +kernel
theorem give_less {q : Nat} (h1 : 1 ≤ q) (h2 : q < 5) : (lessM q).trap 10 [(q : Int), 1] = ((0, 0, 0), lessM (q + 1)) := by
  have hc : (lessM q).cur = some 1 := by
    have h0 : ¬ (q ≤ 0 ∧ 0 < 5) := by omega
    have e : (lessM q).lq (lessM q).ph = some 1 := if_neg h0
    unfold MS.cur
    rw [e]
    rfl
  have hs : ¬ ((10 : Int) < 1 ∨ 17 ≤ (10 : Int) ∨ (shapeL 10).length ≠ [(q : Int), 1].length) := by
    have : (shapeL 10).length = [(q : Int), 1].length := rfl
    omega
  have hm : mayTo (shapeL 10) [(q : Int), 1] 2 = true := by
    have : okAt 113 q (q : Int) = true := by
      show decide (0 ≤ (q : Int) ∧ (q : Int) ≤ 7) = true
      exact decide_eq_true (by omega)
    have e : okAt 115 q 1 = true := rfl
    show ((true && okAt 113 q (q : Int)) && okAt 115 q 1) = true
    rw [this, e]
    rfl
  refine (trap_go (me := 1) (u := 0) hc hs hm (give_ask q h2)).trans ?_
  show ((0, 0, 0), (lessM q).turn q (some 1)) = _
  have e : upd (lessM q).lq q (some 1) = (lessM (q + 1)).lq := by
    funext i
    by_cases hi : i = q
    · subst hi
      rw [upd_same]
      show some 1 = if i + 1 ≤ i ∧ i < 5 then none else if i < 8 then some 1 else none
      rw [if_neg (by omega), if_pos (by omega)]
    · rw [upd_ne _ _ hi]
      show (if q ≤ i ∧ i < 5 then none else MS.boot.lq i) = if q + 1 ≤ i ∧ i < 5 then none else MS.boot.lq i
      by_cases h : q ≤ i ∧ i < 5
      · rw [if_pos h, if_pos (by omega)]
      · rw [if_neg h, if_neg (by omega)]
  unfold MS.turn
  rw [e]
  rfl
theorem less_all : lessM 5 = MS.boot := by
  have e : (lessM 5).lq = MS.boot.lq := by
    funext i
    show (if 5 ≤ i ∧ i < 5 then none else MS.boot.lq i) = MS.boot.lq i
    rw [if_neg (by omega)]
  show ({ MS.boot with lq := (lessM 5).lq } : MS) = MS.boot
  rw [e]

end Go.Proofs.Ytloppmepfkkblaa
end
