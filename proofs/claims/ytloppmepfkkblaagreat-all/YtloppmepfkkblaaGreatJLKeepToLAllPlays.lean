/- The law's book: 'keep'. -/
import Derived.StillTailTactics
import Derived.Test.YtloppmepfkkblaaGreatJLBook0ToLKeep2
import Derived.Test.YtloppmepfkkblaaGreatJKInsideToKView
import Derived.Test.YtloppmepfkkblaaGreatJRefThingToRefTells
import Derived.Test.YtloppmepfkkblaaGreatJLPlays

section
open Go Go.Proofs Go.RowKit
namespace Go.Proofs.YtloppmepfkkblaaGreat

/-- A list, the first k of its n numbers are x. -/
def Partly (w : World) (l : Value) (n k : Nat) (x : Int) : Prop :=
  (l = .slice none 0 0 ∧ n = 0) ∨ ∃ g cap cur, l = .slice (some ⟨g, 0, none⟩) n cap ∧ Blk w g cur ∧ n ≤ cap ∧ cap ≤ cur.size ∧ ∀ j, j < k → cur[j]? = some (.int .i64 x)
theorem Partly.start {w : World} {B : Nat} {l : Value} {xs : List Int} (h : Outs w B l xs) (x : Int) : Partly w l xs.length 0 x := by
  rcases h.2 with h1 | ⟨g, cap, cur, h1, h2, h3, h4, h5, h6, h7⟩
  · exact Or.inl h1
  · exact Or.inr ⟨g, cap, cur, h1, ⟨_, h3⟩, h4, by omega, fun j hj => by omega⟩
theorem Partly.all {w : World} {l : Value} {n : Nat} {x : Int} {G : Nat → Prop} (h : Partly w l n n x) (hG : ∀ k, l.ownBlock = some k → G k) : Marks w G l n x := by
  rcases h with h | ⟨g, cap, cur, h1, h2, h3, h4, h5⟩
  · exact Or.inl h
  · exact Or.inr ⟨g, cap, cur, h1, hG g (by rw [h1]; rfl), h2, h3, h4, h5⟩

section
variable {P : Program} {ops : Array Oper} {Q : Exit → Act → World → Prop} {md : Region.Mode} {S : World → Prop} {n : Nat}
/-- Three pieces are taken first. -/
theorem wp_region_plan3 {id : Nat} {a : Act} {w : World} {l : List Oper} (S : World → Prop) (n m b c d e : Nat) (hm : P.follows .mixedOrders = true) (hB : planAll l.toArray n (List.range m ++ List.range' b c ++ List.range' d e) = true)
    (hE : (List.range m ++ List.range' b c ++ List.range' d e).map (fun i => l.toArray[i]?) = (l.take m ++ (l.drop b).take c ++ (l.drop d).take e).map some) (hQ : ∀ c (a : Act) d v w, Q (.panic c) (a.put d v) w → Q (.panic c) a w) (hS : S w.drew)
    (h : wpPlanL P l.toArray S (fun a' => wpAnyT P .any l.toArray Q S n (l.toArray.size - (List.range m ++ List.range' b c ++ List.range' d e).length) (planned (List.range m ++ List.range' b c ++ List.range' d e) (Array.replicate l.toArray.size false)) a' w.drew) (l.take m ++ (l.drop b).take c ++ (l.drop d).take e) a) : (Code.region id l.toArray true).wp P Q a w :=
  wp_region_plan S n _ hm hB hQ hS (wpPlan_of_ops _ _ _ hE h)
theorem wpAnyT_as {fuel fuel' : Nat} {listed listed' : Array Bool} {a : Act} {w : World} (h1 : fuel' = fuel) (h2 : listed' = listed) (h : wpAnyT P md ops Q S n fuel listed a w) : wpAnyT P md ops Q S n fuel' listed' a w := by
  rw [h1, h2]; exact h
end

set_option maxRecDepth 100000 in
set_option maxHeartbeats 4000000 in
theorem keep_any {w : World} {G : Nat → Prop} {bb : Nat} {v : Value} {ents : List Value} (h : BookAt w G bb v ents) (hn : ents.length ≤ 5000000000000) (l : Value) (xs : List Int) (B : Nat) (hl : Outs w B l xs) (hG : ∀ k, G k → k < B) (hB : B ≤ w.heap.size) (hlen : xs.length ≤ 900000) :
    Calls Tryz.prog 23 #[.pointer (some ⟨bb, 0, none⟩), l] w fun e w' => e = .returned (.tuple #[]) ∧
      ∃ G' v' ents', ents'.length = ents.length + 1 ∧ BookAt w' G' bb v' ents' ∧ (∀ k, G' k → G k ∨ B ≤ k) ∧ Fr (fun k => G k ∨ B ≤ k) w w' := by
  obtain ⟨va, vc, hv⟩ := h.form
  obtain ⟨la, lc, hlv⟩ : ∃ a c, l = .slice a xs.length c := by
    rcases hl.2 with ⟨q1, q2⟩ | ⟨g, cap, cur, q1, _⟩
    · exact ⟨none, 0, by rw [q2]; exact q1⟩
    · exact ⟨_, _, q1⟩
  subst hv hlv
  have c0 : w.cell? ⟨bb, 0, none⟩ = some (.slice va ents.length vc) := by rw [h.blk.cell]; rfl
  have hlt := h.blk.lt
  have H := hide h
  have HL := hide hl
  have HG := hide hG
  obtain ⟨nl, hnl⟩ : ∃ n, n = xs.length := ⟨_, rfl⟩
  obtain ⟨ne, hne⟩ : ∃ n, n = ents.length := ⟨_, rfl⟩
  have PS := hide (Partly.start hl (-7000 - ents.length))
  have OW : Hid (∀ k, (Value.slice la nl lc).ownBlock = some k → B ≤ k ∧ k < w.heap.size) := fun k hk => hl.row (by rw [hnl] at hk; exact hk)
  rw [← hnl] at HL PS hlen ⊢
  rw [← hne] at c0 H PS hn ⊢
  have HNE := hide hne
  have HNL := hide hnl
  clear hne hnl
  have MV := hide (mark_val w ne (by omega))
  have HBW := hide hB
  clear hB
  clear h hl hG
  go_enter Tryz.func23, Tryz.ntmps23
  go_wp2_with fail
  refine MV.out.mono ?_
  rintro e w1 ⟨rfl, rfl⟩
  clear MV
  go_wp2_with fail
  go_loopw [5] (fun i w' => ∃ k : Nat, k ≤ nl ∧ i = .int .i64 k ∧ Partly w' (.slice la nl lc) nl k (-7000 - ne) ∧ Fr (fun t => (Value.slice la nl lc).ownBlock = some t) w1 w') (fun i _ => nl - (intOf i).toNat)
  case atStart => exact ⟨0, by omega, rfl, PS.out, Fr.refl _ _⟩
  case round =>
    obtain ⟨k, hk, rfl, hp, hf⟩ := hrel
    clear PS
    have HF := hide hf
    by_cases hkn : k < nl
    · have hki : (k : Int) < (nl : Int) := by omega
      rcases hp with ⟨_, h0⟩ | ⟨g, cap, cur, q1, q2, q3, q4, q5⟩
      · omega
      · injection q1 with e1 e2 e3
        subst e1 e3
        obtain ⟨cv, cc⟩ : ∃ cv, wr.cell? ⟨g, k, none⟩ = some cv := ⟨_, by rw [q2.cell, Array.getElem?_eq_getElem (by omega)]⟩
        have fz := q2.frozen k
        have gl := q2.lt
        have PN : Hid (Partly (wr.setCell ⟨g, k, none⟩ (.int .i64 (-7000 - ne))) (.slice (some ⟨g, 0, none⟩) nl lc) nl (k + 1) (-7000 - ne)) := by
          refine Or.inr ⟨g, lc, _, rfl, q2.set k _, q3, by simpa using q4, fun j hj => ?_⟩
          by_cases hjk : j = k
          · subst hjk
            exact Array.getElem?_setIfInBounds_self_of_lt (by omega)
          · rw [Array.getElem?_setIfInBounds_ne (fun e => hjk e.symm)]
            exact q5 j (by omega)
        have FN : Hid (Fr (fun t => (Value.slice (some ⟨g, 0, none⟩) nl lc).ownBlock = some t) w1 (wr.setCell ⟨g, k, none⟩ (.int .i64 (-7000 - ne)))) := hf.trans ((Fr.own wr g k _).mono (fun t _ ht => by rw [ht]; rfl))
        clear q2 q3 q4 q5 hf
        go_wp2_with fail
        exact ⟨⟨k + 1, by omega, by go_num, PN.out, FN.out⟩, by simp [intOf] <;> omega⟩
    · have : k = nl := by omega
      subst this
      have hki : ¬ (k : Int) < (k : Int) := by omega
      have HP := hide hp
      clear hp hf
      have hz := HF.out.size
      have hBB : bb < B := HG.out bb H.out.here
      have hob : (Value.slice la k lc).ownBlock ≠ some bb := fun e => by have := (OW.out bb e).1; omega
      have HR := hide (H.out.same (w' := wr.drew) (fun t ht => HF.out.block t (H.out.lt t ht) (fun e => by have := (OW.out t e).1; have := HG.out t ht; omega)) hz)
      have HM := hide (HP.out.all (G := fun t => (Value.slice la k lc).ownBlock = some t) (fun _ h => h))
      have cb : wr.cell? ⟨bb, 0, none⟩ = some (.slice va ne vc) := by
        have := (HR.out.blk.cell 0)
        exact this.trans rfl
      clear HP c0
      go_wp2_with fail
      refine wp_region_plan3 (fun w' => w'.cell? ⟨bb, 0, none⟩ = some (.slice va ne vc)) 27 8 10 3 15 7 (by kernel_rfl) (by kernel_rfl) (by rfl) (fun _ a d v w h => by cases d <;> exact h) cb ?_
      simp only [List.take_succ_cons, List.take_zero, List.drop_succ_cons, List.drop_zero, List.cons_append, List.nil_append]
      iterate 18 (
        refine wpPlanL_cons (v := ?_) (by rfl) ?_ ?_
        rotate_left
        · (intro wS hSw; (try dsimp only at hSw); go_simp; try with_reducible rfl)
        simp only [Act.put, List.setIfInBounds_toArray])
      refine wpPlanL_nil ?_
      refine wpAnyT_as (fuel := 12) (listed := LS 0 false false false false false 0) (by kernel_rfl) (by kernel_rfl) ?_
      refine keep_core (W := wr.drew) (bb := bb) (bv := .slice va ne vc) (l := .slice la k lc) (nl := k) (ne := ne) (x := -7000 - ne) (ents := ents) ?ko ?a1 ?a2 ?a3 ?a4 ?a5 ?a6 ?a7 ?a8 ?a9 _ _ ?a10
      case ko => exact ⟨⟨_, rfl, rfl, rfl, rfl⟩, ⟨_, rfl, rfl, rfl, rfl⟩, ⟨_, rfl, rfl, rfl, rfl⟩, ⟨_, rfl, rfl, rfl, rfl⟩, ⟨_, rfl, rfl, rfl, rfl⟩, ⟨_, rfl, rfl, rfl, rfl⟩, ⟨_, rfl, rfl, rfl, rfl⟩, ⟨_, rfl, rfl, rfl, rfl⟩, ⟨_, rfl, rfl, rfl, rfl⟩, ⟨_, rfl, rfl, rfl, rfl⟩, ⟨_, rfl, rfl, rfl, rfl⟩, ⟨_, rfl, rfl, rfl, rfl⟩, by kernel_rfl, by kernel_rfl, by kernel_rfl, by kernel_rfl, by kernel_rfl, by kernel_rfl, by kernel_rfl, by kernel_rfl, by kernel_rfl, by kernel_rfl, by kernel_rfl, by kernel_rfl, by kernel_rfl, by kernel_rfl, by kernel_rfl, by kernel_rfl, by kernel_rfl, by kernel_rfl, by kernel_rfl, by kernel_rfl, by kernel_rfl⟩
      case a1 => exact fun t e => Nat.lt_of_lt_of_le (OW.out t e).2 hz
      case a2 => exact hlen
      case a3 => exact hn
      case a4 =>
        have := HR.out.row
        rw [← HNE.out] at this
        exact this
      case a5 =>
        intro t e
        have q1 := HR.out.own t e
        refine ⟨HR.out.lt t q1.1, fun e' => ?_, q1.2⟩
        have := (OW.out t e').1
        have := HG.out t q1.1
        omega
      case a6 => exact hob
      case a7 => exact ⟨_, HR.out.blk⟩
      case a8 => exact fun w' e => (cell_same e _).trans cb
      case a9 =>
        intro tmps w' hk
        have hr := HR.out
        rw [HNE.out] at hk hr
        obtain ⟨G', v', ents', k1, k2, k3, k4⟩ := keep_book (B := B) hr HG.out (Nat.le_trans HBW.out hz) (fun t e => ⟨(OW.out t e).1, Nat.lt_of_lt_of_le (OW.out t e).2 hz⟩) hlen hk
        go_end0
        refine ⟨rfl, G', v', ents', by rw [k1, HNE.out], k2, k3, (HF.out.mono (fun t _ e => Or.inr (OW.out t e).1)).trans ?_⟩
        exact ⟨k4.os, k4.tape, k4.output, k4.size, k4.block⟩
      case a10 =>
        simp only [List.set_cons_succ, List.set_cons_zero]
        refine ⟨⟨rfl, rfl, rfl, rfl, ?_, ?_⟩, MkW.refl _ _ _, HM.out.same (fun _ _ => rfl), ?_, ?_, ?_, ?_, ?_, ?_⟩
        · intro i hi
          rcases hi with rfl | rfl | rfl | rfl <;> rfl
        · intro i hi
          have : i = 29 ∨ i = 33 ∨ i = 34 ∨ i = 38 ∨ i = 39 ∨ i = 40 ∨ i = 41 ∨ i = 42 ∨ i = 43 := by omega
          rcases this with rfl | rfl | rfl | rfl | rfl | rfl | rfl | rfl | rfl <;> rfl
        · intro h; exact absurd h (by decide)
        · intro h; exact absurd h (by decide)
        · intro h; cases h
        · intro h; exact absurd h (by decide)
        · intro h; cases h
        · intro h; exact absurd h (by decide)

end Go.Proofs.YtloppmepfkkblaaGreat
end

section
/- The law's 'same'; its step with a view; any step. -/
open Go Go.Proofs Go.RowKit
namespace Go.Proofs.YtloppmepfkkblaaGreat

/-- Is one row the other? -/
theorem take_ne {xs ys : List Int} {j : Nat} {x y : Int} (hx : xs[j]? = some x) (hy : ys[j]? = some y) (h : x ≠ y) : xs ≠ ys := fun e => h (by rw [e, hy] at hx; injection hx with hx; exact hx.symm)

set_option maxRecDepth 100000 in
set_option maxHeartbeats 4000000 in
theorem same_any (w : World) (Bx By : Nat) (vx vy : Value) (xs ys : List Int) (hx : Outs w Bx vx xs) (hy : Outs w By vy ys) (hl : xs.length ≤ 1000000) :
    Calls Tryz.prog 21 #[vx, vy] w fun e w' => e = .returned (.bool (decide (xs = ys))) ∧ Below w.heap.size w w' := by
  obtain ⟨xa, xc, rfl⟩ := hx.form'
  obtain ⟨ya, yc, rfl⟩ := hy.form'
  have AX := hide hx.arg
  have AY := hide hy.arg
  clear hx hy
  by_cases hlen : xs.length = ys.length
  · rw [← hlen]
    have HLEN := hide hlen
    clear hlen
    go_enter Tryz.func21, Tryz.ntmps21
    go_wp2_with fail
    go_loopw [5] (fun i w' => ∃ k : Nat, k ≤ xs.length ∧ i = .int .i64 k ∧ xs.take k = ys.take k ∧ Below w.heap.size w w') (fun i _ => xs.length - (intOf i).toNat)
    case atStart => exact ⟨0, by omega, rfl, rfl, Below.refl _ _⟩
    case round =>
      obtain ⟨k, hk, rfl, heq, hb⟩ := hrel
      have HB := hide hb
      have HEQ := hide heq
      clear heq
      by_cases hkn : k < xs.length
      · have hki : (k : Int) < (xs.length : Int) := by omega
        obtain ⟨x, hx⟩ : ∃ x, xs[k]? = some x := ⟨_, List.getElem?_eq_getElem hkn⟩
        obtain ⟨y, hy⟩ : ∃ y, ys[k]? = some y := ⟨_, List.getElem?_eq_getElem (by have := HLEN.out; omega)⟩
        obtain ⟨gx, cx, ex, _, ax⟩ := AX.out.resolve_left (fun e => by rw [e] at hx; simp at hx)
        obtain ⟨gy, cy, ey, _, ay⟩ := AY.out.resolve_left (fun e => by rw [e] at hy; simp at hy)
        injection ex with ex _ ecx
        injection ey with ey _ ecy
        subst ex ey ecx ecy
        have d0 := (cell_same (hb.block gx ax.lt) _).trans (ax.cell k x hx)
        have d1 := (cell_same (hb.block gy ay.lt) _).trans (ay.cell k y hy)
        rw [Nat.zero_add] at d0 d1
        have l0 := ax.lt
        have l1 := ay.lt
        have hz := hb.size
        have l2 : gx < wr.heap.size := by omega
        have l3 : gy < wr.heap.size := by omega
        have HX := hide hx
        have HY := hide hy
        clear ax ay hb hx hy
        by_cases hxy : x = y
        · subst hxy
          have EQ1 : Hid (xs.take (k + 1) = ys.take (k + 1)) := by
            unfold Hid
            rw [List.take_add_one, List.take_add_one, HX.out, HY.out, HEQ.out]
          go_wp2_with fail
          go_still (by kernel_rfl)
          go_wp2_with fail
          exact ⟨⟨k + 1, by omega, by go_num, EQ1.out, HB.out.drew⟩, by simp [intOf]; omega⟩
        · have NE := hide (take_ne HX.out HY.out hxy)
          go_wp2_with fail
          go_still (by kernel_rfl)
          go_wp2_with fail
          go_ret
          exact ⟨by rw [decide_eq_false NE.out]; rfl, HB.out.drew⟩
      · have : k = xs.length := by omega
        subst this
        have E := HEQ.out
        rw [List.take_length, HLEN.out, List.take_length] at E
        have HE := hide E
        clear E hb
        go_wp2_with fail
        go_ret
        exact ⟨by rw [decide_eq_true HE.out]; rfl, HB.out⟩
  · have hne : xs ≠ ys := fun e => hlen (by rw [e])
    have HNE := hide hne
    have hli : ¬ ((xs.length : Int) = (ys.length : Int)) := by omega
    clear hne
    go_enter Tryz.func21, Tryz.ntmps21
    go_wp2_with fail
    go_ret
    exact ⟨by rw [decide_eq_false HNE.out]; rfl, Below.refl _ _⟩


/-- A pair and the book have gone on. -/
def StepGoes (w : World) (pb bb : Nat) (F G : Nat → Prop) (m : Int) (n : Nat) (w' : World) : Prop :=
  ∃ F' G' v' ents', Pr w' pb F' (m + 1) ∧ BookAt w' G' bb v' ents' ∧ ents'.length ≤ n + 1 ∧ (∀ k, F' k → F k ∨ w.heap.size ≤ k) ∧ (∀ k, G' k → G k ∨ w.heap.size ≤ k) ∧ (∀ k, F' k → ¬ G' k) ∧ Fr (fun k => F k ∨ G k) w w'

theorem StepGoes.of_pr {w w' : World} {pb bb : Nat} {F G : Nat → Prop} {m : Int} {n : Nat} {v : Value} {ents : List Value} (hb : BookAt w G bb v ents) (hn : ents.length ≤ n) (hd : ∀ k, F k → ¬ G k) (h : PrGoes w pb F m w') : StepGoes w pb bb F G m n w' := by
  obtain ⟨F', h1, h2, h3⟩ := h
  refine ⟨F', G, v, ents, h1, hb.same (fun k hk => h3.block k (hb.lt k hk) (fun hf => hd k hf hk)) h3.size, by omega, h2, fun k hk => Or.inl hk, fun k hk hg => ?_, h3.mono (fun k _ hk => Or.inl hk)⟩
  rcases h2 k hk with h | h
  · exact hd k h hg
  · have := hb.lt k hg; omega

theorem Outs.lower {w : World} {B B' : Nat} {v : Value} {xs : List Int} (h : Outs w B v xs) (hb : B' ≤ B) : Outs w B' v xs := by
  refine ⟨h.1, ?_⟩
  rcases h.2 with q | ⟨g, cap, cur, q1, q2, q3⟩
  · exact Or.inl q
  · exact Or.inr ⟨g, cap, cur, q1, by omega, q3⟩

set_option maxRecDepth 100000 in
set_option maxHeartbeats 4000000 in
theorem step_view {w : World} {pb bb : Nat} {F G : Nat → Prop} {m : Int} {n : Nat} {bv : Value} {ents : List Value} (h : Pr w pb F m) (hbk : BookAt w G bb bv ents) (hn : ents.length ≤ n) (hn5 : n ≤ 5000000000000) (hd : ∀ k, F k → ¬ G k) (K : Int) (v : Value) (ha : ArgsV w F v) :
    Calls Tryz.prog 10 #[.pointer (some ⟨pb, 0, none⟩), .agg #[.int .i64 K, .int .i64 (-3), v], .pointer (some ⟨bb, 0, none⟩)] w fun e w' => e = .returned (.bool true) ∧ StepGoes w pb bb F G m n w' := by
  have hba : Below w.heap.size w (w.alloc (.cells #[.int .i64 K, .int .i64 (-3), v] 34)) := (Below.refl _ _).alloc (Nat.le_refl _) _
  have hsa : (w.alloc (.cells #[.int .i64 K, .int .i64 (-3), v] 34)).heap.size = w.heap.size + 1 := by simp
  have BA := hide hba
  have SA := hide hsa
  have BK := hide hbk
  have HD := hide hd
  have OPB := hide (Blk.new w #[.int .i64 K, .int .i64 (-3), v] 34)
  obtain ⟨kb, b, r, M, ob, cb, qp, h1, h2, h3, h4, h5⟩ := h
  have S1 := hide (h1.still (Fr.of_below hba))
  have P1 := hide (h2.below hba h2.lt)
  have HF := hide h4
  have LT : Hid (∀ k, F k → k < w.heap.size) := fun k hk => by
    rcases (h4 k).2 hk with rfl | q
    · exact h2.lt
    · exact h1.lt q
  have N3 := hide h3
  have VS := hide (fun l => view_short h1.inv l)
  obtain ⟨va, vl, vc, xl, hv, hxl⟩ : ∃ va vl vc xl, v = Value.slice va vl vc ∧ ((vl = 0 ∧ xl = 255) ∨ (0 < vl ∧ ∃ lb lo, va = some ⟨lb, lo, none⟩ ∧ lb < w.heap.size ∧ w.cell? ⟨lb, lo, none⟩ = some (.int .i64 xl))) := by
    rcases ha with rfl | ⟨la, xs, cap, rfl, hs⟩
    · exact ⟨none, 0, 0, 255, rfl, Or.inl ⟨rfl, rfl⟩⟩
    · cases xs with
      | nil => exact ⟨some la, 0, cap, 255, rfl, Or.inl ⟨rfl, rfl⟩⟩
      | cons x r =>
        rcases hs.at' with q | ⟨lb, lo, q1, q2, q3⟩
        · cases q
        · have := q2.cell 0 x rfl
          rw [Nat.add_zero] at this
          exact ⟨some la, (x :: r).length, cap, x, rfl, Or.inr ⟨by simp, lb, lo, by rw [q1], q2.lt, this⟩⟩
  subst hv
  have hp0 : (w.alloc (.cells #[.int .i64 K, .int .i64 (-3), .slice va vl vc] 34)).cell? ⟨pb, 0, none⟩ = some (.pointer (some ⟨kb, 0, none⟩)) := by rw [P1.out.cell]; rfl
  have hpl := P1.out.lt
  have o2 : (w.alloc (.cells #[.int .i64 K, .int .i64 (-3), .slice va vl vc] 34)).cell? ⟨w.heap.size, 2, none⟩ = some (.slice va vl vc) := by rw [OPB.out.cell]; rfl
  have hxl' : Hid ((vl = 0 ∧ xl = 255) ∨ (0 < vl ∧ ∃ lb lo, va = some ⟨lb, lo, none⟩ ∧ lb < (w.alloc (.cells #[.int .i64 K, .int .i64 (-3), .slice va vl vc] 34)).heap.size ∧ (w.alloc (.cells #[.int .i64 K, .int .i64 (-3), .slice va vl vc] 34)).cell? ⟨lb, lo, none⟩ = some (.int .i64 xl))) := by
    rcases hxl with q | ⟨q1, lb, lo, q2, q3, q4⟩
    · exact Or.inl q
    · exact Or.inr ⟨q1, lb, lo, q2, by rw [hsa]; omega, (cell_same (hba.block lb q3) _).trans q4⟩
  have PV := hide (p_view S1.out.kp S1.out.inv xl)
  clear h1 h2 h3 h4 hbk hd hba hsa ha hxl
  rcases hxl'.out with ⟨rfl, rfl⟩ | ⟨hvl, lb, lo, rfl, hlb, hlc⟩
  all_goals clear hxl'
  all_goals first | (have hvi : (0 : Int) < (vl : Int) := by omega) | skip
  all_goals
    go_enter Tryz.func10, Tryz.ntmps10
    go_wp2_with fail
    generalize hw1 : (w.alloc (.cells #[.int .i64 K, .int .i64 (-3), .slice _ _ vc] 34)) = w1 at *
    refine PV.out.mono ?_
    clear PV
    rintro e w3 ⟨v3, rfl, o3, k3, f3⟩
    have ff : ∀ k, Foot kb M ob cb qp k → F k := fun k hk => (HF.out k).1 (Or.inr (Or.inl hk))
    have rf : ∀ k, RFt b r.S k → F k := fun k hk => (HF.out k).1 (Or.inr (Or.inr hk))
    have pf : F pb := (HF.out pb).1 (Or.inl rfl)
    have K3 := hide k3
    have R3 := hide (S1.out.rr.fr f3 (fun k hk hf => S1.out.dis k hf hk))
    have P3 := hide (P1.out.fr f3 (fun hf => N3.out (Or.inl hf)))
    have BK1 := BK.out.below BA.out
    have BK3 := hide (BK1.same (fun k hk => f3.block k (BK1.lt k hk) (fun hf => HD.out k (ff k hf) hk)) f3.size)
    have O3 := hide o3
    have F3 := hide f3
    have z3 := f3.size
    obtain ⟨x3a, x3n, x3c, hx3⟩ := o3.form
    subst hx3
    have OL : Hid (∀ k, (Value.slice x3a x3n x3c).ownBlock = some k → w1.heap.size ≤ k ∧ k < w3.heap.size) := fun k hk => o3.row hk
    have c1 : w3.cell? ⟨pb, 1, none⟩ = some (.pointer (some ⟨b, 0, none⟩)) := by rw [P3.out.cell]; rfl
    have hpl3 := P3.out.lt
    have INV := hide S1.out.inv
    have FF := hide ff
    have RF := hide rf
    have PF := hide pf
    clear o3 k3 f3 BK1 ff rf pf
    go_wp2_with fail
    refine (r_view R3.out INV.out _).mono ?_
    rintro e w4 ⟨v4, rfl, o4, b4⟩
    have O4 := hide o4
    have B4 := hide b4
    have z4 := b4.size
    obtain ⟨x4a, x4n, x4c, hx4⟩ := o4.form
    subst hx4
    clear o4 b4
    go_wp2_with fail
    refine (same_any w4 _ _ _ _ _ _ (O3.out.later B4.out) O4.out (Nat.le_trans (VS.out _) (by omega))).mono ?_
    rintro e w5 ⟨rfl, b5⟩
    rw [decide_eq_true rfl]
    have B5 := hide (B4.out.trans (b5.mono z4))
    have z5 := B5.out.size
    clear b5 O4
    have SAA := SA.out
    go_wp2_with fail
    refine (keep_any (BK3.out.below B5.out) (by omega) _ _ w1.heap.size (O3.out.later B5.out) (fun k hk => by have := BK.out.lt k hk; omega) (by omega) (Nat.le_trans (VS.out _) (by omega))).mono ?_
    rintro e w6 ⟨rfl, G', v', ents', k1, k2, k3, k4⟩
    have EN : Hid (StepGoes w pb bb F G m n w6) := by
      have fr5 : Fr (fun k => Foot kb M ob cb qp k) w1 w5 := F3.out.trans (Fr.of_below B5.out)
      have no : ∀ k, F k → ¬ (G k ∨ w1.heap.size ≤ k) := fun k hk h => by
        rcases h with h | h
        · exact HD.out k hk h
        · have := LT.out k hk; omega
      refine ⟨F, G', v', ents', ⟨kb, b, r, M, ob, cb, qp, ⟨(K3.out.below B5.out).fr k4 (fun k hk => no k (FF.out k hk)), (R3.out.fr (P := fun _ => False) (Fr.of_below B5.out) (fun _ _ => id)).fr k4 (fun k hk => no k (RF.out k hk)), INV.out, S1.out.dis⟩, (P3.out.below B5.out hpl3).fr k4 (no pb PF.out), N3.out, HF.out, by omega⟩, k2, by omega, fun k hk => Or.inl hk, fun k hk => (k3 k hk).imp id (fun h => by omega), fun k hk hg => ?_, ?_⟩
      · rcases k3 k hg with h | h
        · exact HD.out k hk h
        · have := LT.out k hk; omega
      · refine (Fr.of_below BA.out).trans' (S' := fun k => F k ∨ G k ∨ w1.heap.size ≤ k) ((fr5.mono (fun k _ hk => Or.inl (FF.out k hk))).trans (k4.mono (fun k _ hk => Or.inr hk))) (fun k hk h => ?_)
        rcases h with h | h | h
        · exact Or.inl h
        · exact Or.inr h
        · omega
    clear k1 k2 k3 k4
    go_wp2_with fail
    go_ret
    exact ⟨rfl, EN.out⟩

theorem step_all {w : World} {pb bb : Nat} {F G : Nat → Prop} {m : Int} {n : Nat} {bv : Value} {ents : List Value} (h : Pr w pb F m) (hm : m < 4611686018427387904) (hbk : BookAt w G bb bv ents) (hn : ents.length ≤ n) (hn5 : n ≤ 5000000000000) (hd : ∀ k, F k → ¬ G k) (K T : Int) (v : Value) (ha : ArgsV w F v) :
    Calls Tryz.prog 10 #[.pointer (some ⟨pb, 0, none⟩), .agg #[.int .i64 K, .int .i64 T, v], .pointer (some ⟨bb, 0, none⟩)] w fun e w' => e = .returned (.bool true) ∧ StepGoes w pb bb F G m n w' := by
  by_cases hT : T = -3
  · subst hT
    exact step_view h hbk hn hn5 hd K v ha
  · exact (step_any h hm K T v _ hT ha).mono (fun e w' ⟨he, hg⟩ => ⟨he, StepGoes.of_pr hbk hn hd hg⟩)

end Go.Proofs.YtloppmepfkkblaaGreat
end

section
/- The law's 'plays' with views: a script on two kernels in turns. -/
open Go Go.Proofs Go.RowKit
namespace Go.Proofs.YtloppmepfkkblaaGreat

/-- Two pairs, and a book, in memory that is new since w0. -/
structure TwoV (w0 w : World) (lb bb p0 p1 : Nat) (m : Int) (n : Nat) : Prop where
  list : Blk w lb #[.pointer (some ⟨p0, 0, none⟩), .pointer (some ⟨p1, 0, none⟩)]
  two : ∃ F0 F1 G v ents, Pr w p0 F0 m ∧ Pr w p1 F1 m ∧ (∀ k, F0 k → ¬ F1 k) ∧ BookAt w G bb v ents ∧ ents.length ≤ n ∧ (∀ k, F0 k ∨ F1 k → w0.heap.size ≤ k ∧ k ≠ lb ∧ ¬ G k) ∧ (∀ k, G k → w0.heap.size ≤ k ∧ k ≠ lb)
  old : Below w0.heap.size w0 w

section
variable {w0 w w' : World} {lb bb p0 p1 : Nat} {m : Int} {n : Nat}

theorem TwoV.later (h : TwoV w0 w lb bb p0 p1 m n) (hb : Below w.heap.size w w') : TwoV w0 w' lb bb p0 p1 m n := by
  obtain ⟨F0, F1, G, v, ents, h0, h1, hd, hk, hn, hF, hG⟩ := h.two
  exact ⟨h.list.below hb h.list.lt, ⟨F0, F1, G, v, ents, h0.below hb, h1.below hb, hd, hk.below hb, hn, hF, hG⟩, h.old.trans (hb.mono h.old.size)⟩

theorem TwoV.more {m' : Int} {n' : Nat} (h : TwoV w0 w lb bb p0 p1 m n) (hm : m ≤ m') (hn' : n ≤ n') : TwoV w0 w lb bb p0 p1 m' n' := by
  obtain ⟨F0, F1, G, v, ents, h0, h1, hd, hk, hn, hF, hG⟩ := h.two
  exact ⟨h.list, ⟨F0, F1, G, v, ents, h0.more hm, h1.more hm, hd, hk, by omega, hF, hG⟩, h.old⟩

theorem TwoV.looks (h : TwoV w0 w lb bb p0 p1 m n) (hn5 : n ≤ 5000000000000) : Calls Tryz.prog 11 #[.pointer (some ⟨bb, 0, none⟩)] w fun e w' => e = .returned (.bool true) ∧ Below w.heap.size w w' := by
  obtain ⟨F0, F1, G, v, ents, h0, h1, hd, hk, hn, hF, hG⟩ := h.two
  exact looks_any hk (by omega)

theorem StepGoes.from {w1 : World} {pb : Nat} {F G : Nat → Prop} (h : StepGoes w1 pb bb F G m n w') (hb : Below w.heap.size w w1) : StepGoes w pb bb F G m n w' := by
  obtain ⟨F', G', v', ents', g1, g2, g3, g4, g5, g6, g7⟩ := h
  have := hb.size
  exact ⟨F', G', v', ents', g1, g2, g3, fun k hk => (g4 k hk).imp id (fun h => by omega), fun k hk => (g5 k hk).imp id (fun h => by omega), g6, (Fr.of_below hb).trans g7⟩

theorem TwoV.pick (h : TwoV w0 w lb bb p0 p1 m n) {k : Nat} (hk : k < 2) : ∃ pk F G v ents, w.cell? ⟨lb, k, none⟩ = some (.pointer (some ⟨pk, 0, none⟩)) ∧ Pr w pk F m ∧ BookAt w G bb v ents ∧ ents.length ≤ n ∧ (∀ k, F k → ¬ G k) ∧ (∀ k, F k → w0.heap.size ≤ k) ∧ ∀ w', StepGoes w pk bb F G m n w' → TwoV w0 w' lb bb p0 p1 (m + 1) (n + 1) := by
  obtain ⟨F0, F1, G, v, ents, h0, h1, hd, hbk, hn, hF, hG⟩ := h.two
  have hz := h.old.size
  have hll := h.list.lt
  have this : k = 0 ∨ k = 1 := by omega
  rcases this with rfl | rfl
  · refine ⟨p0, F0, G, v, ents, by rw [h.list.cell]; rfl, h0, hbk, hn, fun k hk => (hF k (Or.inl hk)).2.2, fun k hk => (hF k (Or.inl hk)).1, ?_⟩
    rintro w' ⟨F', G', v', ents', g1, g2, g3, g4, g5, g6, g7⟩
    refine ⟨h.list.fr g7 (fun hk => hk.elim (fun h => (hF lb (Or.inl h)).2.1 rfl) (fun h => (hG lb h).2 rfl)), ⟨F', F1, G', v', ents', g1, (h1.fr g7 (fun k q1 q => q.elim (fun q0 => hd k q0 q1) (fun qg => (hF k (Or.inr q1)).2.2 qg))).more (by omega), fun k hk h1' => ?_, g2, g3, fun k hk => ?_, fun k hk => ?_⟩, h.old.trans (g7.below_lo (fun k hk => hk.elim (fun h => (hF k (Or.inl h)).1) (fun h => (hG k h).1)) hz)⟩
    · rcases g4 k hk with q | q
      · exact hd k q h1'
      · have := h1.lt h1'; omega
    · rcases hk with hk | hk
      · refine ⟨?_, ?_, g6 k hk⟩
        · exact (g4 k hk).elim (fun q => (hF k (Or.inl q)).1) (fun q => by omega)
        · exact (g4 k hk).elim (fun q => (hF k (Or.inl q)).2.1) (fun q => by omega)
      · refine ⟨(hF k (Or.inr hk)).1, (hF k (Or.inr hk)).2.1, fun hg => ?_⟩
        rcases g5 k hg with q | q
        · exact (hF k (Or.inr hk)).2.2 q
        · have := h1.lt hk; omega
    · exact (g5 k hk).elim (fun q => hG k q) (fun q => ⟨by omega, by omega⟩)
  · refine ⟨p1, F1, G, v, ents, by rw [h.list.cell]; rfl, h1, hbk, hn, fun k hk => (hF k (Or.inr hk)).2.2, fun k hk => (hF k (Or.inr hk)).1, ?_⟩
    rintro w' ⟨F', G', v', ents', g1, g2, g3, g4, g5, g6, g7⟩
    refine ⟨h.list.fr g7 (fun hk => hk.elim (fun h => (hF lb (Or.inr h)).2.1 rfl) (fun h => (hG lb h).2 rfl)), ⟨F0, F', G', v', ents', (h0.fr g7 (fun k q0 q => q.elim (fun q1 => hd k q0 q1) (fun qg => (hF k (Or.inl q0)).2.2 qg))).more (by omega), g1, fun k h0' hk => ?_, g2, g3, fun k hk => ?_, fun k hk => ?_⟩, h.old.trans (g7.below_lo (fun k hk => hk.elim (fun h => (hF k (Or.inr h)).1) (fun h => (hG k h).1)) hz)⟩
    · rcases g4 k hk with q | q
      · exact hd k h0' q
      · have := h0.lt h0'; omega
    · rcases hk with hk | hk
      · refine ⟨(hF k (Or.inl hk)).1, (hF k (Or.inl hk)).2.1, fun hg => ?_⟩
        rcases g5 k hg with q | q
        · exact (hF k (Or.inl hk)).2.2 q
        · have := h0.lt hk; omega
      · refine ⟨?_, ?_, g6 k hk⟩
        · exact (g4 k hk).elim (fun q => (hF k (Or.inr q)).1) (fun q => by omega)
        · exact (g4 k hk).elim (fun q => (hF k (Or.inr q)).2.1) (fun q => by omega)
    · exact (g5 k hk).elim (fun q => hG k q) (fun q => ⟨by omega, by omega⟩)

theorem two_startV (h : Two w0 w lb bb p0 p1 m) (hb : w0.heap.size ≤ bb) (hlb : bb ≠ lb) : TwoV w0 w lb bb p0 p1 m 0 := by
  obtain ⟨F0, F1, h0, h1, hd, hF⟩ := h.two
  refine ⟨h.list, ⟨F0, F1, fun k => k = bb, .slice none 0 0, [], h0, h1, hd, ⟨h.book, fun k hk => by rw [hk]; exact h.book.lt, rfl, ⟨rfl, Or.inl ⟨rfl, rfl⟩⟩, (fun k hk => by cases hk), (fun i ev hi => by simp at hi)⟩, by simp, fun k hk => ⟨(hF k hk).1, (hF k hk).2.1, (hF k hk).2.2⟩, fun k hk => by rw [hk]; exact ⟨hb, hlb⟩⟩, h.old⟩
end


set_option maxRecDepth 100000 in
set_option maxHeartbeats 4000000 in
theorem plays_views (w : World) (sa : Option Addr) (n cap : Nat) (hs : ScriptAt w sa n) (hn : n ≤ 4000000000000) :
    Calls Tryz.prog 7 #[.slice sa n cap, .int .i64 16, .bool true] w fun e w' => e = .returned (.bool true) ∧ Below w.heap.size w w' := by
  have HS := hide hs
  clear hs
  go_enter Tryz.func7, Tryz.ntmps7
  go_wp2_with fail
  refine (booted_any w).mono ?_
  rintro e w1 ⟨p0, F0, rfl, h0, hF0, hb1⟩
  have H0 := hide h0
  have HF0 := hide hF0
  have HB1 := hide hb1
  clear h0 hF0 hb1
  go_wp2_with fail
  refine (booted_any w1).mono ?_
  rintro e w2 ⟨p1, F1, rfl, h1, hF1, hb2⟩
  have H1 := hide h1
  have HF1 := hide hF1
  have HB2 := hide hb2
  have H02 := hide (H0.out.below hb2)
  have Z2 : Hid (w.heap.size ≤ w2.heap.size) := by have := HB1.out.size; have := hb2.size; unfold Hid; omega
  clear h1 hF1 hb2
  go_wp2_with fail
  go_loopw [9] (fun i w' => ∃ k : Nat, k ≤ n ∧ i = .int .i64 k ∧ TwoV w w' w2.heap.size (w2.heap.size + 1) p0 p1 (3 + k) k) (fun i _ => n - (intOf i).toNat)
  case atStart => exact ⟨0, by omega, rfl, (two_startV (two_start HB1.out HB2.out H02.out H1.out HF0.out HF1.out H0.out.lts) (by have := Z2.out; omega) (by omega)).more (by omega) (by omega)⟩
  case round =>
    obtain ⟨k, hk, rfl, ht⟩ := hrel
    by_cases hkn : k < n
    · have hki : (k : Int) < (n : Int) := by omega
      obtain ⟨sb, so, hsa, hsb, hops⟩ := HS.out.resolve_left (by omega)
      obtain ⟨K, T, v, c0, c1, c2, hK, ha⟩ := hops k hkn
      subst hsa
      have d0 : wr.cell? ⟨sb, so + k * 3, none⟩ = some (.int .i64 K) := (cell_same' (ht.old.block sb hsb) _).trans c0
      have d1 : wr.cell? ⟨sb, so + k * 3 + 1, none⟩ = some (.int .i64 T) := (cell_same' (ht.old.block sb hsb) _).trans c1
      have d2 : wr.cell? ⟨sb, so + k * 3 + 2, none⟩ = some v := (cell_same' (ht.old.block sb hsb) _).trans c2
      have HT := hide ht
      have HA := hide ha
      have HK := hide hK
      clear ht hops ha hK c0 c1 c2 
      obtain ⟨va, vl, vc, hv⟩ := HA.out.form
      subst hv
      have hal : Below wr.heap.size wr (wr.alloc (.cells #[.int .i64 K, .int .i64 T, .slice va vl vc] 34)) := (Below.refl _ _).alloc (Nat.le_refl _) _
      have HT1 := hide (HT.out.later hal)
      have HA1 := hide (HA.out.older (HT.out.old.trans (hal.mono HT.out.old.size)))
      clear hal
      obtain ⟨j, hj, hpv⟩ := pick_val K HK.out
      have PV := hide hpv
      clear hpv
      rcases hj with rfl | rfl
      · obtain ⟨pk, F, G, bv, ents, cl, hpr, hbk, hen, hdis, hFk, hgo⟩ := (HT1.out.later (Below.refl _ _).drew).pick (k := 0) (by omega)
        have hll := HT1.out.list.lt
        have ST := hide (step_all hpr (by omega) hbk hen (by omega) hdis K T (.slice va vl vc) ((HA1.out.fr ((Fr.refl _ _).drew)).sub hFk))
        have HGO := hide hgo
        clear hpr hFk hgo hbk hen hdis
        have BO := hide (Blk.new wr #[.int .i64 K, .int .i64 T, .slice va vl vc] 34)
        have HN : Hid (T ≤ 16 ∨ 16 < T ∧ ¬ T ≤ 16) := by unfold Hid; omega
        have cl' : (wr.alloc (.cells #[.int .i64 K, .int .i64 T, .slice va vl vc] 34)).cell? ⟨w2.heap.size, 0, none⟩ = some (.pointer (some ⟨pk, 0, none⟩)) := cl
        clear cl
        rcases HN.out with hT5 | ⟨hT5, hT6⟩
        all_goals
          go_wp2_with fail
          generalize (wr.alloc (.cells #[.int .i64 K, .int .i64 T, .slice va vl vc] 34)) = w3 at *
          have o0 : w3.cell? ⟨wr.heap.size, 0, none⟩ = some (.int .i64 K) := by rw [BO.out.cell]; rfl
          have o1 : w3.cell? ⟨wr.heap.size, 1, none⟩ = some (.int .i64 T) := by rw [BO.out.cell]; rfl
          have o2 : w3.cell? ⟨wr.heap.size, 2, none⟩ = some (.slice va vl vc) := by rw [BO.out.cell]; rfl
          refine wp_region_still_tail 8 (by kernel_rfl) (by kernel_rfl) ?_
          simp only [List.take_succ_cons, List.take_zero, List.drop_succ_cons, List.drop_zero]
          iterate 3 still_step
          still_call (PV.out _)
          repeat still_step
          refine wpStill_nil ?_
          go_wp2_with fail
          refine ST.out.mono ?_
          rintro e w4 ⟨rfl, hg4⟩
          have HT4 := hide (HGO.out w4 hg4)
          clear hg4
          go_wp2_with fail
          refine (HT4.out.looks (by omega)).mono ?_
          rintro e w5 ⟨rfl, hw⟩
          have HT5 := hide (HT4.out.later hw)
          clear hw
          go_wp2_with fail
          exact ⟨⟨k + 1, by omega, by go_num, HT5.out.more (by omega) (by omega)⟩, by simp [intOf]; omega⟩
      · obtain ⟨pk, F, G, bv, ents, cl, hpr, hbk, hen, hdis, hFk, hgo⟩ := (HT1.out.later (Below.refl _ _).drew).pick (k := 1) (by omega)
        have hll := HT1.out.list.lt
        have ST := hide (step_all hpr (by omega) hbk hen (by omega) hdis K T (.slice va vl vc) ((HA1.out.fr ((Fr.refl _ _).drew)).sub hFk))
        have HGO := hide hgo
        clear hpr hFk hgo hbk hen hdis
        have BO := hide (Blk.new wr #[.int .i64 K, .int .i64 T, .slice va vl vc] 34)
        have HN : Hid (T ≤ 16 ∨ 16 < T ∧ ¬ T ≤ 16) := by unfold Hid; omega
        have cl' : (wr.alloc (.cells #[.int .i64 K, .int .i64 T, .slice va vl vc] 34)).cell? ⟨w2.heap.size, 1, none⟩ = some (.pointer (some ⟨pk, 0, none⟩)) := cl
        clear cl
        rcases HN.out with hT5 | ⟨hT5, hT6⟩
        all_goals
          go_wp2_with fail
          generalize (wr.alloc (.cells #[.int .i64 K, .int .i64 T, .slice va vl vc] 34)) = w3 at *
          have o0 : w3.cell? ⟨wr.heap.size, 0, none⟩ = some (.int .i64 K) := by rw [BO.out.cell]; rfl
          have o1 : w3.cell? ⟨wr.heap.size, 1, none⟩ = some (.int .i64 T) := by rw [BO.out.cell]; rfl
          have o2 : w3.cell? ⟨wr.heap.size, 2, none⟩ = some (.slice va vl vc) := by rw [BO.out.cell]; rfl
          refine wp_region_still_tail 8 (by kernel_rfl) (by kernel_rfl) ?_
          simp only [List.take_succ_cons, List.take_zero, List.drop_succ_cons, List.drop_zero]
          iterate 3 still_step
          still_call (PV.out _)
          repeat still_step
          refine wpStill_nil ?_
          go_wp2_with fail
          refine ST.out.mono ?_
          rintro e w4 ⟨rfl, hg4⟩
          have HT4 := hide (HGO.out w4 hg4)
          clear hg4
          go_wp2_with fail
          refine (HT4.out.looks (by omega)).mono ?_
          rintro e w5 ⟨rfl, hw⟩
          have HT5 := hide (HT4.out.later hw)
          clear hw
          go_wp2_with fail
          exact ⟨⟨k + 1, by omega, by go_num, HT5.out.more (by omega) (by omega)⟩, by simp [intOf]; omega⟩
    · have hki : ¬ (k : Int) < (n : Int) := by omega
      have HT0 := hide (ht.more (m' := 3 + n) (n' := n) (by omega) (by omega))
      clear ht
      go_wp2_with fail
      go_loopw [13] (fun i w' => ∃ k : Nat, k ≤ 2 ∧ i = .int .i64 k ∧ TwoV w w' w2.heap.size (w2.heap.size + 1) p0 p1 (3 + n + 33 * k) (n + 33 * k)) (fun i _ => 2 - (intOf i).toNat)
      case atStart => exact ⟨0, by omega, rfl, HT0.out.more (by omega) (by omega)⟩
      case round =>
        obtain ⟨j, hj, rfl, ht⟩ := hrel
        by_cases hj2 : j < 2
        · have hji : (j : Int) < 2 := by omega
          obtain ⟨pk, F, G, bv, ents, cl, hpr, hbk, hen, hdis, hFk, hgo⟩ := ht.pick hj2
          obtain ⟨kb, b, r, M, ob, cb, qp, h1, h2, h3, h4, h5⟩ := hpr
          have HT := hide ht
          have hll := ht.list.lt
          have v2 := later_cell cl hll
          have v0 := later_cell (w := wr) (b := pk) (n := 0) (v := .pointer (some ⟨kb, 0, none⟩)) (by rw [h2.cell]; rfl) h2.lt
          have v1 := later_cell (w := wr) (b := pk) (n := 1) (v := .pointer (some ⟨b, 0, none⟩)) (by rw [h2.cell]; rfl) h2.lt
          obtain ⟨nt, nl, hnow⟩ := now_form M
          have PN := hide (fun x : Later wr => Calls.later_of (x := x) (p_now (h1.still (Fr.of_below x.2)).kp))
          have RN := hide (fun x : Later wr => Calls.later_of (x := x) (r_now (h1.still (Fr.of_below x.2)).rr h1.inv))
          simp only [hnow, nowV] at PN RN
          clear hnow
          clear ht h1 h2 h3 h4 h5 hgo hFk hbk hen hdis HT0
          go_wp2_with fail
          have hne : Nonempty (Later wr) := ⟨⟨wr, Below.refl _ _⟩⟩
          refine wp_region_later (by kernel_rfl) (by kernel_rfl) ?_
          repeat (go_big_quiet_step ((first | (go_at_call 12; exact PN.out _) | (go_at_call 13; exact RN.out _))))
          refine wpQuiet_nil ?_
          rintro _ ⟨wl, rfl⟩
          clear hne
          have HT3 := hide (HT.out.later wl.2)
          clear PN RN v0 v1 v2 cl HT
          go_wp2_with fail
          go_loopw [14] (fun i w' => ∃ s : Nat, s ≤ 32 ∧ i = .int .i64 s ∧ TwoV w w' w2.heap.size (w2.heap.size + 1) p0 p1 (3 + n + 33 * j + s) (n + 33 * j + s)) (fun i _ => 32 - (intOf i).toNat)
          case atStart => exact ⟨0, by omega, rfl, HT3.out.more (by omega) (by omega)⟩
          case round =>
            obtain ⟨s, hs, rfl, ht⟩ := hrel
            by_cases hs2 : s < 32
            · have hsi : (s : Int) < 32 := by omega
              obtain ⟨pk, F, G, bv, ents, cl, hpr, hbk, hen, hdis, hFk, hgo⟩ := ht.pick hj2
              have hll := ht.list.lt
              have hnew : ¬ F wr.heap.size := fun h => by have := hpr.lt h; omega
              have hba : Below wr.heap.size wr (wr.alloc (.cells #[.int .i64 s] 3)) := (Below.refl _ _).alloc (Nat.le_refl _) _
              have TR := hide (pr_trap (hpr.below hba) (by omega) 2 (.slice (some ⟨wr.heap.size, 0, none⟩) 1 1) (Or.inr ⟨⟨wr.heap.size, 0, none⟩, [(s : Int)], 1, rfl, by simp, Or.inr ⟨wr.heap.size, 0, rfl, ⟨by simp, fun i x hx => by
                have hi := (List.getElem?_eq_some_iff.1 hx).1
                simp at hi
                subst hi
                simp at hx
                subst hx
                exact (Blk.new wr #[.int .i64 s] 3).cell 0⟩, hnew⟩, fun x hx => by
                  simp at hx
                  subst hx
                  exact ⟨by omega, by omega⟩⟩))
              have HGO : Hid (∀ w', PrGoes (wr.alloc (.cells #[.int .i64 s] 3)) pk F (3 + n + 33 * j + s) w' → TwoV w w' w2.heap.size (w2.heap.size + 1) p0 p1 (3 + n + 33 * j + s + 1) (n + 33 * j + s + 1)) := fun w' h => hgo w' ((StepGoes.of_pr (hbk.below hba) hen hdis h).from hba)
              clear hpr hFk hgo ht hnew hba hbk hen hdis
              go_wp2_with fail
              refine TR.out.mono ?_
              rintro e w4 ⟨rfl, hg4⟩
              have HT4 := hide (HGO.out w4 hg4)
              clear hg4 TR HGO
              go_wp2_with fail
              exact ⟨⟨s + 1, by omega, by go_num, HT4.out.more (by omega) (by omega)⟩, by simp [intOf]; omega⟩
            · have hsi : ¬ (s : Int) < 32 := by omega
              have hs32 : s = 32 := by omega
              subst hs32
              obtain ⟨pk, F, G, bv, ents, cl, hpr, hbk, hen, hdis, hFk, hgo⟩ := ht.pick hj2
              have hll := ht.list.lt
              have ST := hide (step_all hpr (by omega) hbk hen (by omega) hdis 0 (-3) (.slice none 0 0) (Or.inl rfl))
              have HGO := hide hgo
              clear hpr hFk hgo ht hbk hen hdis
              go_wp2_with fail
              refine ST.out.mono ?_
              rintro e w4 ⟨rfl, hg4⟩
              have HT4 := hide (HGO.out w4 hg4)
              clear hg4 ST HGO
              go_wp2_with fail
              go_roundw
              case rel => exact ⟨j + 1, by omega, by go_num, HT4.out.more (by omega) (by omega)⟩
              case measure => simp [intOf]; omega
        · have hji : ¬ (j : Int) < 2 := by omega
          have HT := hide ht
          clear ht HT0
          go_wp2_with fail
          refine (HT.out.looks (by omega)).mono ?_
          rintro e w5 ⟨rfl, hw⟩
          have HT5 := hide (HT.out.later hw)
          clear hw
          go_wp2_with fail
          go_ret
          exact ⟨rfl, HT5.out.old⟩

end Go.Proofs.YtloppmepfkkblaaGreat
end
