/- What a trap of the plain kernel tells lies in its range; a refused one changes nothing. Without conditions. -/
import Derived.OrdersHeld
import Derived.StillTail
import Derived.Test.YtloppmepfkkblaaJMKeepsToViewM
import Derived.Test.YtloppmepfkkblaaJBaseToTreeKeeps

section
open Go Go.RowKit
namespace Go.Proofs.Ytloppmepfkkblaa

/-- Used and the first wrong thing lie in their ranges. -/
def Rng (p : Nat × Int) : Prop := p.1 < 256 ∧ 0 ≤ p.2 ∧ p.2 ≤ 9

theorem rng_zero : Rng (0, 0) := ⟨by decide, by decide, by decide⟩
theorem rng_failed {e : Int} {p : Nat × Int} (he : 0 ≤ e ∧ e ≤ 9) (h : Rng p) : Rng (failed e p) := by
  unfold failed
  split
  · exact ⟨h.1, he⟩
  · exact h
theorem rng_ite {c : Prop} [Decidable c] {a b : Nat × Int} (ha : Rng a) (hb : Rng b) : Rng (if c then a else b) := by
  split
  · exact ha
  · exact hb
theorem sub_lt {a b : Nat} (h : sub a b = true) (hb : b < 256) : a < 256 := by
  have : a ||| b = b := by simpa [sub] using h
  have h2 : a ≤ a ||| b := Nat.left_le_or
  omega
theorem or_lt256 {a b : Nat} (ha : a < 256) (hb : b < 256) : a ||| b < 256 := Nat.or_lt_two_pow (n := 8) ha hb
theorem rng_chk {O x y : Nat} {p : Nat × Int} (hO : O < 256) (h : Rng p) : Rng (chk O x y p) := by
  unfold chk
  split
  · exact h
  · split
    · rename_i hs
      exact ⟨or_lt256 h.1 (sub_lt hs hO), Int.le_refl 0, by show (0 : Int) ≤ 9; decide⟩
    · exact ⟨h.1, by show (0 : Int) ≤ 4; decide, by show (4 : Int) ≤ 9; decide⟩
theorem rng_path {S : Nat → Th} {O T : Nat} (hO : O < 256) : ∀ (n : Nat) (s : Int) (p : Nat × Int), Rng p → Rng (pathF S O T n s p)
  | 0, _, _, h => h
  | n + 1, s, p, h => by
    unfold pathF
    split
    · exact h
    · exact rng_chk hO (rng_path hO n _ p h)
theorem rng_there {S : Nat → Th} {s : Nat} {p : Nat × Int} (h : Rng p) : Rng (thereF S s p) := by
  unfold thereF
  split
  · exact rng_failed (by decide) h
  · exact h
theorem rng_kind {S : Nat → Th} {s : Nat} {k : Int} {p : Nat × Int} (h : Rng p) : Rng (kindF S s k p) := by
  unfold kindF
  split
  · exact h
  · exact rng_failed (by decide) h
theorem rng_making {S : Nat → Th} {O T n c s l : Nat} {p : Nat × Int} (hO : O < 256) (h : Rng p) : Rng (makingF S O T n c s l p) := by
  unfold makingF
  have ite : ∀ {c : Prop} [Decidable c] {e : Int} {q : Nat × Int}, (0 ≤ e ∧ e ≤ 9) → Rng q → Rng (if c then q else failed e q) := fun he hq => by
    split
    · exact hq
    · exact rng_failed he hq
  have ite' : ∀ {c : Prop} [Decidable c] {e : Int} {q : Nat × Int}, (0 ≤ e ∧ e ≤ 9) → Rng q → Rng (if c then failed e q else q) := fun he hq => by
    split
    · exact rng_failed he hq
    · exact hq
  exact rng_chk hO (ite (by decide) (ite (by decide) (ite (by decide) (rng_chk hO (rng_chk hO (ite' (by decide) (rng_path hO _ _ _ h)))))))

theorem rng_ask {M : MS} (me : Nat) (n : Int) (xs : List Int) (hO : (M.S me).owns < 256) : Rng (M.ask me n xs) := by
  have find : ∀ s, Rng (mFind M.S (M.S me).owns (M.S me).label s) := fun s => rng_there (rng_path hO _ _ _ rng_zero)
  have make : ∀ c s l, Rng (mMake M.S (M.S me).owns (M.S me).label c s l) := fun c s l => rng_making hO rng_zero
  have drop : ∀ q, Rng (mDrop M.S (M.S me).owns (M.S me).label q) := fun q => rng_chk hO (rng_chk hO (rng_path hO _ _ _ rng_zero))
  have free : ∀ s, Rng (mFree M.S (M.S me).owns (M.S me).label s) := fun s => rng_ite (rng_failed (by decide) (rng_path hO _ _ _ rng_zero)) (rng_chk hO (find _))
  have cont : ∀ c s l a e g h, Rng (mCont M.S (M.S me).owns (M.S me).label c s l a e g h) := fun c s l a e g h => rng_ite (rng_failed (by decide) (make _ _ _)) (make _ _ _)
  have thread : ∀ c s l o, Rng (mThread M.S (M.S me).owns (M.S me).label c s l o) := fun c s l o => rng_ite (make _ _ _) (rng_failed (by decide) (make _ _ _))
  have send : ∀ s n, Rng (mSend M.S (M.S me).owns (M.S me).label s n) := fun s n => rng_ite (rng_failed (by decide) (rng_kind (rng_chk hO (find _)))) (rng_kind (rng_chk hO (find _)))
  have recv : ∀ s n, Rng (mRecv M.S (M.S me).owns (M.S me).label s n) := fun s n => rng_ite (rng_failed (by decide) (rng_kind (rng_chk hO (rng_chk hO (find _))))) (rng_kind (rng_chk hO (rng_chk hO (find _))))
  have give : ∀ q s, Rng (mGive M.S (M.S me).owns (M.S me).label q s) := fun q s => rng_chk hO (rng_kind (rng_there (rng_path hO _ _ _ (drop _))))
  exact rng_ite (rng_path hO _ _ _ rng_zero) (rng_ite (find _) (rng_ite (make _ _ _) (rng_ite (rng_kind (rng_chk hO (find _))) (rng_ite (rng_kind (rng_chk hO (find _))) (rng_ite (cont _ _ _ _ _ _ _) (rng_ite (free _) (rng_ite (thread _ _ _ _) (rng_ite (give _ _) (rng_ite (drop _) (rng_ite (rng_kind (rng_chk hO (find _))) (rng_ite (make _ _ _) (rng_ite (send _ _) (rng_ite (recv _ _) rng_zero)))))))))))))

/-- What Refused asks of what a trap tells and leaves. -/
def Fine (M : MS) (r : (Int × Int × Nat) × MS) : Prop := 0 ≤ r.1.1 ∧ r.1.1 ≤ 9 ∧ r.1.2.2 < 256 ∧ (r.1.1 ≠ 0 → r.2 = M ∧ r.1.2.1 = 0)
theorem fine_stop {M : MS} {e : Int} {u : Nat} (he : 0 ≤ e ∧ e ≤ 9) (hu : u < 256) : Fine M ((e, 0, u), M) := ⟨he.1, he.2, hu, fun _ => ⟨rfl, rfl⟩⟩
theorem fine_ite {M : MS} {c : Prop} [Decidable c] {a b : (Int × Int × Nat) × MS} (ha : Fine M a) (hb : Fine M b) : Fine M (if c then a else b) := by
  split
  · exact ha
  · exact hb

theorem trap_range {M : MS} (h : MInv M) (n : Int) (xs : List Int) : Fine M (M.trap n xs) := by
  unfold MS.trap
  cases hc : M.cur with
  | none => exact fine_stop (by decide) (by decide)
  | some me =>
    have hr := rng_ask (M := M) me n xs (h.tree.wf me (h.cur_some hc).1).2
    exact fine_ite (fine_stop (by decide) (by decide)) (fine_ite (fine_stop (by decide) (by decide)) (fine_ite ⟨Int.le_refl 0, by show (0 : Int) ≤ 9; decide, hr.1, fun h => absurd rfl h⟩ (fine_stop hr.2 hr.1)))

/-- Where no thread is current, and where there is no such trap. -/
theorem trap_idle {M : MS} (hc : M.cur = none) (n : Int) (xs : List Int) : M.trap n xs = ((1, 0, 0), M) := by
  unfold MS.trap; rw [hc]
theorem trap_nosuch {M : MS} {me : Nat} (hc : M.cur = some me) (n : Int) (xs : List Int) (hn : n < 1 ∨ 17 ≤ n) : M.trap n xs = ((2, 0, 0), M) := by
  unfold MS.trap
  rw [hc]
  dsimp only
  rw [if_pos (by omega)]

end Go.Proofs.Ytloppmepfkkblaa
end

section
/- A region that draws its order: what only reads may be taken first under a condition on the world; behind the last operations, which wait for all, the condition is not asked. -/
open Go
namespace Go.Proofs.Ytloppmepfkkblaa

section
variable {P : Program} {ops : Array Oper} {Q : Exit → Act → World → Prop} {md : Region.Mode} {S : World → Prop} {n : Nat}

/-- Whatever order is picked from here on; S holds behind every operation ahead of number n. -/
def wpAnyT (P : Program) (md : Region.Mode) (ops : Array Oper) (Q : Exit → Act → World → Prop) (S : World → Prop) (n : Nat) : Nat → Array Bool → Act → World → Prop
  | 0, listed, a, w => Region.ready md ops listed = [] ∧ Q .normal a w
  | fuel + 1, listed, a, w =>
    (Region.ready md ops listed = [] → Q .normal a w) ∧
    ∀ i ∈ Region.ready md ops listed, wpOp P ops Q i (fun a' w' => (i < n → S w') ∧ wpAnyT P md ops Q S n fuel (listed.setIfInBounds i true) a' w') a w

theorem wpAny_of_tail : ∀ (fuel : Nat) (listed : Array Bool) (a : Act) (w : World), wpAnyT P md ops Q S n fuel listed a w → wpAny P md ops Q fuel listed a w
  | 0, _, _, _, h => h
  | fuel + 1, _, _, _, h => ⟨h.1, fun i hi => wpOp_mono (fun a' w' h' => wpAny_of_tail fuel _ a' w' h'.2) (h.2 i hi)⟩

theorem wpAnyT_first {i : Nat} {oi : Oper} {v : Value} (hi : ops[i]? = some oi) (hsel : ∀ (j : Nat) (o : Oper) cs b, ops[j]? = some o → o.op ≠ .select cs b)
    (hQ : ∀ c a w, Q (.panic c) (a.put oi.dst v) w → Q (.panic c) a w) (hs : Region.sinkB md ops n = true) (hc : Region.chainB md ops n = true) (hn : n < ops.size) (hin : i < n) :
    ∀ (fuel : Nat) (listed : Array Bool) (a : Act) (w : World), HeadInv md ops n listed →
      (∀ j oj, ops[j]? = some oj → j ≠ i → listed.getD j true = false → (∀ e ∈ oj.after, Region.binds md e = true → e.on ≠ i) → oi.apart ops oj = true) →
      i ∈ Region.ready md ops listed → YieldsIf P ops S oi v a → S w →
      wpAnyT P md ops Q S n fuel (listed.setIfInBounds i true) (a.put oi.dst v) w → wpAnyT P md ops Q S n (fuel + 1) listed a w := by
  intro fuel
  induction fuel with
  | zero =>
    intro listed a w _ _ hr hy hS H
    refine ⟨fun h => (by rw [h] at hr; cases hr), fun j hj => ?_⟩
    by_cases hji : j = i
    · subst hji; exact hy.wpOp hi hS ⟨fun _ => hS, H⟩
    · have := ready_mono hj hji
      rw [H.1] at this
      cases this
  | succ fuel ih =>
    intro listed a w inv hfree hr hy hS H
    have hun := (mem_ready.1 hr).1
    refine ⟨fun h => (by rw [h] at hr; cases hr), fun j hj => ?_⟩
    by_cases hji : j = i
    · subst hji; exact hy.wpOp hi hS ⟨fun _ => hS, H⟩
    · have hjn : j < n := by
        rcases Nat.lt_or_ge j n with h | h
        · exact h
        · exact absurd hj (tail_waits hs hc hn inv _ i rfl hin hun j h)
      have h1 := H.2 j (ready_mono hj hji)
      obtain ⟨hjun, oj, hoj, hall⟩ := mem_ready.1 hj
      have hnot : ∀ e ∈ oj.after, Region.binds md e = true → e.on ≠ i := fun e he hb heq => by
        have h1 := hall e he hb
        rw [heq, getD_both hun] at h1
        cases h1
      have h2 := wpOp_putIf hoj (hfree j oj hoj hji hjun hnot) (fun cs b => hsel i oi cs b hi) (fun cs b => hsel j oj cs b hoj) hQ hy h1
      have hfree' : ∀ k ok, ops[k]? = some ok → k ≠ i → (listed.setIfInBounds j true).getD k true = false →
          (∀ e ∈ ok.after, Region.binds md e = true → e.on ≠ i) → oi.apart ops ok = true := fun k ok hk hki hun hno => by
        refine hfree k ok hk hki ?_ hno
        by_cases hjk : j = k
        · subst hjk; exact hjun
        · rw [getD_set_ne true hjk] at hun; exact hun
      refine wpOp_mono (fun a' w' h3 => ⟨h3.2.1, ih (listed.setIfInBounds j true) a' w' (inv.set hj hjn) hfree' (ready_mono hr (Ne.symm hji)) h3.1 (h3.2.1 hjn) ?_⟩) h2
      rw [Array.setIfInBounds_comm _ _ hji]
      exact h3.2.2

/-- The operations of a plan, one behind the other, each yielding its value under S. -/
def wpPlan (P : Program) (ops : Array Oper) (S : World → Prop) (K : Act → Prop) : List Nat → Act → Prop
  | [], a => K a
  | i :: l, a => match ops[i]? with
    | none => False
    | some o => ∃ v, YieldsIf P ops S o v a ∧ wpPlan P ops S K l (a.put o.dst v)

theorem wpPlan_cons {K : Act → Prop} {i : Nat} {l : List Nat} {a : Act} {o : Oper} {v : Value} (ho : ops[i]? = some o) (hg : o.guard = none) (hy : ∀ w, S w → (execOp a.eval o).run P w = .ok (.value v) w) (h : wpPlan P ops S K l (a.put o.dst v)) : wpPlan P ops S K (i :: l) a := by
  unfold wpPlan
  rw [ho]
  exact ⟨v, Or.inl ⟨by simp [Region.wanted, hg], hy⟩, h⟩
theorem wpPlan_nil {K : Act → Prop} {a : Act} (h : K a) : wpPlan P ops S K [] a := h

/-- May the plan be? -/
def planB (md : Region.Mode) (ops : Array Oper) (n : Nat) : List Nat → Array Bool → Bool
  | [], _ => true
  | i :: l, listed => decide (i < n) && (Region.ready md ops listed).contains i && Region.free md ops listed i && planB md ops n l (listed.setIfInBounds i true)

def planned : List Nat → Array Bool → Array Bool
  | [], listed => listed
  | i :: l, listed => planned l (listed.setIfInBounds i true)

theorem wpAnyT_plan (hsel : Region.noSelect ops = true) (hQ : ∀ c (a : Act) d v w, Q (.panic c) (a.put d v) w → Q (.panic c) a w) (hs : Region.sinkB md ops n = true) (hc : Region.chainB md ops n = true) (hn : n < ops.size) :
    ∀ (l : List Nat) (fuel : Nat) (listed : Array Bool) (a : Act) (w : World), HeadInv md ops n listed → planB md ops n l listed = true → S w →
      wpPlan P ops S (fun a' => wpAnyT P md ops Q S n fuel (planned l listed) a' w) l a → wpAnyT P md ops Q S n (l.length + fuel) listed a w
  | [], fuel, listed, a, w, _, _, _, h => by rw [List.length_nil, Nat.zero_add]; exact h
  | i :: l, fuel, listed, a, w, inv, hB, hS, h => by
    simp only [planB, Bool.and_eq_true, decide_eq_true_eq] at hB
    obtain ⟨⟨⟨hin, hr⟩, hf⟩, hB'⟩ := hB
    unfold wpPlan at h
    cases ho : ops[i]? with
    | none => rw [ho] at h; exact h.elim
    | some o =>
      rw [ho] at h
      obtain ⟨v, hy, h⟩ := h
      have hr' : i ∈ Region.ready md ops listed := by simpa using hr
      rw [List.length_cons, show l.length + 1 + fuel = (l.length + fuel) + 1 by omega]
      exact wpAnyT_first ho (Region.noSelect_spec hsel) (fun c a w => hQ c a o.dst v w) hs hc hn hin (l.length + fuel) listed a w inv (Region.free_spec ho hf) hr' hy hS (wpAnyT_plan hsel hQ hs hc hn l fuel _ _ w (inv.set hr' hin) hB' hS h)

/-- The one that may come up now. -/
theorem wpAnyT_one {i : Nat} {o : Oper} {fuel : Nat} {listed : Array Bool} {a : Act} {w : World} (hr : Region.ready md ops listed = [i]) (ho : ops[i]? = some o) (hg : o.guard = none)
    (h : ∀ K : Act → World → Prop, (∀ a' w', (i < n → S w') → wpAnyT P md ops Q S n fuel (listed.setIfInBounds i true) a' w' → K a' w') → Oper.wp P o a w K Q) : wpAnyT P md ops Q S n (fuel + 1) listed a w := by
  refine ⟨fun h0 => (by rw [hr] at h0; cases h0), fun j hj => ?_⟩
  rw [hr] at hj
  have hji : j = i := by simpa using hj
  subst hji
  have hw : Region.wanted o (yielded ops a.tmps) = true := by simp [Region.wanted, hg]
  unfold wpOp
  simp only [ho, hw, if_true]
  exact Or.inl (h _ (fun a' w' h1 h2 => ⟨h1, h2⟩))

theorem wpAnyT_done {listed : Array Bool} {a : Act} {w : World} (hr : Region.ready md ops listed = []) (h : Q .normal a w) : wpAnyT P md ops Q S n 0 listed a w := ⟨hr, h⟩

def planAll (ops : Array Oper) (n : Nat) (l : List Nat) : Bool :=
  Region.noSelect ops && decide (n < ops.size) && Region.sinkB .any ops n && Region.chainB .any ops n && planB .any ops n l (Array.replicate ops.size false) && decide (l.length ≤ ops.size)

theorem wp_region_plan {id : Nat} {a : Act} {w : World} (S : World → Prop) (n : Nat) (l : List Nat) (hm : P.follows .mixedOrders = true) (hB : planAll ops n l = true) (hQ : ∀ c (a : Act) d v w, Q (.panic c) (a.put d v) w → Q (.panic c) a w) (hS : S w.drew)
    (h : wpPlan P ops S (fun a' => wpAnyT P .any ops Q S n (ops.size - l.length) (planned l (Array.replicate ops.size false)) a' w.drew) l a) : (Code.region id ops true).wp P Q a w := by
  simp only [planAll, Bool.and_eq_true, decide_eq_true_eq] at hB
  obtain ⟨⟨⟨⟨⟨hsel, hn⟩, hs⟩, hc⟩, hp⟩, hl⟩ := hB
  refine wp_region_any hm (wpAny_of_tail (S := S) (n := n) _ _ _ _ ?_)
  have inv0 : HeadInv .any ops n (Array.replicate ops.size false) :=
    ⟨by simp, fun j oj _ hl => (by rw [getD_replicate_false] at hl; cases hl), fun t _ ht => getD_in (by simpa using ht) (getD_replicate_false _ _)⟩
  have H := wpAnyT_plan (P := P) (Q := Q) hsel hQ hs hc hn l (ops.size - l.length) _ a w.drew inv0 hp hS h
  rw [show l.length + (ops.size - l.length) = ops.size by omega] at H
  exact H

/-- A plan, by its operations. -/
def wpPlanL (P : Program) (ops : Array Oper) (S : World → Prop) (K : Act → Prop) : List Oper → Act → Prop
  | [], a => K a
  | o :: l, a => ∃ v, YieldsIf P ops S o v a ∧ wpPlanL P ops S K l (a.put o.dst v)

theorem wpPlanL_cons {K : Act → Prop} {l : List Oper} {a : Act} {o : Oper} {v : Value} (hg : o.guard = none) (hy : ∀ w, S w → (execOp a.eval o).run P w = .ok (.value v) w) (h : wpPlanL P ops S K l (a.put o.dst v)) : wpPlanL P ops S K (o :: l) a :=
  ⟨v, Or.inl ⟨by simp [Region.wanted, hg], hy⟩, h⟩
theorem wpPlanL_nil {K : Act → Prop} {a : Act} (h : K a) : wpPlanL P ops S K [] a := h

theorem wpPlan_of_ops {K : Act → Prop} : ∀ (pl : List Nat) (lo : List Oper) (a : Act), pl.map (fun i => ops[i]?) = lo.map some → wpPlanL P ops S K lo a → wpPlan P ops S K pl a
  | [], [], _, _, h => h
  | [], _ :: _, _, he, _ => by cases he
  | _ :: _, [], _, he, _ => by cases he
  | i :: pl, o :: lo, a, he, h => by
    simp only [List.map_cons, List.cons.injEq] at he
    obtain ⟨v, hy, h⟩ := h
    unfold wpPlan
    rw [he.1]
    exact ⟨v, hy, wpPlan_of_ops pl lo _ he.2 h⟩

/-- The first m operations, then c from number b on, are taken first. -/
theorem wp_region_plan2 {id : Nat} {a : Act} {w : World} {l : List Oper} (S : World → Prop) (n m b c : Nat) (hm : P.follows .mixedOrders = true) (hB : planAll l.toArray n (List.range m ++ List.range' b c) = true)
    (hE : (List.range m ++ List.range' b c).map (fun i => l.toArray[i]?) = (l.take m ++ (l.drop b).take c).map some) (hQ : ∀ c (a : Act) d v w, Q (.panic c) (a.put d v) w → Q (.panic c) a w) (hS : S w.drew)
    (h : wpPlanL P l.toArray S (fun a' => wpAnyT P .any l.toArray Q S n (l.toArray.size - (List.range m ++ List.range' b c).length) (planned (List.range m ++ List.range' b c) (Array.replicate l.toArray.size false)) a' w.drew) (l.take m ++ (l.drop b).take c) a) : (Code.region id l.toArray true).wp P Q a w :=
  wp_region_plan S n _ hm hB hQ hS (wpPlan_of_ops _ _ _ hE h)
end

end Go.Proofs.Ytloppmepfkkblaa
end
