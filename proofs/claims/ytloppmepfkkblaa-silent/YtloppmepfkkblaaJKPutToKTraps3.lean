/- What the program's 'put', 'kindIn', 'empty', 'dropThreads', 'remove' do. -/
import Derived.Test.YtloppmepfkkblaaJKBase0ToKReq
import Derived.Test.YtloppmepfkkblaaJKReachToKComm

section
open Go Go.Proofs Go.RowKit
namespace Go.Proofs.Ytloppmepfkkblaa

set_option maxHeartbeats 1000000 in
theorem kput (w : World) (kb g s : Nat) (k l : Int) (v : Value) (hk14 : k = 1 ∨ k = 2 ∨ k = 3 ∨ k = 4) (hs : s < 32) (hkb : kb < w.heap.size) (hg : g < w.heap.size) (hgk : g ≠ kb) (h0 : w.cell? ⟨g, 0, none⟩ = some (.int .i64 s)) (h1 : w.cell? ⟨g, 1, none⟩ = some (.int .i64 k)) (h2 : w.cell? ⟨g, 2, none⟩ = some (.int .i64 l))
    (hv : w.cell? ⟨kb, s, none⟩ = some v) (hz : w.frozen? ⟨kb, s, none⟩ = false) :
    Calls Try.prog 49 #[.pointer (some ⟨kb, 0, none⟩), .iface (tyOf k) (.pointer (some ⟨g, 0, none⟩))] w fun e w' => e = .returned (.tuple #[]) ∧ ∃ w1, Below w.heap.size w w1 ∧ w' = w1.setCell ⟨kb, s, none⟩ (.iface (tyOf k) (.pointer (some ⟨g, 0, none⟩))) := by
  have HM : Hid (∀ w', w'.heap[g]? = w.heap[g]? → (method 244 (tyOf k) (.pointer (some ⟨g, 0, none⟩)) "cloister/cloister.place").run Try.prog w' = .ok (25, .agg #[.int .i64 s, .int .i64 k, .int .i64 l]) w') := fun w' hb => by
    have e := cell_same' hb
    exact method_place w' g _ _ _ hk14 ((e 0).trans h0) ((e 1).trans h1) ((e 2).trans h2)
  have HC : Hid (∀ w', Below w.heap.size w w' → w'.cell? ⟨kb, s, none⟩ = some v ∧ w'.frozen? ⟨kb, s, none⟩ = false) := fun w' hb =>
    ⟨(cell_same' (hb.block kb hkb) s).trans hv, (frozen_same' (hb.block kb hkb) s).trans hz⟩
  have hsi : (s : Int) < 32 := by omega
  have hs0 : (0 : Int) ≤ (s : Int) := by omega
  clear h0 h1 h2 hv hz hk14
  generalize tyOf k = T at *
  go_enter Try.func49, Try.ntmps49
  go_wp2_with fail
  go_region_held3 (fun w' => (method 244 T (.pointer (some ⟨g, 0, none⟩)) "cloister/cloister.place").run Try.prog w' = .ok (25, .agg #[.int .i64 s, .int .i64 k, .int .i64 l]) w')
    (first | exact HM.out _ rfl | (apply HM.out; rename_i hb1; exact hb1.block g hg) | (apply HM.out; apply Eq.trans; exact Below.heap_setCell _ _ _ _ hgk; exact hb1.block g hg))
    (first | (go_at_call 25; refine (place_any _ _ _ _).mono ?_; rintro e w1 ⟨rfl, hb1⟩; obtain ⟨hc1, hf1⟩ := HC.out w1 (below_next hb1 (Below.drew (Below.refl _ _)))))
  go_wp2_with fail
  go_end0
  exact ⟨rfl, w1, below_next hb1 (Below.drew (Below.refl _ _)), rfl⟩

section
variable {w : World} {kb : Nat} {M : MS} {ob cb : Nat → Nat} {qp : Nat → Option Nat}

set_option maxHeartbeats 1000000 in
theorem kindIn_any (h : KP w kb M ob cb qp) (s : Nat) (hs : s < 32) :
    Calls Try.prog 57 #[.pointer (some ⟨kb, 0, none⟩), .int .i64 s] w fun e w' => e = .returned (.int .i64 (M.S s).kind) ∧ Below w.heap.size w w' := by
  have hsi : (s : Int) < 32 := by omega
  by_cases hk : (M.S s).kind = 0
  · have s0 := h.slot_nil hs hk
    rw [hk]
    clear h
    go_enter Try.func57, Try.ntmps57
    go_wp2_with fail
    go_ret
    exact ⟨rfl, by (repeat (first | exact Below.refl _ _ | refine Below.drew ?_ | refine below_drewN ?_ _ | refine Below.alloc ?_ (by simp <;> omega) _))⟩
  · have s0 := h.slot_ob hs hk
    have hnil := fun w => eql_nil_ob w (ob s) (M.S s).kind (h.kind14 hs hk)
    obtain ⟨b0, b1, b2⟩ := h.base hs hk
    have hm := method_kindOf w (ob s) _ _ _ (h.kind14 hs hk) b0 b1 b2
    clear h b0 b1 b2 hk
    generalize tyOf (M.S s).kind = T at *
    go_enter Try.func57, Try.ntmps57
    go_wp2_with fail
    refine (kindOf_any _ _ _ _).mono ?_
    rintro e w1 ⟨rfl, hb⟩
    go_wp2_with fail
    go_ret
    exact ⟨rfl, hb⟩

/-- What emptying a slot turns. -/
def EmptyFr (kb : Nat) (M : MS) (cb : Nat → Nat) (s : Nat) (k : Nat) : Prop := k = kb ∨ (M.S s).kind = 4 ∧ k = cb s

set_option maxHeartbeats 2000000 in
theorem empty_any (h : KP w kb M ob cb qp) (s : Nat) (hs : s < 32) :
    Calls Try.prog 75 #[.pointer (some ⟨kb, 0, none⟩), .int .i64 s] w fun e w' => e = .returned (.tuple #[]) ∧ KP w' kb (M.clear s) ob cb qp ∧ Fr (EmptyFr kb M cb s) w w' := by
  have hsi : (s : Int) < 32 := by omega
  have hz := h.frozen s
  have H := hide h
  by_cases hk : (M.S s).kind = 0
  · have s0 := h.slot_nil hs hk
    have hta := ta_port_nil
    clear h hk
    go_enter Try.func75, Try.ntmps75
    go_wp2_with fail
    go_end0
    exact ⟨rfl, H.out.putNil hs (fun _ _ => rfl), Fr.setCell (Fr.refl _ _) (Or.inl (Or.inl rfl)) _⟩
  · by_cases hk4 : (M.S s).kind = 4
    · have s0 := h.slot_ob hs hk
      have hta := fun w => ta_port_port w (ob s)
      rw [hk4, tyOf4] at s0
      have c3 := h.chan hs hk4
      obtain ⟨sn, rn, hc⟩ := h.chans s hs hk4
      obtain ⟨kcs, hkcs, -⟩ := h.kern
      have hne := (h.chans s hs hk4).ne hkcs
      have hcl := fun ats ty => run_close_open (P := Try.prog) (w := w) ats ty hc
      have HK4 := hide hk4
      have s0' : ({ w with heap := w.heap.setIfInBounds (cb s) (.chan 4 (ints (M.ws s)).toArray true sn rn false) } : World).cell? ⟨kb, s, none⟩ = some (.iface 118 (.pointer (some ⟨ob s, 0, none⟩))) := by
        rw [← s0]; simp only [World.cell?]; rw [Array.getElem?_setIfInBounds_ne hne]
      have hz' : ({ w with heap := w.heap.setIfInBounds (cb s) (.chan 4 (ints (M.ws s)).toArray true sn rn false) } : World).frozen? ⟨kb, s, none⟩ = false := by
        rw [← hz]; simp only [World.frozen?]; rw [Array.getElem?_setIfInBounds_ne hne]
      have hother : Hid (∀ k, k ≠ cb s → ({ w with heap := w.heap.setIfInBounds (cb s) (.chan 4 (ints (M.ws s)).toArray true sn rn false) } : World).heap[k]? = w.heap[k]?) := fun k hk => Array.getElem?_setIfInBounds_ne (Ne.symm hk)
      have hfr : Hid (Fr (EmptyFr kb M cb s) w ({ w with heap := w.heap.setIfInBounds (cb s) (.chan 4 (ints (M.ws s)).toArray true sn rn false) } : World)) :=
        ⟨rfl, rfl, rfl, by simp, fun k _ hn => Array.getElem?_setIfInBounds_ne (fun e => hn (Or.inr ⟨hk4, e.symm⟩))⟩
      clear h hk hk4 hc hne hkcs
      generalize ({ w with heap := w.heap.setIfInBounds (cb s) (.chan 4 (ints (M.ws s)).toArray true sn rn false) } : World) = W at *
      go_enter Try.func75, Try.ntmps75
      go_wp2_with fail
      go_end0
      exact ⟨rfl, H.out.putNil hs (fun k hk => hother.out k (hk HK4.out)), Fr.setCell hfr.out (Or.inl (Or.inl rfl)) _⟩
    · have s0 := h.slot_ob hs hk
      have hta := fun w => ta_port_no w (ob s) (M.S s).kind (h.kind14 hs hk) hk4
      clear h hk hk4
      generalize tyOf (M.S s).kind = T at *
      go_enter Try.func75, Try.ntmps75
      go_wp2_with fail
      go_end0
      exact ⟨rfl, H.out.putNil hs (fun _ _ => rfl), Fr.setCell (Fr.refl _ _) (Or.inl (Or.inl rfl)) _⟩

/-- The quanta's threads, those of a range struck. -/
def qpIdle (qp : Nat → Option Nat) (g k : Nat) : Nat → Option Nat := fun q => if g ≤ q ∧ q < k then none else qp q

theorem qpIdle_succ (qp : Nat → Option Nat) (g k : Nat) (h : g ≤ k) : upd (qpIdle qp g k) k none = qpIdle qp g (k + 1) := by
  funext q
  unfold upd qpIdle
  by_cases e : q = k
  · subst e; rw [if_pos rfl, if_pos (by omega)]
  · rw [if_neg e]
    by_cases e2 : g ≤ q ∧ q < k
    · rw [if_pos e2, if_pos (by omega)]
    · rw [if_neg e2, if_neg (by omega)]
theorem qpIdle_zero (qp : Nat → Option Nat) (g : Nat) : qpIdle qp g g = qp := by
  funext q
  unfold qpIdle
  rw [if_neg (by omega)]
theorem idle_succ (M : MS) (g k : Nat) (h : g ≤ k) : (M.idle g k).turn k none = M.idle g (k + 1) := by
  unfold MS.idle MS.turn
  congr 1
  exact qpIdle_succ M.lq g k h
theorem idle_zero (M : MS) (g : Nat) : M.idle g g = M := by
  unfold MS.idle
  have : (fun q => if g ≤ q ∧ q < g then none else M.lq q) = M.lq := qpIdle_zero M.lq g
  rw [this]

set_option maxHeartbeats 2000000 in
theorem dropThreads_any (h : KP w kb M ob cb qp) (g e : Nat) (hge : g ≤ e) (he : e ≤ 8) :
    Calls Try.prog 64 #[.pointer (some ⟨kb, 0, none⟩), .agg #[.int .i64 g, .int .i64 e]] w fun r w' => r = .returned (.tuple #[]) ∧ KP w' kb (M.idle g e) ob cb (qpIdle qp g e) ∧ Fr (fun k => k = kb) w w' := by
  have hlt := h.lt
  have H := hide h
  clear h
  go_enter Try.func64, Try.ntmps64
  go_wp2_with fail
  go_loopw [4] (fun x w' => ∃ k : Nat, g ≤ k ∧ k ≤ e ∧ x = .int .i64 k ∧ KP w' kb (M.idle g k) ob cb (qpIdle qp g k) ∧ Fr (fun k => k = kb) w w' ∧ Blk w' w.heap.size #[.int .i64 g, .int .i64 e]) (fun x _ => e - (intOf x).toNat)
  case atStart =>
    refine ⟨g, by omega, by omega, rfl, ?_, (Fr.refl _ _).alloc _, Blk.new w _ _⟩
    rw [idle_zero, qpIdle_zero]
    exact H.out.below ((Below.refl _ _).alloc (Nat.le_refl _) _)
  case round =>
    obtain ⟨k, hk1, hk2, rfl, hp, hf, hb⟩ := hrel
    have y0 : wr.cell? ⟨w.heap.size, 0, none⟩ = some (.int .i64 g) := by rw [hb.cell]; rfl
    have y1 : wr.cell? ⟨w.heap.size, 1, none⟩ = some (.int .i64 e) := by rw [hb.cell]; rfl
    have HP := hide hp
    have HF := hide hf
    have HB := hide hb
    by_cases hke : k < e
    · have q0 := hp.quant (q := k) (by omega)
      have qz := hp.frozen (32 + k)
      have hkei : (k : Int) < (e : Int) := by omega
      have hk8 : (k : Int) < 8 := by omega
      clear hp hf hb
      rcases ptrV_shape (qpIdle qp g k k) with hv | ⟨g', hv⟩ <;> rw [hv] at q0
      all_goals
        go_wp2_with fail
        refine ⟨⟨k + 1, by omega, by omega, by go_num, ?_, HF.out.setCell (Or.inl rfl) _, HB.out.apart (by simp; omega) _⟩, by simp [intOf]; omega⟩
        have := HP.out.putTurn (q := k) (by omega) none (fun _ h => by cases h)
        rw [idle_succ _ _ _ hk1] at this
        have e2 := qpIdle_succ qp g k hk1
        change KP _ kb _ ob cb (upd (qpIdle qp g k) k none) at this
        rw [e2] at this
        exact this
    · have : k = e := by omega
      subst this
      clear hp hf hb
      go_wp2_with fail
      go_end0
      exact ⟨rfl, HP.out, HF.out⟩
end

end Go.Proofs.Ytloppmepfkkblaa
end

section
/- What the program's 'remove' does. -/
open Go Go.Proofs Go.RowKit
namespace Go.Proofs.Ytloppmepfkkblaa

/-- Slot s is freed, and those from lo to k - 1. -/
def MS.wipe (M : MS) (s lo k : Nat) : MS :=
  { S := fun i => if i = s ∨ lo ≤ i ∧ i < k then fth else M.S i
    ws := fun i => if i = s ∨ lo ≤ i ∧ i < k then [] else M.ws i
    lq := fun q => (M.lq q).bind fun t => if t = s ∨ lo ≤ t ∧ t < k then none else some t
    ph := M.ph }

theorem MS.ext' {A B : MS} (h1 : ∀ i, A.S i = B.S i) (h2 : ∀ i, A.ws i = B.ws i) (h3 : ∀ q, A.lq q = B.lq q) (h4 : A.ph = B.ph) : A = B := by
  cases A; cases B
  simp only [MS.mk.injEq]
  exact ⟨funext h1, funext h2, funext h3, h4⟩

theorem bind_bind_if (o : Option Nat) (p q : Nat → Prop) [DecidablePred p] [DecidablePred q] : (o.bind fun t => if p t then none else some t).bind (fun t => if q t then none else some t) = o.bind fun t => if p t ∨ q t then none else some t := by
  cases o with
  | none => rfl
  | some t =>
    simp only [Option.bind]
    by_cases h : p t
    · rw [if_pos h, if_pos (Or.inl h)]
    · rw [if_neg h]
      by_cases h2 : q t
      · rw [if_pos (Or.inr h2)]; simp [h2]
      · rw [if_neg (by rintro (h3 | h3); exact h h3; exact h2 h3)]; simp [h2]

theorem bind_if_congr (o : Option Nat) {p q : Nat → Prop} [DecidablePred p] [DecidablePred q] (h : ∀ t, p t ↔ q t) : (o.bind fun t => if p t then none else some t) = o.bind fun t => if q t then none else some t := by
  cases o with
  | none => rfl
  | some t =>
    simp only [Option.bind]
    by_cases h1 : p t
    · rw [if_pos h1, if_pos ((h t).1 h1)]
    · rw [if_neg h1, if_neg (fun h2 => h1 ((h t).2 h2))]

theorem if_congr' {α : Type} {p q : Prop} [Decidable p] [Decidable q] (h : p ↔ q) (a b : α) : (if p then a else b) = if q then a else b := by
  by_cases h1 : p
  · rw [if_pos h1, if_pos (h.1 h1)]
  · rw [if_neg h1, if_neg (fun h2 => h1 (h.2 h2))]

theorem if_if {α : Type} {p q r : Prop} [Decidable p] [Decidable q] [Decidable r] (h : r ↔ p ∨ q) (a b : α) : (if p then a else if q then a else b) = if r then a else b := by
  by_cases h1 : p
  · rw [if_pos h1, if_pos (h.2 (Or.inl h1))]
  · rw [if_neg h1]
    by_cases h2 : q
    · rw [if_pos h2, if_pos (h.2 (Or.inr h2))]
    · rw [if_neg h2, if_neg (fun h3 => (h.1 h3).elim h1 h2)]

theorem wipe_start (M : MS) (s lo : Nat) : M.clear s = M.wipe s lo lo := by
  refine MS.ext' (fun i => ?_) (fun i => ?_) (fun q => ?_) rfl
  · exact if_congr' (by omega) _ _
  · exact if_congr' (by omega) _ _
  · exact bind_if_congr _ (fun t => by omega)

theorem wipe_succ (M : MS) (s lo k : Nat) (h : lo ≤ k) : (M.wipe s lo k).clear k = M.wipe s lo (k + 1) := by
  refine MS.ext' (fun i => ?_) (fun i => ?_) (fun q => ?_) rfl
  · exact if_if (by omega) _ _
  · exact if_if (by omega) _ _
  · refine (bind_bind_if _ _ _).trans (bind_if_congr _ (fun t => by omega))

theorem gone_other (M : MS) (s : Nat) (h : (M.S s).kind ≠ 1) : M.clear s = M.gone s := by
  refine MS.ext' (fun i => ?_) (fun i => ?_) (fun q => ?_) rfl
  · exact if_congr' (by unfold goes; constructor; exact Or.inl; rintro (h1 | h1); exact h1; exact absurd h1.1 h) _ _
  · exact if_congr' (by unfold goes; constructor; exact Or.inl; rintro (h1 | h1); exact h1; exact absurd h1.1 h) _ _
  · change _ = if (M.S s).kind = 1 ∧ (M.S s).G ≤ q ∧ (q : Int) < (M.S s).H then none else (M.lq q).bind fun t => if goes M.S s t then none else some t
    rw [if_neg (fun h1 => h h1.1)]
    exact bind_if_congr _ (fun t => by unfold goes; constructor; exact Or.inl; rintro (h1 | h1); exact h1; exact absurd h1.1 h)

theorem gone_cont (M : MS) (s a e g h : Nat) (hk : (M.S s).kind = 1) (ha : (M.S s).A = a) (he : (M.S s).B = e) (hg : (M.S s).G = g) (hh : (M.S s).H = h) : (M.wipe s a e).idle g h = M.gone s := by
  refine MS.ext' (fun i => ?_) (fun i => ?_) (fun q => ?_) rfl
  · exact if_congr' (by unfold goes; rw [ha, he]; omega) _ _
  · exact if_congr' (by unfold goes; rw [ha, he]; omega) _ _
  · change (if g ≤ q ∧ q < h then none else (M.lq q).bind fun t => if t = s ∨ a ≤ t ∧ t < e then none else some t) = if (M.S s).kind = 1 ∧ (M.S s).G ≤ q ∧ (q : Int) < (M.S s).H then none else (M.lq q).bind fun t => if goes M.S s t then none else some t
    by_cases h1 : g ≤ q ∧ q < h
    · rw [if_pos h1, if_pos (by rw [hg, hh]; omega)]
    · rw [if_neg h1, if_neg (by rw [hg, hh]; omega)]
      exact bind_if_congr _ (fun t => by unfold goes; rw [ha, he]; omega)

section
variable {w : World} {kb : Nat} {M : MS} {ob cb : Nat → Nat} {qp : Nat → Option Nat}

/-- What removing turns: the kernel's block, and channels. -/
def GoneFr (kb : Nat) (M : MS) (cb : Nat → Nat) (k : Nat) : Prop := k = kb ∨ ∃ i, i < 32 ∧ (M.S i).kind = 4 ∧ k = cb i

set_option maxHeartbeats 2000000 in
theorem remove_any (h : KP w kb M ob cb qp) (hI : MInv M) (s : Nat) (hs : s < 32) (hk : (M.S s).kind ≠ 0) :
    Calls Try.prog 66 #[.pointer (some ⟨kb, 0, none⟩), .iface (tyOf (M.S s).kind) (.pointer (some ⟨ob s, 0, none⟩))] w fun r w' => r = .returned (.tuple #[]) ∧ (∃ qp', KP w' kb (M.gone s) ob cb qp' ∧ ∀ q g, qp' q = some g → qp q = some g) ∧ Fr (GoneFr kb M cb) w w' := by
  obtain ⟨b0, b1, b2⟩ := h.base hs hk
  have hm := method_place w (ob s) _ _ _ (h.kind14 hs hk) b0 b1 b2
  have H := hide h
  have HE := hide (fun W (hW : KP W kb M ob cb qp) => empty_any hW s hs)
  have EF1 : Hid (∀ i, i < 32 → ∀ k, EmptyFr kb M cb i k → GoneFr kb M cb k) := fun i hi k hk => hk.imp id (fun h => ⟨i, hi, h.1, h.2⟩)
  by_cases hk1 : (M.S s).kind = 1
  rotate_left
  · have hta := fun w => ta_container_no w (ob s) (M.S s).kind (h.kind14 hs hk) hk1
    have EG := hide (gone_other M s hk1)
    clear h hk hk1 b0 b1 b2 hI
    generalize tyOf (M.S s).kind = T at *
    go_enter Try.func66, Try.ntmps66
    go_wp2_with fail
    refine (place_any _ _ _ _).mono ?_
    rintro r w1 ⟨rfl, hb⟩
    have HB := hide hb
    have H1 := hide (H.out.below hb)
    clear hb hm
    go_wp2_with fail
    refine (HE.out _ H1.out).mono ?_
    rintro r w2 ⟨rfl, h2, f2⟩
    have H2 := hide h2
    have F2 := hide ((Fr.of_below (S := GoneFr kb M cb) HB.out).trans' f2 (fun k _ hk => EF1.out s hs k hk))
    clear h2 f2
    go_wp2_with fail
    ((try simp only [Exit.inBlock, Exit.then]); refine bodyPost_ret (results_none rfl _ _ _) rfl ?_)
    exact ⟨rfl, ⟨qp, EG.out ▸ H2.out, fun _ _ h => h⟩, F2.out⟩
  · obtain ⟨r1, r2, r3, r4, r5, r6⟩ := hI.tree.rng s hs hk1
    obtain ⟨a, ha⟩ : ∃ a : Nat, (M.S s).A = a := ⟨(M.S s).A.toNat, by omega⟩
    obtain ⟨e, he⟩ : ∃ a : Nat, (M.S s).B = a := ⟨(M.S s).B.toNat, by omega⟩
    obtain ⟨g, hg⟩ : ∃ a : Nat, (M.S s).G = a := ⟨(M.S s).G.toNat, by omega⟩
    obtain ⟨z, hz⟩ : ∃ a : Nat, (M.S s).H = a := ⟨(M.S s).H.toNat, by omega⟩
    have EG := hide (gone_cont M s a e g z hk1 ha he hg hz)
    have hta := fun w => ta_container_container w (ob s)
    have BO := h.obs s hs hk
    have HCN : Hid (∀ i, i < 32 → (M.S i).kind = 4 → ob s ≠ cb i) := fun i hi h4 => ((h.chans i hi h4).ne BO).symm
    have HOK := hide (h.off s hs hk)
    unfold obCells at BO
    rw [if_pos hk1, ha, he, hg, hz] at BO
    have HBO := hide BO
    rw [ha, he] at r2
    rw [hg, hz] at r5
    rw [he] at r3
    rw [hz] at r6
    rw [hk1, tyOf1] at hm ⊢
    clear h hk hk1 b0 b1 b2 hI BO r1 r4 ha he hg hz
    go_enter Try.func66, Try.ntmps66
    go_wp2_with fail
    refine (place_any _ _ _ _).mono ?_
    rintro r w1 ⟨rfl, hb⟩
    have HB := hide hb
    have H1 := hide (H.out.below hb)
    have HBO1 := hide (HBO.out.below hb HBO.out.lt)
    clear hb hm
    go_wp2_with fail
    refine (HE.out _ H1.out).mono ?_
    rintro r w2 ⟨rfl, h2, f2⟩
    rw [wipe_start M s a] at h2
    have H2 := hide h2
    have F2 := hide ((Fr.of_below (S := GoneFr kb M cb) HB.out).trans' f2 (fun k _ hk => EF1.out s hs k hk))
    have HBO2 := hide (HBO1.out.fr f2 (fun hk => by
      rcases hk with hk | hk
      · exact HOK.out hk
      · exact HCN.out s hs hk.1 hk.2))
    clear h2 f2
    have y3 : w2.cell? ⟨ob s, 3, none⟩ = some (.int .i64 a) := by rw [HBO2.out.cell]; rfl
    go_wp2_with fail
    go_loopw [6] (fun x w' => ∃ k : Nat, a ≤ k ∧ k ≤ e ∧ x = .int .i64 k ∧ KP w' kb (M.wipe s a k) ob cb qp ∧ Fr (GoneFr kb M cb) w w' ∧ Blk w' (ob s) #[.int .i64 s, .int .i64 1, .int .i64 (M.S s).label, .int .i64 a, .int .i64 e, .int .i64 g, .int .i64 z]) (fun x _ => e - (intOf x).toNat)
    case atStart => exact ⟨a, by omega, by omega, rfl, H2.out, F2.out, HBO2.out⟩
    case round =>
      obtain ⟨k, hk1, hk2, rfl, hp, hf, hb⟩ := hrel
      have z4 : wr.cell? ⟨ob s, 4, none⟩ = some (.int .i64 e) := by rw [hb.cell]; rfl
      have z5 : wr.cell? ⟨ob s, 5, none⟩ = some (.int .i64 g) := by rw [hb.cell]; rfl
      have z6 : wr.cell? ⟨ob s, 6, none⟩ = some (.int .i64 z) := by rw [hb.cell]; rfl
      have HP := hide hp
      have HF := hide hf
      have HBk := hide hb
      clear hp hf hb
      by_cases hke : k < e
      · have hkei : (k : Int) < (e : Int) := by omega
        have EF2 : Hid (∀ j, EmptyFr kb (M.wipe s a k) cb k j → GoneFr kb M cb j) := fun j hj => by
          rcases hj with hj | hj
          · exact Or.inl hj
          · have h4 : (if k = s ∨ a ≤ k ∧ k < k then fth else M.S k).kind = 4 := hj.1
            by_cases h5 : k = s ∨ a ≤ k ∧ k < k
            · rw [if_pos h5] at h4; cases h4
            · rw [if_neg h5] at h4
              exact Or.inr ⟨k, by omega, h4, hj.2⟩
        go_wp2_with fail
        refine (empty_any HP.out k (by omega)).mono ?_
        rintro r w3 ⟨rfl, h3, f3⟩
        rw [wipe_succ M s a k hk1] at h3
        have H3 := hide h3
        have F3 := hide (HF.out.trans' f3 (fun j _ hj => EF2.out j hj))
        have B3 := hide (HBk.out.fr f3 (fun hj => by
          rcases EF2.out _ hj with hj | ⟨i, hi, h4, hj⟩
          · exact HOK.out hj
          · exact HCN.out i hi h4 hj))
        clear h3 f3
        go_wp2_with fail
        exact ⟨⟨k + 1, by omega, by omega, by go_num, H3.out, F3.out, B3.out⟩, by simp [intOf]; omega⟩
      · have : k = e := by omega
        subst this
        go_wp2_with fail
        refine (dropThreads_any HP.out g z (by omega) (by omega)).mono ?_
        rintro r w3 ⟨rfl, h3, f3⟩
        rw [EG.out] at h3
        have H3 := hide h3
        have F3 := hide (HF.out.trans' f3 (fun j _ hj => Or.inl hj))
        clear h3 f3
        go_wp2_with fail
        go_end0
        refine ⟨rfl, ⟨_, H3.out, fun q g' hq => ?_⟩, F3.out⟩
        unfold qpIdle at hq
        split at hq
        · cases hq
        · exact hq
end

end Go.Proofs.Ytloppmepfkkblaa
end

section
/- What the program's traps 1 to 3, 5, 6, 11 to 13 do. -/
open Go Go.Proofs Go.RowKit
namespace Go.Proofs.Ytloppmepfkkblaa

/-- What is behind a trap: what was needed, the kernel, and that nothing else has turned. -/
def TrapDone (w w' : World) (rb kb : Nat) (M M' : MS) (ob cb : Nat → Nat) (qp : Nat → Option Nat) (me used : Nat) : Prop :=
  ReqAt w' rb kb (ob me) used ∧ (∃ ob' cb' qp', KP w' kb M' ob' cb' qp' ∧ ∀ k, Foot kb M' ob' cb' qp' k → Foot kb M ob cb qp k ∨ w.heap.size ≤ k) ∧ Fr (fun k => k = rb ∨ Foot kb M ob cb qp k) w w'

/-- A trap's function. -/
def TrapC (f : Nat) (args : Array Value) (w : World) (rb kb : Nat) (M : MS) (ob cb : Nat → Nat) (qp : Nat → Option Nat) (me : Nat) (p : Nat × Int) (v : Int) (M' : MS) : Prop :=
  Calls Try.prog f args w fun e w' => e = .returned (.tuple #[.int .i64 (if p.2 = 0 then v else 0), .int .i64 p.2]) ∧ TrapDone w w' rb kb M (if p.2 = 0 then M' else M) ob cb qp me p.1

section
variable {w w' : World} {rb kb : Nat} {M : MS} {ob cb : Nat → Nat} {qp : Nat → Option Nat} {me : Nat}

theorem Left.done {p : Nat × Int} (h : Left w w' rb kb M ob cb qp me p) : TrapDone w w' rb kb M M ob cb qp me p.1 :=
  ⟨h.1.req, ⟨ob, cb, qp, h.1.pk, fun _ hk => Or.inl hk⟩, h.2.mono (fun _ _ h => Or.inl h)⟩

/-- A failed trap changes nothing. -/
theorem TrapC.no {f : Nat} {args : Array Value} {p : Nat × Int} {v : Int} {M' : MS} (hp : p.2 ≠ 0) (h : Calls Try.prog f args w fun e w' => e = .returned (.tuple #[.int .i64 0, .int .i64 p.2]) ∧ Left w w' rb kb M ob cb qp me p) : TrapC f args w rb kb M ob cb qp me p v M' := by
  unfold TrapC
  rw [if_neg hp, if_neg hp]
  exact h.mono (fun e w' ⟨h1, h2⟩ => ⟨h1, h2.done⟩)

theorem TrapC.yes {f : Nat} {args : Array Value} {p : Nat × Int} {v : Int} {M' : MS} (hp : p.2 = 0) (h : Calls Try.prog f args w fun e w' => e = .returned (.tuple #[.int .i64 v, .int .i64 0]) ∧ TrapDone w w' rb kb M M' ob cb qp me p.1) : TrapC f args w rb kb M ob cb qp me p v M' := by
  unfold TrapC
  rw [if_pos hp, if_pos hp, hp]
  exact h

theorem foot_awake {s : Nat} {v : Bool} {k : Nat} (h : Foot kb (M.awake s v) ob cb qp k) : Foot kb M ob cb qp k := by
  have e : ∀ i, ((M.awake s v).S i).kind = (M.S i).kind := fun i => by
    change (upd M.S s { M.S s with awake := v } i).kind = _
    unfold upd; split
    · rename_i e; subst e; rfl
    · rfl
  rcases h with h | ⟨i, h1, h2, h3⟩ | ⟨i, h1, h2, h3⟩ | h
  · exact Or.inl h
  · exact Or.inr (Or.inl ⟨i, h1, by rw [← e i]; exact h2, h3⟩)
  · exact Or.inr (Or.inr (Or.inl ⟨i, h1, by rw [← e i]; exact h2, h3⟩))
  · exact Or.inr (Or.inr (Or.inr h))

theorem t_self (h : QK w rb kb M ob cb qp me 0) (v : Value) : TrapC 33 #[.pointer (some ⟨rb, 0, none⟩), v] w rb kb M ob cb qp me (0, 0) me M := by
  refine TrapC.yes rfl ?_
  obtain ⟨c0, c1, -⟩ := h.cells
  obtain ⟨d0, d1, d2⟩ := h.mine
  have H := hide h
  clear h
  go_enter Try.func33, Try.ntmps33
  go_wp2_with fail
  refine (place_any _ _ _ _).mono ?_
  rintro e w1 ⟨rfl, hb⟩
  go_wp2_with fail
  go_ret2
  exact ⟨rfl, Left.done (p := (0, 0)) ⟨H.out.below hb, Fr.of_below hb⟩⟩

set_option maxHeartbeats 1000000 in
theorem t_kind (h : QK w rb kb M ob cb qp me 0) (s lb lo cap : Nat) (hs : s < 32) (hd : deep M.S DEEP s) (ha : Arg w lb lo [(s : Int)]) (hab : lb ≠ rb) :
    TrapC 34 #[.pointer (some ⟨rb, 0, none⟩), .slice (some ⟨lb, lo, none⟩) 1 cap] w rb kb M ob cb qp me (pathF M.S (M.S me).owns (M.S me).label DEEP s (0, 0)) (M.S s).kind M := by
  have l0 := ha.c0
  have HA := hide ha
  have RA := hide (reach_any DEEP s hd w h)
  clear h ha hd
  generalize pathF M.S (M.S me).owns (M.S me).label DEEP s (0, 0) = pp at *
  by_cases he : pp.2 = 0
  rotate_left
  · refine TrapC.no he ?_
    go_enter Try.func34, Try.ntmps34
    go_wp2_with fail
    refine RA.out.mono ?_
    rintro e w1 ⟨rfl, h1⟩
    go_wp2_with fail
    go_ret2
    exact ⟨rfl, h1⟩
  refine TrapC.yes he ?_
  have HE := hide he
  clear he
  go_enter Try.func34, Try.ntmps34
  go_wp2_with fail
  refine RA.out.mono ?_
  rintro e w1 ⟨rfl, h1⟩
  rw [HE.out]
  have HA1 := HA.out.fr h1.2 hab
  have m0 := later_cell HA1.c0 HA1.lt
  obtain ⟨c0', -⟩ := h1.1.cells
  have c0 := later_cell c0' h1.1.lt
  have H1 := hide h1
  have HP := hide h1.1.pk
  clear h1 l0 HA1 c0'
  go_wp2_with fail
  have hne : Nonempty (Later w1) := ⟨⟨w1, Below.refl _ _⟩⟩
  refine wp_region_later (by kernel_rfl) (by kernel_rfl) ?_
  repeat (go_big_quiet_step (((go_at_call 57; exact Calls.later_of (kindIn_any (HP.out.below (by rename_i y; exact y.2)) s hs)))))
  refine wpQuiet_nil ?_
  rintro _ ⟨wl, rfl⟩
  clear hne
  go_wp2_with fail
  go_ret2
  exact ⟨rfl, Left.done (p := pp) ⟨H1.out.1.below wl.2, H1.out.2.trans (Fr.of_below wl.2)⟩⟩

set_option maxHeartbeats 1000000 in
theorem t_label (h : QK w rb kb M ob cb qp me 0) (s lb lo cap : Nat) (hs : s < 32) (hd : deep M.S DEEP s) (ha : Arg w lb lo [(s : Int)]) :
    TrapC 35 #[.pointer (some ⟨rb, 0, none⟩), .slice (some ⟨lb, lo, none⟩) 1 cap] w rb kb M ob cb qp me (mFind M.S (M.S me).owns (M.S me).label s) (M.S s).label M := by
  have l0 := ha.c0
  have RA := hide (find_any h DEEP s hs hd)
  have hfk := @findF_kind M.S (M.S me).owns (M.S me).label DEEP s (0, 0)
  change TrapC _ _ _ _ _ _ _ _ _ _ (findF M.S (M.S me).owns (M.S me).label DEEP s (0, 0)) _ _
  clear h ha hd
  generalize findF M.S (M.S me).owns (M.S me).label DEEP s (0, 0) = pp at *
  by_cases he : pp.2 = 0
  rotate_left
  · refine TrapC.no he ?_
    rw [if_neg he] at RA
    clear hfk
    go_enter Try.func35, Try.ntmps35
    go_wp2_with fail
    refine RA.out.mono ?_
    rintro e w1 ⟨rfl, h1⟩
    go_wp2_with fail
    go_ret2
    exact ⟨rfl, h1⟩
  refine TrapC.yes he ?_
  rw [if_pos he, he] at RA
  have HK := hide (hfk he)
  have HM : Hid (∀ W u, QK W rb kb M ob cb qp me u → (method 244 (tyOf (M.S s).kind) (.pointer (some ⟨ob s, 0, none⟩)) "cloister/cloister.labelOf").run Try.prog W = .ok (26, .agg #[.int .i64 s, .int .i64 (M.S s).kind, .int .i64 (M.S s).label]) W) := fun W u h' => by
    obtain ⟨b0, b1, b2⟩ := h'.pk.base hs HK.out
    exact method_labelOf W _ _ _ _ (h'.pk.kind14 hs HK.out) b0 b1 b2
  clear he hfk
  generalize tyOf (M.S s).kind = T at *
  go_enter Try.func35, Try.ntmps35
  go_wp2_with fail
  refine RA.out.mono ?_
  rintro e w1 ⟨rfl, h1⟩
  have hm := HM.out _ _ h1.1
  have H1 := hide h1
  clear h1
  go_wp2_with fail
  refine (labelOf_any _ _ _ _).mono ?_
  rintro e w2 ⟨rfl, hb2⟩
  go_wp2_with fail
  go_ret2
  exact ⟨rfl, Left.done (p := pp) ⟨H1.out.1.below hb2, H1.out.2.trans (Fr.of_below hb2)⟩⟩

theorem kindF_of {S : Nat → Th} {s : Nat} {k : Int} {p : Nat × Int} (h : p.2 ≠ 0) : kindF S s k p = p := by unfold kindF; rw [failed_err h]; split <;> rfl
theorem kindF_no {S : Nat → Th} {s : Nat} {k : Int} {p : Nat × Int} (h : p.2 = 0) (hk : (S s).kind ≠ k) : kindF S s k p = (p.1, 6) := by unfold kindF; rw [if_neg hk, failed_ok h]
theorem kindF_yes {S : Nat → Th} {s : Nat} {k : Int} {p : Nat × Int} (hk : (S s).kind = k) : kindF S s k p = p := by unfold kindF; rw [if_pos hk]

set_option maxHeartbeats 2000000 in
theorem t_read (h : QK w rb kb M ob cb qp me 0) (s i lb lo cap : Nat) (hs : s < 32) (hi : i < 8) (hd : deep M.S DEEP s) (ha : Arg w lb lo [(s : Int), (i : Int)]) (hab : lb ≠ rb) :
    TrapC 37 #[.pointer (some ⟨rb, 0, none⟩), .slice (some ⟨lb, lo, none⟩) 2 cap] w rb kb M ob cb qp me (mRead M.S (M.S me).owns (M.S me).label s) ((M.ws s).getD i 0) M := by
  have l0 := ha.c0
  have HA := hide ha
  have hii : (i : Int) < 8 := by omega
  have RA := hide (findToRead_any h DEEP s hs hd)
  have hk14 := fun hk => h.pk.kind14 hs hk
  change TrapC _ _ _ _ _ _ _ _ _ _ (kindF M.S s 3 (chk (M.S me).owns (M.S s).label (M.S me).label (findF M.S (M.S me).owns (M.S me).label DEEP s (0, 0)))) _ _
  have HSG := hide (h.pk.segs s hs)
  clear h ha hd
  generalize chk (M.S me).owns (M.S s).label (M.S me).label (findF M.S (M.S me).owns (M.S me).label DEEP s (0, 0)) = pp at *
  by_cases he : pp.2 = 0
  rotate_left
  · rw [kindF_of he]
    refine TrapC.no he ?_
    clear hk14
    go_enter Try.func37, Try.ntmps37
    go_wp2_with fail
    refine RA.out.mono ?_
    rintro e w1 ⟨v, rfl, -, hv, h1⟩
    rcases hv with rfl | rfl
    · go_wp2_with fail
      go_ret2
      exact ⟨rfl, h1⟩
    · generalize tyOf (M.S s).kind = T at *
      go_wp2_with fail
      go_ret2
      exact ⟨rfl, h1⟩
  have HE := hide he
  by_cases hk3 : (M.S s).kind = 3
  rotate_left
  · rw [kindF_no he hk3]
    refine TrapC.no (by simp) ?_
    have hta : Hid ((M.S s).kind ≠ 0 → ∀ w, (Instr.typeAssert (.iface (tyOf (M.S s).kind) (.pointer (some ⟨ob s, 0, none⟩))) 61 106 true).run Try.prog w = .ok (.tuple #[.pointer none, .bool false]) w) := fun hk w => ta_segment_no w (ob s) (M.S s).kind (hk14 hk) hk3
    clear he hk3 hk14
    generalize tyOf (M.S s).kind = T at *
    go_enter Try.func37, Try.ntmps37
    go_wp2_with fail
    refine RA.out.mono ?_
    rintro e w1 ⟨v, rfl, hv, -, h1⟩
    obtain ⟨rfl, hk⟩ := hv HE.out
    rw [HE.out]
    have hta' := hta.out hk
    clear hv hk
    go_wp2_with fail
    go_ret2
    exact ⟨rfl, h1⟩
  rw [kindF_yes hk3]
  refine TrapC.yes he ?_
  have HK3 := hide hk3
  have hta := fun w => ta_segment_segment w (ob s)
  rw [hk3, tyOf3] at RA
  have hx : (M.ws s)[i]? = some ((M.ws s).getD i 0) := by
    have := HSG.out hk3
    rw [List.getD_eq_getElem?_getD, List.getElem?_eq_getElem (by omega)]; rfl
  have HX := hide hx
  clear he hk3 hk14 hx
  generalize (M.ws s).getD i 0 = x at *
  go_enter Try.func37, Try.ntmps37
  go_wp2_with fail
  refine RA.out.mono ?_
  rintro e w1 ⟨v, rfl, hv, -, h1⟩
  obtain ⟨rfl, -⟩ := hv HE.out
  rw [HE.out]
  have HA1 := HA.out.fr h1.2 hab
  have m1 := HA1.c1
  have q0 := h1.1.pk.word hs HK3.out HX.out
  have H1 := hide h1
  clear h1 l0 HA1 hv
  go_wp2_with fail
  go_quiet (fail)
  go_wp2_with fail
  go_ret2
  exact ⟨rfl, Left.done (p := pp) ⟨H1.out.1.fr ((Fr.refl _ _).drewN _), H1.out.2.drewN _⟩⟩

/-- A change inside the kernel's own blocks. -/
theorem TrapDone.of {w1 : World} {M' : MS} {p : Nat × Int} (h : Left w w1 rb kb M ob cb qp me p) {F : Nat → Prop} (hf : Fr F w1 w') (hF : ∀ k, F k → Foot kb M ob cb qp k) {ob' cb' : Nat → Nat} {qp' : Nat → Option Nat}
    (hk : KP w' kb M' ob' cb' qp') (hg : ∀ k, Foot kb M' ob' cb' qp' k → Foot kb M ob cb qp k ∨ w.heap.size ≤ k) : TrapDone w w' rb kb M M' ob cb qp me p.1 :=
  ⟨Blk.fr h.1.req hf (fun hr => h.1.ne (hF _ hr)), ⟨ob', cb', qp', hk, hg⟩, (h.2.mono (fun _ _ h => Or.inl h)).trans (hf.mono (fun k _ h => Or.inr (hF k h)))⟩

set_option maxHeartbeats 2000000 in
theorem t_write (h : QK w rb kb M ob cb qp me 0) (s i : Nat) (x : Int) (lb lo cap : Nat) (hs : s < 32) (hi : i < 8) (hd : deep M.S DEEP s) (ha : Arg w lb lo [(s : Int), (i : Int), x]) (hab : lb ≠ rb) :
    TrapC 38 #[.pointer (some ⟨rb, 0, none⟩), .slice (some ⟨lb, lo, none⟩) 3 cap] w rb kb M ob cb qp me (mWrite M.S (M.S me).owns (M.S me).label s) 0 (M.words s ((M.ws s).set i x)) := by
  have l0 := ha.c0
  have HA := hide ha
  have hii : (i : Int) < 8 := by omega
  have RA := hide (findToWrite_any h DEEP s hs hd)
  have hk14 := fun hk => h.pk.kind14 hs hk
  change TrapC _ _ _ _ _ _ _ _ _ _ (kindF M.S s 3 (chk (M.S me).owns (M.S me).label (M.S s).label (findF M.S (M.S me).owns (M.S me).label DEEP s (0, 0)))) _ _
  have HSG := hide (h.pk.segs s hs)
  clear h ha hd
  generalize chk (M.S me).owns (M.S me).label (M.S s).label (findF M.S (M.S me).owns (M.S me).label DEEP s (0, 0)) = pp at *
  by_cases he : pp.2 = 0
  rotate_left
  · rw [kindF_of he]
    refine TrapC.no he ?_
    clear hk14
    go_enter Try.func38, Try.ntmps38
    go_wp2_with fail
    refine RA.out.mono ?_
    rintro e w1 ⟨v, rfl, -, hv, h1⟩
    rcases hv with rfl | rfl
    · go_wp2_with fail
      go_ret2
      exact ⟨rfl, h1⟩
    · generalize tyOf (M.S s).kind = T at *
      go_wp2_with fail
      go_ret2
      exact ⟨rfl, h1⟩
  have HE := hide he
  by_cases hk3 : (M.S s).kind = 3
  rotate_left
  · rw [kindF_no he hk3]
    refine TrapC.no (by simp) ?_
    have hta : Hid ((M.S s).kind ≠ 0 → ∀ w, (Instr.typeAssert (.iface (tyOf (M.S s).kind) (.pointer (some ⟨ob s, 0, none⟩))) 61 106 true).run Try.prog w = .ok (.tuple #[.pointer none, .bool false]) w) := fun hk w => ta_segment_no w (ob s) (M.S s).kind (hk14 hk) hk3
    clear he hk3 hk14
    generalize tyOf (M.S s).kind = T at *
    go_enter Try.func38, Try.ntmps38
    go_wp2_with fail
    refine RA.out.mono ?_
    rintro e w1 ⟨v, rfl, hv, -, h1⟩
    obtain ⟨rfl, hk⟩ := hv HE.out
    rw [HE.out]
    have hta' := hta.out hk
    clear hv hk
    go_wp2_with fail
    go_ret2
    exact ⟨rfl, h1⟩
  rw [kindF_yes hk3]
  refine TrapC.yes he ?_
  have HK3 := hide hk3
  have hta := fun w => ta_segment_segment w (ob s)
  rw [hk3, tyOf3] at RA
  have hx : (M.ws s)[i]? = some ((M.ws s).getD i 0) := by
    have := HSG.out hk3
    rw [List.getD_eq_getElem?_getD, List.getElem?_eq_getElem (by omega)]; rfl
  have HX := hide hx
  clear he hk3 hk14 hx
  go_enter Try.func38, Try.ntmps38
  go_wp2_with fail
  refine RA.out.mono ?_
  rintro e w1 ⟨v, rfl, hv, -, h1⟩
  obtain ⟨rfl, -⟩ := hv HE.out
  rw [HE.out]
  have HA1 := HA.out.fr h1.2 hab
  have m1 := HA1.c1
  have m2 := HA1.c2
  have q0 := h1.1.pk.word hs HK3.out HX.out
  have fz := h1.1.pk.obfrozen hs (by have := HK3.out; omega) (3 + i)
  have H1 := hide h1
  clear h1 l0 HA1 hv
  go_wp2_with fail
  go_region
  go_wp2_with fail
  go_ret2
  refine ⟨rfl, TrapDone.of (p := pp) H1.out (F := fun k => k = ob s) (Fr.drew (Fr.own _ _ _ _)) (fun k hk => Or.inr (Or.inl ⟨s, hs, by have := HK3.out; omega, hk.symm⟩)) (ob' := ob) (cb' := cb) (qp' := qp) ?_ (fun k hk => Or.inl hk)⟩
  exact (H1.out.1.pk.putWord hs HK3.out x).below (Below.drew (Below.refl _ _))

theorem t_sleep (h : QK w rb kb M ob cb qp me 0) (v : Value) : TrapC 44 #[.pointer (some ⟨rb, 0, none⟩), v] w rb kb M ob cb qp me (0, 0) 0 (M.awake me false) := by
  refine TrapC.yes rfl ?_
  obtain ⟨c0, c1, -⟩ := h.cells
  obtain ⟨t0, t1⟩ := h.pk.thr h.me32 h.mek
  have fz := h.pk.obfrozen h.me32 (by have := h.mek; omega) 4
  have H := hide h
  clear h
  go_enter Try.func44, Try.ntmps44
  go_wp2_with fail
  go_ret2
  exact ⟨rfl, TrapDone.of (p := (0, 0)) ⟨H.out, Fr.refl _ _⟩ (F := fun k => k = ob me) (Fr.own _ _ _ _) (fun k hk => Or.inr (Or.inl ⟨me, H.out.me32, by have := H.out.mek; omega, hk.symm⟩)) (ob' := ob) (cb' := cb) (qp' := qp) (H.out.pk.putAwake H.out.me32 H.out.mek false) (fun k hk => Or.inl (foot_awake hk))⟩

set_option maxHeartbeats 2000000 in
theorem t_wake (h : QK w rb kb M ob cb qp me 0) (s lb lo cap : Nat) (hs : s < 32) (hd : deep M.S DEEP s) (ha : Arg w lb lo [(s : Int)]) :
    TrapC 45 #[.pointer (some ⟨rb, 0, none⟩), .slice (some ⟨lb, lo, none⟩) 1 cap] w rb kb M ob cb qp me (mWake M.S (M.S me).owns (M.S me).label s) 0 (M.awake s true) := by
  have l0 := ha.c0
  have RA := hide (findToWrite_any h DEEP s hs hd)
  have hk14 := fun hk => h.pk.kind14 hs hk
  change TrapC _ _ _ _ _ _ _ _ _ _ (kindF M.S s 2 (chk (M.S me).owns (M.S me).label (M.S s).label (findF M.S (M.S me).owns (M.S me).label DEEP s (0, 0)))) _ _
  clear h ha hd
  generalize chk (M.S me).owns (M.S me).label (M.S s).label (findF M.S (M.S me).owns (M.S me).label DEEP s (0, 0)) = pp at *
  by_cases he : pp.2 = 0
  rotate_left
  · rw [kindF_of he]
    refine TrapC.no he ?_
    clear hk14
    go_enter Try.func45, Try.ntmps45
    go_wp2_with fail
    refine RA.out.mono ?_
    rintro e w1 ⟨v, rfl, -, hv, h1⟩
    rcases hv with rfl | rfl
    · go_wp2_with fail
      go_ret2
      exact ⟨rfl, h1⟩
    · generalize tyOf (M.S s).kind = T at *
      go_wp2_with fail
      go_ret2
      exact ⟨rfl, h1⟩
  have HE := hide he
  by_cases hk3 : (M.S s).kind = 2
  rotate_left
  · rw [kindF_no he hk3]
    refine TrapC.no (by simp) ?_
    have hta : Hid ((M.S s).kind ≠ 0 → ∀ w, (Instr.typeAssert (.iface (tyOf (M.S s).kind) (.pointer (some ⟨ob s, 0, none⟩))) 61 63 true).run Try.prog w = .ok (.tuple #[.pointer none, .bool false]) w) := fun hk w => ta_thread_no w (ob s) (M.S s).kind (hk14 hk) hk3
    clear he hk3 hk14
    generalize tyOf (M.S s).kind = T at *
    go_enter Try.func45, Try.ntmps45
    go_wp2_with fail
    refine RA.out.mono ?_
    rintro e w1 ⟨v, rfl, hv, -, h1⟩
    obtain ⟨rfl, hk⟩ := hv HE.out
    rw [HE.out]
    have hta' := hta.out hk
    clear hv hk
    go_wp2_with fail
    go_ret2
    exact ⟨rfl, h1⟩
  rw [kindF_yes hk3]
  refine TrapC.yes he ?_
  have HK3 := hide hk3
  have hta := fun w => ta_thread_thread w (ob s)
  rw [hk3, tyOf2] at RA
  clear he hk3 hk14
  go_enter Try.func45, Try.ntmps45
  go_wp2_with fail
  refine RA.out.mono ?_
  rintro e w1 ⟨v, rfl, hv, -, h1⟩
  obtain ⟨rfl, -⟩ := hv HE.out
  rw [HE.out]
  obtain ⟨-, t1⟩ := h1.1.pk.thr hs HK3.out
  have fz := h1.1.pk.obfrozen hs (by have := HK3.out; omega) 4
  have H1 := hide h1
  clear h1 l0 hv
  go_wp2_with fail
  go_ret2
  exact ⟨rfl, TrapDone.of (p := pp) H1.out (F := fun k => k = ob s) (Fr.own _ _ _ _) (fun k hk => Or.inr (Or.inl ⟨s, hs, by have := HK3.out; omega, hk.symm⟩)) (ob' := ob) (cb' := cb) (qp' := qp) (H1.out.1.pk.putAwake hs HK3.out true) (fun k hk => Or.inl (foot_awake hk))⟩

theorem foot_turn {q : Nat} {t : Option Nat} {k : Nat} (ht : ∀ s, t = some s → s < 32 ∧ (M.S s).kind = 2) (h : Foot kb (M.turn q t) ob cb (upd qp q (t.map ob)) k) : Foot kb M ob cb qp k := by
  rcases h with h | h | h | ⟨j, h1, h2⟩
  · exact Or.inl h
  · exact Or.inr (Or.inl h)
  · exact Or.inr (Or.inr (Or.inl h))
  · by_cases e : j = q
    · subst e
      rw [upd_same] at h2
      cases t with
      | none => cases h2
      | some s =>
        obtain ⟨a1, a2⟩ := ht s rfl
        injection h2 with h2
        exact Or.inr (Or.inl ⟨s, a1, by omega, h2⟩)
    · rw [upd_ne _ _ e] at h2
      exact Or.inr (Or.inr (Or.inr ⟨j, h1, h2⟩))

set_option maxHeartbeats 2000000 in
theorem t_drop (h : QK w rb kb M ob cb qp me 0) (q c lb lo cap : Nat) (hq : q < 8) (hc : has M.S q = some c) (hd : deep M.S DEEP c) (ha : Arg w lb lo [(q : Int)]) :
    TrapC 43 #[.pointer (some ⟨rb, 0, none⟩), .slice (some ⟨lb, lo, none⟩) 1 cap] w rb kb M ob cb qp me (mDrop M.S (M.S me).owns (M.S me).label q) 0 (M.turn q none) := by
  have l0 := ha.c0
  have hq8 : (q : Int) < 8 := by omega
  have RA := hide (mayChange_any h q c hc hd)
  clear h ha hd hc
  generalize mDrop M.S (M.S me).owns (M.S me).label q = pp at *
  by_cases he : pp.2 = 0
  rotate_left
  · refine TrapC.no he ?_
    rw [if_neg he] at RA
    go_enter Try.func43, Try.ntmps43
    go_wp2_with fail
    refine RA.out.mono ?_
    rintro e w1 ⟨rfl, h1⟩
    go_wp2_with fail
    go_ret2
    exact ⟨rfl, h1⟩
  refine TrapC.yes he ?_
  rw [if_pos he, he] at RA
  clear he
  go_enter Try.func43, Try.ntmps43
  go_wp2_with fail
  refine RA.out.mono ?_
  rintro e w1 ⟨rfl, h1⟩
  obtain ⟨c0, -⟩ := h1.1.cells
  have q0 := h1.1.pk.quant hq
  have qz := h1.1.pk.frozen (32 + q)
  have H1 := hide h1
  clear h1 l0
  have fin : Hid (TrapDone w (w1.setCell ⟨kb, 32 + q, none⟩ (.pointer none)) rb kb M (M.turn q none) ob cb qp me pp.1) :=
    TrapDone.of (p := pp) H1.out (F := fun k => k = kb) (Fr.own _ _ _ _) (fun k hk => Or.inl hk) (ob' := ob) (cb' := cb) (qp' := upd qp q none) (H1.out.1.pk.putTurn hq none (fun _ h => by cases h)) (fun k hk => Or.inl (foot_turn (q := q) (t := none) (fun _ h => by cases h) hk))
  rcases ptrV_shape (qp q) with hv | ⟨g', hv⟩ <;> rw [hv] at q0
  all_goals
    go_wp2_with fail
    go_ret2
    exact ⟨rfl, fin.out⟩
end

end Go.Proofs.Ytloppmepfkkblaa
end

section
/- What the program's traps 4, 8, 9, 10, 14 do. -/
open Go Go.Proofs Go.RowKit
namespace Go.Proofs.Ytloppmepfkkblaa

section
variable {w w' : World} {rb kb : Nat} {M : MS} {ob cb : Nat → Nat} {qp : Nat → Option Nat} {me : Nat}

theorem foot_put {s g c B : Nat} {t : Th} {wt : List Int} {k : Nat} (hg : B ≤ g) (hc : t.kind = 4 → B ≤ c) (h : Foot kb (M.put s t wt) (upd ob s g) (upd cb s c) qp k) : Foot kb M ob cb qp k ∨ B ≤ k := by
  rcases h with h | ⟨i, h1, h2, h3⟩ | ⟨i, h1, h2, h3⟩ | h
  · exact Or.inl (Or.inl h)
  · change (upd M.S s t i).kind ≠ 0 at h2
    by_cases e : i = s
    · subst e; rw [upd_same] at h3; exact Or.inr (by omega)
    · rw [upd_ne _ _ e] at h2 h3
      exact Or.inl (Or.inr (Or.inl ⟨i, h1, h2, h3⟩))
  · change (upd M.S s t i).kind = 4 at h2
    by_cases e : i = s
    · subst e; rw [upd_same] at h2 h3; have := hc h2; exact Or.inr (by omega)
    · rw [upd_ne _ _ e] at h2 h3
      exact Or.inl (Or.inr (Or.inr (Or.inl ⟨i, h1, h2, h3⟩)))
  · exact Or.inl (Or.inr (Or.inr (Or.inr h)))

/-- An object has been put. -/
theorem put_done {w1 W : World} {p : Nat × Int} (HL : Left w w1 rb kb M ob cb qp me p) {s g c : Nat} (hs : s < 32) (hk0 : (M.S s).kind = 0) (hb : Below w1.heap.size w1 W) (hg : w1.heap.size ≤ g) (t : Th) (wt : List Int) (B : Blk W g (obCells s t wt c))
    (ht : t.kind = 1 ∨ t.kind = 2 ∨ t.kind = 3 ∨ t.kind = 4) (hw : t.wf) (h3 : t.kind = 3 → wt.length = 8) (h4 : t.kind = 4 → ChanAt W c wt ∧ w1.heap.size ≤ c ∧ wt.length ≤ 4) :
    TrapDone w (W.setCell ⟨kb, s, none⟩ (.iface (tyOf t.kind) (.pointer (some ⟨g, 0, none⟩)))) rb kb M (M.put s t wt) ob cb qp me p.1 := by
  have hP := HL.1.pk.below hb
  have hnf : ∀ k, w1.heap.size ≤ k → ¬ Foot kb M ob cb qp k := fun k hk hf => by have := HL.1.pk.foot_lt hf; omega
  have e : obV t g = .iface (tyOf t.kind) (.pointer (some ⟨g, 0, none⟩)) := obV_ob (by omega)
  have hN := hP.putNew hs hk0 t wt B (hnf g hg) ht hw h3 (fun hk => ⟨(h4 hk).1, hnf c (h4 hk).2.1, (h4 hk).2.2⟩)
  rw [e] at hN
  have hsz := HL.2.size
  exact TrapDone.of HL (F := fun k => k = kb) ((Fr.of_below hb).trans (Fr.own _ _ _ _)) (fun k hk => Or.inl hk) hN (fun k hk => (foot_put hg (fun hk => (h4 hk).2.1) hk).imp id (fun h => by omega))

set_option maxHeartbeats 2000000 in
theorem t_newSegment (h : QK w rb kb M ob cb qp me 0) (c s l lb lo cap : Nat) (hc : c < 32) (hs : s < 32) (hl : l < 256) (hd : deep M.S DEEP c) (ha : Arg w lb lo [(c : Int), (s : Int), (l : Int)]) :
    TrapC 36 #[.pointer (some ⟨rb, 0, none⟩), .slice (some ⟨lb, lo, none⟩) 3 cap] w rb kb M ob cb qp me (mMake M.S (M.S me).owns (M.S me).label c s l) 0 (M.put s (segT l) [0, 0, 0, 0, 0, 0, 0, 0]) := by
  have l0 := ha.c0
  have l1 := ha.c1
  have l2 := ha.c2
  have HMA := hide (fun w' hb => mayMake_any (h.below (w' := w') hb) DEEP c s l hc hs hl hd)
  have hmz := @making_zero M.S (M.S me).owns (M.S me).label DEEP c s l (0, 0)
  change TrapC _ _ _ _ _ _ _ _ _ _ (makingF M.S (M.S me).owns (M.S me).label DEEP c s l (0, 0)) _ _
  clear h hd ha
  generalize makingF M.S (M.S me).owns (M.S me).label DEEP c s l (0, 0) = pm at *
  by_cases hp : pm.2 = 0
  rotate_left
  · refine TrapC.no hp ?_
    clear hmz
    go_enter Try.func36, Try.ntmps36
    go_wp2_with fail
    go_quiet (fail)
    go_wp2_with fail
    refine (HMA.out _ (below_drewN (Below.refl _ _) _)).mono ?_
    rintro e w1 ⟨rfl, h1, g1⟩
    go_wp2_with fail
    go_ret2
    exact ⟨rfl, h1, ((Fr.refl _ _).drewN _).trans g1⟩
  refine TrapC.yes hp ?_
  have HK0 := hide (hmz hp).free
  have HP := hide hp
  clear hp hmz
  go_enter Try.func36, Try.ntmps36
  go_wp2_with fail
  go_quiet (fail)
  go_wp2_with fail
  refine (HMA.out _ (below_drewN (Below.refl _ _) _)).mono ?_
  rintro e w1 ⟨rfl, h1, g1⟩
  rw [HP.out]
  obtain ⟨c0, c1, -⟩ := h1.cells
  have H1 : Hid (Left w w1 rb kb M ob cb qp me pm) := ⟨h1, ((Fr.refl _ _).drewN _).trans g1⟩
  have hkl := h1.pk.lt
  clear h1 g1 l0 l1 l2
  go_wp2_with fail
  have BN := Blk.new w1 #[.int .i64 s, .int .i64 3, .int .i64 l, .int .i64 0, .int .i64 0, .int .i64 0, .int .i64 0, .int .i64 0, .int .i64 0, .int .i64 0, .int .i64 0] 109
  have hb0 : Below w1.heap.size w1 (w1.alloc (.cells #[.int .i64 s, .int .i64 3, .int .i64 l, .int .i64 0, .int .i64 0, .int .i64 0, .int .i64 0, .int .i64 0, .int .i64 0, .int .i64 0, .int .i64 0] 109)) := (Below.refl _ _).alloc (Nat.le_refl _) _
  have P2 := H1.out.1.pk.below hb0
  refine (kput _ kb w1.heap.size s 3 l .nilIface (by omega) hs P2.lt (Blk.lt BN) (by omega) (by rw [BN.cell]; rfl) (by rw [BN.cell]; rfl) (by rw [BN.cell]; rfl) (P2.slot_nil hs HK0.out) (P2.frozen s)).mono ?_
  rintro e w2 ⟨rfl, w3, hb3, rfl⟩
  have fin := hide (put_done H1.out (g := w1.heap.size) (c := 0) hs HK0.out (below_next hb3 hb0) (Nat.le_refl _) (segT l) [0, 0, 0, 0, 0, 0, 0, 0] (BN.below hb3 (Blk.lt BN)) (Or.inr (Or.inr (Or.inl rfl))) ⟨by simp [segT], by simp [segT], by simp [segT], by simp [segT], hl, by simp [segT]⟩ (fun _ => rfl) (fun h4 => by simp [segT] at h4))
  clear BN hb0 P2 hb3
  go_wp2_with fail
  go_ret2
  exact ⟨rfl, fin.out⟩

set_option maxHeartbeats 2000000 in
theorem t_newThread (h : QK w rb kb M ob cb qp me 0) (c s l o lb lo cap : Nat) (hc : c < 32) (hs : s < 32) (hl : l < 256) (ho : o < 256) (hd : deep M.S DEEP c) (ha : Arg w lb lo [(c : Int), (s : Int), (l : Int), (o : Int)]) :
    TrapC 41 #[.pointer (some ⟨rb, 0, none⟩), .slice (some ⟨lb, lo, none⟩) 4 cap] w rb kb M ob cb qp me (mThread M.S (M.S me).owns (M.S me).label c s l o) 0 (M.put s (thrT l o) []) := by
  have l0 := ha.c0
  have l1 := ha.c1
  have l2 := ha.c2
  have l3 := ha.c3
  have HMA := hide (fun w' hb => mayMake_any (h.below (w' := w') hb) DEEP c s l hc hs hl hd)
  have HOW := hide h.owns
  have hmz := @making_zero M.S (M.S me).owns (M.S me).label DEEP c s l (0, 0)
  unfold mThread
  change TrapC _ _ _ _ _ _ _ _ _ _ (if sub o (M.S me).owns = true then makingF M.S (M.S me).owns (M.S me).label DEEP c s l (0, 0) else failed 4 (makingF M.S (M.S me).owns (M.S me).label DEEP c s l (0, 0))) _ _
  clear h hd ha
  generalize makingF M.S (M.S me).owns (M.S me).label DEEP c s l (0, 0) = pm at *
  by_cases hp : pm.2 = 0
  rotate_left
  · have e1 : (if sub o (M.S me).owns = true then pm else failed 4 pm) = pm := by rw [failed_err hp]; split <;> rfl
    rw [e1]
    refine TrapC.no hp ?_
    clear hmz e1
    go_enter Try.func41, Try.ntmps41
    go_wp2_with fail
    go_quiet (fail)
    go_wp2_with fail
    refine (HMA.out _ (below_drewN (Below.refl _ _) _)).mono ?_
    rintro e w1 ⟨rfl, h1, g1⟩
    go_wp2_with fail
    go_ret2
    exact ⟨rfl, h1, ((Fr.refl _ _).drewN _).trans g1⟩
  have HK0 := hide (hmz hp).free
  have HP := hide hp
  have HW := hide (fun w => kwithin w o (M.S me).owns ho HOW.out)
  by_cases hsb : sub o (M.S me).owns = true
  rotate_left
  · rw [if_neg hsb, failed_ok hp]
    rw [Bool.eq_false_iff.2 hsb] at HW
    refine TrapC.no (by simp) ?_
    clear hp hmz hsb
    go_enter Try.func41, Try.ntmps41
    go_wp2_with fail
    go_quiet (fail)
    go_wp2_with fail
    refine (HMA.out _ (below_drewN (Below.refl _ _) _)).mono ?_
    rintro e w1 ⟨rfl, h1, g1⟩
    rw [HP.out]
    obtain ⟨c0, c1, -⟩ := h1.cells
    obtain ⟨t0, -⟩ := h1.pk.thr h1.me32 h1.mek
    have H1 : Hid (Left w w1 rb kb M ob cb qp me pm) := ⟨h1, ((Fr.refl _ _).drewN _).trans g1⟩
    clear h1 g1 l0 l1 l2 l3
    go_wp2_with fail
    refine (HW.out _).mono ?_
    rintro e w2 ⟨rfl, hb2⟩
    go_wp2_with fail
    go_ret2
    exact ⟨rfl, H1.out.1.below hb2, H1.out.2.trans (Fr.of_below hb2)⟩
  rw [if_pos hsb]
  rw [hsb] at HW
  refine TrapC.yes hp ?_
  clear hp hmz hsb
  go_enter Try.func41, Try.ntmps41
  go_wp2_with fail
  go_quiet (fail)
  go_wp2_with fail
  refine (HMA.out _ (below_drewN (Below.refl _ _) _)).mono ?_
  rintro e w1 ⟨rfl, h1, g1⟩
  rw [HP.out]
  obtain ⟨c0, c1, -⟩ := h1.cells
  obtain ⟨t0, -⟩ := h1.pk.thr h1.me32 h1.mek
  have H1 : Hid (Left w w1 rb kb M ob cb qp me pm) := ⟨h1, ((Fr.refl _ _).drewN _).trans g1⟩
  clear h1 g1 l0 l1 l2 l3
  go_wp2_with fail
  refine (HW.out _).mono ?_
  rintro e w2 ⟨rfl, hb2⟩
  have H2 : Hid (Left w w2 rb kb M ob cb qp me pm) := ⟨H1.out.1.below hb2, H1.out.2.trans (Fr.of_below hb2)⟩
  obtain ⟨c0', c1', -⟩ := H2.out.1.cells
  have hkl := H2.out.1.pk.lt
  clear hb2 c0 c1 t0
  go_wp2_with fail
  have BN := Blk.new w2 #[.int .i64 s, .int .i64 2, .int .i64 l, .int .i64 o, .bool true] 72
  have hb0 : Below w2.heap.size w2 (w2.alloc (.cells #[.int .i64 s, .int .i64 2, .int .i64 l, .int .i64 o, .bool true] 72)) := (Below.refl _ _).alloc (Nat.le_refl _) _
  have P2 := H2.out.1.pk.below hb0
  refine (kput _ kb w2.heap.size s 2 l .nilIface (by omega) hs P2.lt (Blk.lt BN) (by omega) (by rw [BN.cell]; rfl) (by rw [BN.cell]; rfl) (by rw [BN.cell]; rfl) (P2.slot_nil hs HK0.out) (P2.frozen s)).mono ?_
  rintro e w3 ⟨rfl, w4, hb4, rfl⟩
  have fin := hide (put_done H2.out (g := w2.heap.size) (c := 0) hs HK0.out (below_next hb4 hb0) (Nat.le_refl _) (thrT l o) [] (BN.below hb4 (Blk.lt BN)) (Or.inr (Or.inl rfl)) ⟨by simp [thrT], by simp [thrT], by simp [thrT], by simp [thrT], hl, ho⟩ (fun h3 => by simp [thrT] at h3) (fun h4 => by simp [thrT] at h4))
  clear BN hb0 P2 hb4
  go_wp2_with fail
  go_ret2
  exact ⟨rfl, fin.out⟩

theorem bytes3 : ∃ i, Try.prog.info? 3 = some i ∧ i.bytes = 8 := by
  have h : (Try.prog.info? 3).map (·.bytes) = some 8 := by kernel_rfl
  obtain ⟨i, hi, hb⟩ := Option.map_eq_some_iff.1 h
  exact ⟨i, hi, hb⟩
theorem mk4chan (w : World) : (Instr.makeChan 119 (.int .i64 4)).run Try.prog w = .ok (.chan (some w.heap.size)) (w.alloc (.chan 4 #[] false 0 0 false)) := by
  obtain ⟨i, hi, hb⟩ := bytes3
  simpa using Go.Conc.run_makeChan (P := Try.prog) (w := w) Try.underlying119 hi .i64 4 (by omega) (by rw [hb]; omega)

set_option maxHeartbeats 2000000 in
theorem t_newPort (h : QK w rb kb M ob cb qp me 0) (c s l lb lo cap : Nat) (hc : c < 32) (hs : s < 32) (hl : l < 256) (hd : deep M.S DEEP c) (ha : Arg w lb lo [(c : Int), (s : Int), (l : Int)]) :
    TrapC 46 #[.pointer (some ⟨rb, 0, none⟩), .slice (some ⟨lb, lo, none⟩) 3 cap] w rb kb M ob cb qp me (mMake M.S (M.S me).owns (M.S me).label c s l) 0 (M.put s (portT l) []) := by
  have l0 := ha.c0
  have l1 := ha.c1
  have l2 := ha.c2
  have HMA := hide (fun w' hb => mayMake_any (h.below (w' := w') hb) DEEP c s l hc hs hl hd)
  have hmz := @making_zero M.S (M.S me).owns (M.S me).label DEEP c s l (0, 0)
  change TrapC _ _ _ _ _ _ _ _ _ _ (makingF M.S (M.S me).owns (M.S me).label DEEP c s l (0, 0)) _ _
  clear h hd ha
  generalize makingF M.S (M.S me).owns (M.S me).label DEEP c s l (0, 0) = pm at *
  by_cases hp : pm.2 = 0
  rotate_left
  · refine TrapC.no hp ?_
    clear hmz
    go_enter Try.func46, Try.ntmps46
    go_wp2_with fail
    go_quiet (fail)
    go_wp2_with fail
    refine (HMA.out _ (below_drewN (Below.refl _ _) _)).mono ?_
    rintro e w1 ⟨rfl, h1, g1⟩
    go_wp2_with fail
    go_ret2
    exact ⟨rfl, h1, ((Fr.refl _ _).drewN _).trans g1⟩
  refine TrapC.yes hp ?_
  have HK0 := hide (hmz hp).free
  have HP := hide hp
  clear hp hmz
  go_enter Try.func46, Try.ntmps46
  go_wp2_with fail
  go_quiet (fail)
  go_wp2_with fail
  refine (HMA.out _ (below_drewN (Below.refl _ _) _)).mono ?_
  rintro e w1 ⟨rfl, h1, g1⟩
  rw [HP.out]
  have H1 : Hid (Left w w1 rb kb M ob cb qp me pm) := ⟨h1, ((Fr.refl _ _).drewN _).trans g1⟩
  have hkl := h1.pk.lt
  have HC : Hid (∀ W, Below w1.heap.size w1 W → W.cell? ⟨rb, 0, none⟩ = some (.pointer (some ⟨kb, 0, none⟩))) := fun W hb => (h1.below hb).cells.1
  clear h1 g1 l0 l1 l2
  have hmc := mk4chan
  have HPUT : Hid (Calls Try.prog 49 #[.pointer (some ⟨kb, 0, none⟩), .iface 118 (.pointer (some ⟨w1.heap.size + 1, 0, none⟩))]
      (((w1.alloc (.chan 4 #[] false 0 0 false)).alloc (.cells #[.int .i64 s, .int .i64 4, .int .i64 l, .chan (some w1.heap.size)] 121)).drew) fun e w' => e = .returned (.tuple #[]) ∧ TrapDone w w' rb kb M (M.put s (portT l) []) ob cb qp me pm.1) := by
    have hb0 : Below w1.heap.size w1 (((w1.alloc (.chan 4 #[] false 0 0 false)).alloc (.cells #[.int .i64 s, .int .i64 4, .int .i64 l, .chan (some w1.heap.size)] 121)).drew) := (((Below.refl _ _).alloc (Nat.le_refl _) _).alloc (by simp) _).drew
    have BN : Blk (((w1.alloc (.chan 4 #[] false 0 0 false)).alloc (.cells #[.int .i64 s, .int .i64 4, .int .i64 l, .chan (some w1.heap.size)] 121)).drew) (w1.heap.size + 1) #[.int .i64 s, .int .i64 4, .int .i64 l, .chan (some w1.heap.size)] := (Blk.new' (by simp)).drew
    have CN : ChanAt (((w1.alloc (.chan 4 #[] false 0 0 false)).alloc (.cells #[.int .i64 s, .int .i64 4, .int .i64 l, .chan (some w1.heap.size)] 121)).drew) w1.heap.size [] := by
      refine ⟨0, 0, ?_⟩
      change ((w1.alloc (.chan 4 #[] false 0 0 false)).alloc (.cells #[.int .i64 s, .int .i64 4, .int .i64 l, .chan (some w1.heap.size)] 121)).heap[w1.heap.size]? = _
      rw [Below.heap_alloc _ _ _ (by simp)]
      show (w1.heap.push _)[w1.heap.size]? = _
      simp [ints]
    generalize ((w1.alloc (.chan 4 #[] false 0 0 false)).alloc (.cells #[.int .i64 s, .int .i64 4, .int .i64 l, .chan (some w1.heap.size)] 121)).drew = W at *
    have P2 := H1.out.1.pk.below hb0
    refine (kput W kb (w1.heap.size + 1) s 4 l .nilIface (by omega) hs P2.lt (Blk.lt BN) (by omega) (by rw [BN.cell]; rfl) (by rw [BN.cell]; rfl) (by rw [BN.cell]; rfl) (P2.slot_nil hs HK0.out) (P2.frozen s)).mono ?_
    rintro e w2 ⟨rfl, w3, hb3, rfl⟩
    exact ⟨rfl, put_done H1.out (g := w1.heap.size + 1) (c := w1.heap.size) hs HK0.out (below_next hb3 hb0) (by omega) (portT l) [] (BN.below hb3 (Blk.lt BN)) (Or.inr (Or.inr (Or.inr rfl))) ⟨by simp [portT], by simp [portT], by simp [portT], by simp [portT], hl, by simp [portT]⟩ (fun h3 => by simp [portT] at h3) (fun _ => ⟨CN.same (hb3.block _ CN.lt), Nat.le_refl _, by simp⟩)⟩
  go_wp2_with fail
  go_region_held3 (fun W => W.cell? ⟨rb, 0, none⟩ = some (.pointer (some ⟨kb, 0, none⟩)))
    (first | (rw [Blk.cell hdone.1]; rfl) | (refine HC.out _ ?_; repeat (first | exact Below.refl _ _ | refine Below.drew ?_ | refine Below.alloc ?_ (by simp) _)))
    (first | (go_at_call 49; refine HPUT.out.mono ?_; rintro e w2 ⟨rfl, hdone⟩))
  all_goals
    go_wp2_with fail
    go_ret2
    exact ⟨rfl, hdone⟩
end

end Go.Proofs.Ytloppmepfkkblaa
end

section
/- What the program's traps 8 and 10 do. -/
open Go Go.Proofs Go.RowKit
namespace Go.Proofs.Ytloppmepfkkblaa

section
variable {w w' : World} {rb kb : Nat} {M : MS} {ob cb : Nat → Nat} {qp : Nat → Option Nat} {me : Nat}

theorem foot_gone {s : Nat} {qp' : Nat → Option Nat} {k : Nat} (hq : ∀ q g, qp' q = some g → qp q = some g) (h : Foot kb (M.gone s) ob cb qp' k) : Foot kb M ob cb qp k := by
  have e : ∀ i n, n ≠ 0 → ((M.gone s).S i).kind = n → (M.S i).kind = n := fun i n hn hk => by
    change (if goes M.S s i then fth else M.S i).kind = n at hk
    split at hk
    · exact absurd hk.symm hn
    · exact hk
  rcases h with h | ⟨i, h1, h2, h3⟩ | ⟨i, h1, h2, h3⟩ | ⟨q, h1, h2⟩
  · exact Or.inl h
  · exact Or.inr (Or.inl ⟨i, h1, by rw [e i _ h2 rfl]; exact h2, h3⟩)
  · exact Or.inr (Or.inr (Or.inl ⟨i, h1, e i 4 (by decide) h2, h3⟩))
  · exact Or.inr (Or.inr (Or.inr ⟨q, h1, hq q k h2⟩))

set_option maxHeartbeats 2000000 in
theorem t_free (h : QK w rb kb M ob cb qp me 0) (hI : MInv M) (s lb lo cap : Nat) (hs : s < 32) (ha : Arg w lb lo [(s : Int)]) :
    TrapC 40 #[.pointer (some ⟨rb, 0, none⟩), .slice (some ⟨lb, lo, none⟩) 1 cap] w rb kb M ob cb qp me (mFree M.S (M.S me).owns (M.S me).label s) 0 (M.gone s) := by
  have l0 := ha.c0
  have hd := hI.tree.deep s
  unfold mFree
  by_cases h0 : s = 0
  · subst h0
    have e1 : pathF M.S (M.S me).owns (M.S me).label DEEP ((0 : Nat) : Int) (0, 0) = (0, 0) := by
      unfold DEEP pathF
      rw [hI.tree.lies_zero]
    rw [if_pos rfl, e1]
    refine TrapC.no (by unfold failed; simp) ?_
    have H := hide h
    have e2 : failed 3 ((0 : Nat), (0 : Int)) = (0, 3) := rfl
    rw [e2]
    simp only [Int.natCast_zero] at l0
    clear h hI ha hd e1 e2
    go_enter Try.func40, Try.ntmps40
    go_wp2_with fail
    go_ret2
    exact ⟨rfl, H.out, Fr.refl _ _⟩
  rw [if_neg h0]
  have hs0 : ¬ (s : Int) = 0 := by omega
  obtain ⟨c, hc⟩ := hI.tree.lies_root (s := s) (by omega) hs
  obtain ⟨hc32, hck⟩ := lies_kind hc
  rw [hc, Option.getD_some]
  have RA := hide (find_any h DEEP s hs hd)
  have hfk := @findF_kind M.S (M.S me).owns (M.S me).label DEEP s (0, 0)
  have HMW := hide (fun w1 u1 (h1 : QK w1 rb kb M ob cb qp me u1) => mayWrite_any h1 c hc32 (by omega))
  rw [hck, tyOf1] at HMW
  have HRM := hide (fun w1 (h1 : KP w1 kb M ob cb qp) hk => remove_any h1 hI s hs hk)
  have HC := hide hc
  change TrapC _ _ _ _ _ _ _ _ _ _ (chk (M.S me).owns (M.S me).label (M.S c).label (findF M.S (M.S me).owns (M.S me).label DEEP s (0, 0))) _ _
  clear h ha hd hI hck hc
  generalize findF M.S (M.S me).owns (M.S me).label DEEP s (0, 0) = p1 at *
  by_cases e1 : p1.2 = 0
  rotate_left
  · rw [chk_err e1]
    refine TrapC.no e1 ?_
    rw [if_neg e1] at RA
    clear hfk
    go_enter Try.func40, Try.ntmps40
    go_wp2_with fail
    refine RA.out.mono ?_
    rintro e w1 ⟨rfl, h1⟩
    go_wp2_with fail
    go_ret2
    exact ⟨rfl, h1⟩
  have HK := hide (hfk e1)
  rw [if_pos e1, e1] at RA
  have HMW2 : Hid (∀ w1, QK w1 rb kb M ob cb qp me p1.1 → Calls Try.prog 65 #[.pointer (some ⟨rb, 0, none⟩), .iface 84 (.pointer (some ⟨ob c, 0, none⟩))] w1 fun e w' => e = .returned (.int .i64 (chk (M.S me).owns (M.S me).label (M.S c).label p1).2) ∧ Left w1 w' rb kb M ob cb qp me (chk (M.S me).owns (M.S me).label (M.S c).label p1)) := fun w1 h1 => by
    have := HMW.out _ _ h1
    rw [pair_eq e1] at this
    exact this
  have HRM2 := hide (fun w1 (h1 : KP w1 kb M ob cb qp) => HRM.out w1 h1 HK.out)
  clear HMW hfk e1 HRM
  generalize chk (M.S me).owns (M.S me).label (M.S c).label p1 = p2 at *
  generalize tyOf (M.S s).kind = T at *
  by_cases e2 : p2.2 = 0
  rotate_left
  · refine TrapC.no e2 ?_
    go_enter Try.func40, Try.ntmps40
    go_wp2_with fail
    refine RA.out.mono ?_
    rintro e w1 ⟨rfl, h1, g1⟩
    have H1 := hide h1
    have G1 := hide g1
    obtain ⟨c0, -⟩ := h1.cells
    clear h1 g1
    go_wp2_with fail
    refine (home_any H1.out.pk s).mono ?_
    rintro e w2 ⟨rfl, hb2⟩
    rw [HC.out]
    simp only [Option.map, ptrV]
    have H2 := hide (H1.out.below hb2)
    have G2 := hide (G1.out.trans (Fr.of_below hb2))
    clear hb2 c0
    go_wp2_with fail
    refine (HMW2.out _ H2.out).mono ?_
    rintro e w3 ⟨rfl, h3, g3⟩
    go_wp2_with fail
    go_ret2
    exact ⟨rfl, h3, G2.out.trans g3⟩
  refine TrapC.yes e2 ?_
  rw [e2] at HMW2
  clear e2
  go_enter Try.func40, Try.ntmps40
  go_wp2_with fail
  refine RA.out.mono ?_
  rintro e w1 ⟨rfl, h1, g1⟩
  have H1 := hide h1
  have G1 := hide g1
  obtain ⟨c0, -⟩ := h1.cells
  clear h1 g1
  go_wp2_with fail
  refine (home_any H1.out.pk s).mono ?_
  rintro e w2 ⟨rfl, hb2⟩
  rw [HC.out]
  simp only [Option.map, ptrV]
  have H2 := hide (H1.out.below hb2)
  have G2 := hide (G1.out.trans (Fr.of_below hb2))
  clear hb2 c0
  go_wp2_with fail
  refine (HMW2.out _ H2.out).mono ?_
  rintro e w3 ⟨rfl, h3, g3⟩
  have HL : Hid (Left w w3 rb kb M ob cb qp me p2) := ⟨h3, G2.out.trans g3⟩
  obtain ⟨c0, -⟩ := h3.cells
  clear h3 g3
  go_wp2_with fail
  refine (HRM2.out _ HL.out.1.pk).mono ?_
  rintro e w4 ⟨rfl, ⟨qp', h4, hq4⟩, f4⟩
  have fin := hide (TrapDone.of (p := p2) HL.out f4 (fun k hk => by
    rcases hk with hk | ⟨i, h1, h2, h3⟩
    · exact Or.inl hk
    · exact Or.inr (Or.inr (Or.inl ⟨i, h1, h2, h3.symm⟩))) h4 (fun k hk => Or.inl (foot_gone hq4 hk)))
  clear h4 hq4 f4 c0
  go_wp2_with fail
  go_ret2
  exact ⟨rfl, fin.out⟩

set_option maxRecDepth 100000 in
set_option maxHeartbeats 4000000 in
theorem t_give (h : QK w rb kb M ob cb qp me 0) (q s c lb lo cap : Nat) (hq : q < 8) (hs : s < 32) (hc : has M.S q = some c) (hdc : deep M.S DEEP c) (hds : deep M.S DEEP s) (ha : Arg w lb lo [(q : Int), (s : Int)]) :
    TrapC 42 #[.pointer (some ⟨rb, 0, none⟩), .slice (some ⟨lb, lo, none⟩) 2 cap] w rb kb M ob cb qp me (mGive M.S (M.S me).owns (M.S me).label q s) 0 (M.turn q (some s)) := by
  have l0 := ha.c0
  have l1 := ha.c1
  have hq8 : (q : Int) < 8 := by omega
  obtain ⟨hc32, hck⟩ := has_kind hc
  have RA := hide (fun W hb => mayChange_any (h.below (w' := W) hb) q c hc hdc)
  have HLc := hide (h.pk.wf c hc32).2.2.2.2.1
  have HLs := hide (h.pk.wf s hs).2.2.2.2.1
  have hk14 := fun hk => h.pk.kind14 hs hk
  unfold mGive
  rw [hc, Option.getD_some]
  have HF : Hid (∀ w1 u, QK w1 rb kb M ob cb qp me u → _) := fun w1 u h1 => find_any h1 DEEP s hs hds
  have EF : ∀ p, thereF M.S s (pathF M.S (M.S me).owns (M.S me).label DEEP s p) = findF M.S (M.S me).owns (M.S me).label DEEP s p := fun p => rfl
  have EPE : ∀ p : Nat × Int, p.2 ≠ 0 → pathF M.S (M.S me).owns (M.S me).label DEEP s p = p := path_err M.S (M.S me).owns (M.S me).label DEEP s
  rw [EF]
  clear h ha hdc hds hc
  generalize hp1 : mDrop M.S (M.S me).owns (M.S me).label q = p1 at *
  clear hp1
  by_cases e1 : p1.2 = 0
  rotate_left
  · have e2 : findF M.S (M.S me).owns (M.S me).label DEEP s p1 = p1 := by
      unfold findF
      rw [EPE p1 e1]
      unfold thereF
      rw [failed_err e1]
      split <;> rfl
    rw [e2, kindF_of e1, chk_err e1]
    refine TrapC.no e1 ?_
    rw [if_neg e1] at RA
    clear e2 EF EPE hk14 HF
    go_enter Try.func42, Try.ntmps42
    go_wp2_with fail
    go_quiet (fail)
    go_wp2_with fail
    refine (RA.out _ (below_drewN (Below.refl _ _) _)).mono ?_
    rintro e w1 ⟨rfl, h1, g1⟩
    go_wp2_with fail
    go_ret2
    exact ⟨rfl, h1, ((Fr.refl _ _).drewN _).trans g1⟩
  rw [if_pos e1, e1] at RA
  have EP1 := pair_eq e1
  rw [← EP1]
  clear EP1 e1 EF EPE
  have hfk := @findF_kind M.S (M.S me).owns (M.S me).label DEEP s (p1.1, 0)
  have HF2 := hide (fun w1 (h1 : QK w1 rb kb M ob cb qp me p1.1) => HF.out w1 p1.1 h1)
  clear HF
  generalize findF M.S (M.S me).owns (M.S me).label DEEP s (p1.1, 0) = p2 at *
  by_cases e2 : p2.2 = 0
  rotate_left
  · rw [kindF_of e2, chk_err e2]
    refine TrapC.no e2 ?_
    rw [if_neg e2] at HF2
    clear hfk hk14
    go_enter Try.func42, Try.ntmps42
    go_wp2_with fail
    go_quiet (fail)
    go_wp2_with fail
    refine (RA.out _ (below_drewN (Below.refl _ _) _)).mono ?_
    rintro e w1 ⟨rfl, h1, g1⟩
    have H1 := hide h1
    have G1 : Hid (Fr (fun k => k = rb) w w1) := ((Fr.refl _ _).drewN _).trans g1
    clear h1 g1 l0 l1
    go_wp2_with fail
    refine (HF2.out _ H1.out).mono ?_
    rintro e w2 ⟨rfl, h2, g2⟩
    go_wp2_with fail
    go_ret2
    exact ⟨rfl, h2, G1.out.trans g2⟩
  have hk0 := hfk e2
  rw [if_pos e2, e2] at HF2
  by_cases hk2 : (M.S s).kind = 2
  rotate_left
  · rw [kindF_no e2 hk2, chk_err (by simp)]
    refine TrapC.no (by simp) ?_
    have hta := fun w => ta_thread_no w (ob s) (M.S s).kind (hk14 hk0) hk2
    clear hfk hk14 e2 hk0 hk2
    generalize tyOf (M.S s).kind = T at *
    go_enter Try.func42, Try.ntmps42
    go_wp2_with fail
    go_quiet (fail)
    go_wp2_with fail
    refine (RA.out _ (below_drewN (Below.refl _ _) _)).mono ?_
    rintro e w1 ⟨rfl, h1, g1⟩
    have H1 := hide h1
    have G1 : Hid (Fr (fun k => k = rb) w w1) := ((Fr.refl _ _).drewN _).trans g1
    clear h1 g1 l0 l1
    go_wp2_with fail
    refine (HF2.out _ H1.out).mono ?_
    rintro e w2 ⟨rfl, h2, g2⟩
    go_wp2_with fail
    go_ret2
    exact ⟨rfl, h2, G1.out.trans g2⟩
  rw [kindF_yes hk2]
  rw [hk2, tyOf2] at HF2
  have hta := fun w => ta_thread_thread w (ob s)
  have HK2 := hide hk2
  have HCK := hide hck
  have HFT : Hid (∀ w1, QK w1 rb kb M ob cb qp me p2.1 → Calls Try.prog 68 #[.pointer (some ⟨rb, 0, none⟩), .int .i64 (M.S c).label, .int .i64 (M.S s).label] w1 fun e w' => e = .returned (.int .i64 (chk (M.S me).owns (M.S c).label (M.S s).label p2).2) ∧ Left w1 w' rb kb M ob cb qp me (chk (M.S me).owns (M.S c).label (M.S s).label p2)) := fun w1 h1 => by
    have := fits_any h1 (M.S c).label (M.S s).label HLc.out HLs.out
    rw [pair_eq e2] at this
    exact this
  clear hfk hk14 e2 hk0 hk2 hck
  generalize chk (M.S me).owns (M.S c).label (M.S s).label p2 = p3 at *
  have HS : Hid (∀ W u, QK W rb kb M ob cb qp me u → W.cell? ⟨ob c, 0, none⟩ = some (.int .i64 c) ∧ W.cell? ⟨ob c, 1, none⟩ = some (.int .i64 (M.S c).kind) ∧ W.cell? ⟨ob c, 2, none⟩ = some (.int .i64 (M.S c).label) ∧ W.cell? ⟨ob s, 0, none⟩ = some (.int .i64 s) ∧ W.cell? ⟨ob s, 1, none⟩ = some (.int .i64 (M.S s).kind) ∧ W.cell? ⟨ob s, 2, none⟩ = some (.int .i64 (M.S s).label)) := fun W u hW => by
    obtain ⟨a0, a1, a2⟩ := hW.pk.base hc32 (by have := HCK.out; omega)
    obtain ⟨b0, b1, b2⟩ := hW.pk.base hs (by have := HK2.out; omega)
    exact ⟨a0, a1, a2, b0, b1, b2⟩
  by_cases e3 : p3.2 = 0
  rotate_left
  · refine TrapC.no e3 ?_
    go_enter Try.func42, Try.ntmps42
    go_wp2_with fail
    go_quiet (fail)
    go_wp2_with fail
    refine (RA.out _ (below_drewN (Below.refl _ _) _)).mono ?_
    rintro e w1 ⟨rfl, h1, g1⟩
    have H1 := hide h1
    have G1 : Hid (Fr (fun k => k = rb) w w1) := ((Fr.refl _ _).drewN _).trans g1
    clear h1 g1 l0 l1
    go_wp2_with fail
    refine (HF2.out _ H1.out).mono ?_
    rintro e w2 ⟨rfl, h2, g2⟩
    have H2 := hide h2
    have G2 := hide (G1.out.trans g2)
    clear h2 g2
    go_wp2_with fail
    go_region_held3 (fun W => W.cell? ⟨ob c, 0, none⟩ = some (.int .i64 c) ∧ W.cell? ⟨ob c, 1, none⟩ = some (.int .i64 (M.S c).kind) ∧ W.cell? ⟨ob c, 2, none⟩ = some (.int .i64 (M.S c).label) ∧ W.cell? ⟨ob s, 0, none⟩ = some (.int .i64 s) ∧ W.cell? ⟨ob s, 1, none⟩ = some (.int .i64 (M.S s).kind) ∧ W.cell? ⟨ob s, 2, none⟩ = some (.int .i64 (M.S s).label))
      (first | exact HS.out _ _ h5.1 | (refine HS.out _ _ (H2.out.below ?_); repeat (first | exact Below.refl _ _ | refine Below.drew ?_ | (apply below_next; assumption))))
      (first | (go_at_call 26; refine (labelOf_any _ _ _ _).mono ?_; rintro e w4 ⟨rfl, hb4⟩) | (go_at_call 68; refine Calls.mono (HFT.out _ (H2.out.below ?_)) ?_; apply below_next; assumption; apply below_next; assumption; exact Below.drew (Below.refl _ _); rintro e w5 ⟨rfl, h5⟩))
    all_goals
      go_wp2_with fail
      go_ret2
      refine ⟨rfl, h5.1, Fr.trans (G2.out.trans (Fr.of_below ?_)) h5.2⟩
      repeat (first | exact Below.refl _ _ | refine Below.drew ?_ | (apply below_next; assumption))
  refine TrapC.yes e3 ?_
  rw [e3] at HFT
  clear e3
  go_enter Try.func42, Try.ntmps42
  go_wp2_with fail
  go_quiet (fail)
  go_wp2_with fail
  refine (RA.out _ (below_drewN (Below.refl _ _) _)).mono ?_
  rintro e w1 ⟨rfl, h1, g1⟩
  have H1 := hide h1
  have G1 : Hid (Fr (fun k => k = rb) w w1) := ((Fr.refl _ _).drewN _).trans g1
  clear h1 g1 l0 l1
  go_wp2_with fail
  refine (HF2.out _ H1.out).mono ?_
  rintro e w2 ⟨rfl, h2, g2⟩
  have H2 := hide h2
  have G2 := hide (G1.out.trans g2)
  clear h2 g2
  go_wp2_with fail
  go_region_held3 (fun W => W.cell? ⟨ob c, 0, none⟩ = some (.int .i64 c) ∧ W.cell? ⟨ob c, 1, none⟩ = some (.int .i64 (M.S c).kind) ∧ W.cell? ⟨ob c, 2, none⟩ = some (.int .i64 (M.S c).label) ∧ W.cell? ⟨ob s, 0, none⟩ = some (.int .i64 s) ∧ W.cell? ⟨ob s, 1, none⟩ = some (.int .i64 (M.S s).kind) ∧ W.cell? ⟨ob s, 2, none⟩ = some (.int .i64 (M.S s).label))
    (first | exact HS.out _ _ h5.1 | (refine HS.out _ _ (H2.out.below ?_); repeat (first | exact Below.refl _ _ | refine Below.drew ?_ | (apply below_next; assumption))))
    (first | (go_at_call 26; refine (labelOf_any _ _ _ _).mono ?_; rintro e w4 ⟨rfl, hb4⟩) | (go_at_call 68; refine Calls.mono (HFT.out _ (H2.out.below ?_)) ?_; apply below_next; assumption; apply below_next; assumption; exact Below.drew (Below.refl _ _); rintro e w5 ⟨rfl, h5⟩))
  all_goals
    have HL : Hid (Left w w5 rb kb M ob cb qp me p3) := by
      refine ⟨h5.1, Fr.trans (G2.out.trans (Fr.of_below ?_)) h5.2⟩
      repeat (first | exact Below.refl _ _ | refine Below.drew ?_ | (apply below_next; assumption))
    obtain ⟨c0, -⟩ := HL.out.1.cells
    have q0 := HL.out.1.pk.quant hq
    have qz := HL.out.1.pk.frozen (32 + q)
    have fin : Hid (TrapDone w (w5.setCell ⟨kb, 32 + q, none⟩ (.pointer (some ⟨ob s, 0, none⟩))) rb kb M (M.turn q (some s)) ob cb qp me p3.1) :=
      TrapDone.of (p := p3) HL.out (F := fun k => k = kb) (Fr.own _ _ _ _) (fun k hk => Or.inl hk) (ob' := ob) (cb' := cb) (qp' := upd qp q (some (ob s))) (HL.out.1.pk.putTurn hq (some s) (fun _ h => by injection h with h; subst h; exact ⟨hs, HK2.out⟩)) (fun k hk => Or.inl (foot_turn (q := q) (t := some s) (fun _ h => by injection h with h; subst h; exact ⟨hs, HK2.out⟩) hk))
    rcases ptrV_shape (qp q) with hv | ⟨g', hv⟩ <;> rw [hv] at q0
    all_goals
      go_wp2_with fail
      go_ret2
      exact ⟨rfl, fin.out⟩
end

end Go.Proofs.Ytloppmepfkkblaa
end
