/- What the program's trap 7 does: NewContainer. -/
import Derived.Test.YtloppmepfkkblaaJKPutToKTraps3
open Go Go.Proofs Go.RowKit
namespace Go.Proofs.Ytloppmepfkkblaa

section
variable {w w' : World} {rb kb : Nat} {M : MS} {ob cb : Nat → Nat} {qp : Nat → Option Nat} {me : Nat}

theorem foot_idle {g e : Nat} {k : Nat} (h : Foot kb (M.idle g e) ob cb (qpIdle qp g e) k) : Foot kb M ob cb qp k := by
  rcases h with h | h | h | ⟨q, h1, h2⟩
  · exact Or.inl h
  · exact Or.inr (Or.inl h)
  · exact Or.inr (Or.inr (Or.inl h))
  · unfold qpIdle at h2
    split at h2
    · cases h2
    · exact Or.inr (Or.inr (Or.inr ⟨q, h1, h2⟩))

set_option maxRecDepth 100000 in
set_option maxHeartbeats 8000000 in
theorem t_newContainer (h : QK w rb kb M ob cb qp me 0) (c s l a e g z lb lo cap : Nat) (hc : c < 32) (hs : s < 32) (hl : l < 256) (_ha1 : 1 ≤ a) (hae : a ≤ e) (he : e ≤ 32) (hgz : g ≤ z) (hz : z ≤ 8) (hd : deep M.S DEEP c)
    (ha : Arg w lb lo [(c : Int), (s : Int), (l : Int), (a : Int), (e : Int), (g : Int), (z : Int)]) :
    TrapC 39 #[.pointer (some ⟨rb, 0, none⟩), .slice (some ⟨lb, lo, none⟩) 7 cap] w rb kb M ob cb qp me (mCont M.S (M.S me).owns (M.S me).label c s l a e g z) 0 ((M.put s (contT l a e g z) []).idle g z) := by
  have l0 := ha.c0
  have l1 := ha.c1
  have l2 := ha.c2
  have HMA := hide (fun w' hb => mayMake_any (h.below (w' := w') hb) DEEP c s l hc hs hl hd)
  have hmz := @making_zero M.S (M.S me).owns (M.S me).label DEEP c s l (0, 0)
  have HA := hide ha
  have HX : Hid (∀ W, Below w.heap.size w W → W.cell? ⟨lb, lo + 3, none⟩ = some (.int .i64 a) ∧ W.cell? ⟨lb, lo + 4, none⟩ = some (.int .i64 e) ∧ W.cell? ⟨lb, lo + 5, none⟩ = some (.int .i64 g) ∧ W.cell? ⟨lb, lo + 6, none⟩ = some (.int .i64 z)) := fun W hb => by
    have := ha.below hb ha.lt
    exact ⟨this.c3, this.c4, this.c5, this.c6⟩
  unfold mCont
  change TrapC _ _ _ _ _ _ _ _ _ _ (if busyB M.S c s a e g z = true then failed 7 (makingF M.S (M.S me).owns (M.S me).label DEEP c s l (0, 0)) else makingF M.S (M.S me).owns (M.S me).label DEEP c s l (0, 0)) _ _
  have HRB := hide h.lt
  have HKB := hide h.pk.lt
  clear h hd ha
  generalize makingF M.S (M.S me).owns (M.S me).label DEEP c s l (0, 0) = pm at *
  by_cases hp : pm.2 = 0
  rotate_left
  · have e1 : (if busyB M.S c s a e g z = true then failed 7 pm else pm) = pm := by rw [failed_err hp]; split <;> rfl
    rw [e1]
    refine TrapC.no hp ?_
    clear hmz e1
    go_enter Try.func39, Try.ntmps39
    go_wp2_with fail
    go_quiet (fail)
    go_wp2_with fail
    have hb0 : Below w.heap.size w (w.drewN nq) := below_drewN (Below.refl _ _) _
    generalize w.drewN nq = w0 at *
    have HX0 : Hid (∀ W, Below w0.heap.size w0 W → _) := fun W hb => HX.out W (below_next hb hb0)
    have HB0 := hide hb0
    have hsz := hb0.size
    clear hb0
    go_region_held3 (fun W => W.cell? ⟨lb, lo + 3, none⟩ = some (.int .i64 a) ∧ W.cell? ⟨lb, lo + 4, none⟩ = some (.int .i64 e) ∧ W.cell? ⟨lb, lo + 5, none⟩ = some (.int .i64 g) ∧ W.cell? ⟨lb, lo + 6, none⟩ = some (.int .i64 z))
      ((refine HX0.out _ ?_; repeat (first | exact Below.refl _ _ | refine Below.drew ?_ | refine Below.alloc ?_ (by simp) _ | refine Below.setCell ?_ (by simp) _)))
      (fail)
    · have hb1 : Below w0.heap.size w0 (((w0.alloc (.cells #[.int .i64 a, .int .i64 e] 95)).alloc (.cells #[.int .i64 g, .int .i64 z] 95)).drew) := (((Below.refl _ _).alloc (Nat.le_refl _) _).alloc (by simp) _).drew
      have B9 := ((Blk.new w0 #[.int .i64 a, .int .i64 e] 95).alloc (.cells #[.int .i64 g, .int .i64 z] 95)).drew
      have B10 := (Blk.new' (g := w0.heap.size + 1) (w := w0.alloc (.cells #[.int .i64 a, .int .i64 e] 95)) (cs := #[.int .i64 g, .int .i64 z]) (T := 95) (by simp)).drew
      have HB1 := hide (below_next hb1 HB0.out)
      have HQ9 := hide B9
      have HQ10 := hide B10
      clear hb1 B9 B10 HX0 HB0 l0 l1 l2
      generalize ((w0.alloc (.cells #[.int .i64 a, .int .i64 e] 95)).alloc (.cells #[.int .i64 g, .int .i64 z] 95)).drew = W at *
      have h9 : w.heap.size ≤ w0.heap.size := hsz
      have h10 : w.heap.size ≤ w0.heap.size + 1 := by omega
      generalize w0.heap.size + 1 = g10 at *
      generalize w0.heap.size = g9 at *
      go_wp2_with fail
      refine (HMA.out _ HB1.out).mono ?_
      rintro r w1 ⟨rfl, h1, g1⟩
      go_wp2_with fail
      go_ret2
      exact ⟨rfl, h1, (Fr.of_below HB1.out).trans g1⟩
    · have hb1 : Below w0.heap.size w0 (((w0.alloc (.cells #[.int .i64 g, .int .i64 z] 95)).alloc (.cells #[.int .i64 a, .int .i64 e] 95)).drew) := (((Below.refl _ _).alloc (Nat.le_refl _) _).alloc (by simp) _).drew
      have B10 := ((Blk.new w0 #[.int .i64 g, .int .i64 z] 95).alloc (.cells #[.int .i64 a, .int .i64 e] 95)).drew
      have B9 := (Blk.new' (g := w0.heap.size + 1) (w := w0.alloc (.cells #[.int .i64 g, .int .i64 z] 95)) (cs := #[.int .i64 a, .int .i64 e]) (T := 95) (by simp)).drew
      have HB1 := hide (below_next hb1 HB0.out)
      have HQ9 := hide B9
      have HQ10 := hide B10
      clear hb1 B9 B10 HX0 HB0 l0 l1 l2
      generalize ((w0.alloc (.cells #[.int .i64 g, .int .i64 z] 95)).alloc (.cells #[.int .i64 a, .int .i64 e] 95)).drew = W at *
      have h9 : w.heap.size ≤ w0.heap.size + 1 := by omega
      have h10 : w.heap.size ≤ w0.heap.size := hsz
      generalize w0.heap.size + 1 = g9 at *
      generalize w0.heap.size = g10 at *
      go_wp2_with fail
      refine (HMA.out _ HB1.out).mono ?_
      rintro r w1 ⟨rfl, h1, g1⟩
      go_wp2_with fail
      go_ret2
      exact ⟨rfl, h1, (Fr.of_below HB1.out).trans g1⟩
  have hmade := hmz hp
  have HK0 := hide hmade.free
  have HCK := hide hmade.cont
  have HLI := hide hmade.lies
  have HP := hide hp
  clear hmade hmz
  by_cases hby : busyB M.S c s a e g z = true
  · rw [if_pos hby, failed_ok hp]
    refine TrapC.no (by simp) ?_
    have HBY : Hid ((if busyB M.S c s a e g z = true then (7 : Int) else 0) = 7) := if_pos hby
    clear hp hby
    go_enter Try.func39, Try.ntmps39
    go_wp2_with fail
    go_quiet (fail)
    go_wp2_with fail
    have hb0 : Below w.heap.size w (w.drewN nq) := below_drewN (Below.refl _ _) _
    generalize w.drewN nq = w0 at *
    have HX0 : Hid (∀ W, Below w0.heap.size w0 W → _) := fun W hb => HX.out W (below_next hb hb0)
    have HB0 := hide hb0
    have hsz := hb0.size
    clear hb0
    go_region_held3 (fun W => W.cell? ⟨lb, lo + 3, none⟩ = some (.int .i64 a) ∧ W.cell? ⟨lb, lo + 4, none⟩ = some (.int .i64 e) ∧ W.cell? ⟨lb, lo + 5, none⟩ = some (.int .i64 g) ∧ W.cell? ⟨lb, lo + 6, none⟩ = some (.int .i64 z))
      ((refine HX0.out _ ?_; repeat (first | exact Below.refl _ _ | refine Below.drew ?_ | refine Below.alloc ?_ (by simp) _ | refine Below.setCell ?_ (by simp) _)))
      (fail)
    · have hb1 : Below w0.heap.size w0 (((w0.alloc (.cells #[.int .i64 a, .int .i64 e] 95)).alloc (.cells #[.int .i64 g, .int .i64 z] 95)).drew) := (((Below.refl _ _).alloc (Nat.le_refl _) _).alloc (by simp) _).drew
      have B9 := ((Blk.new w0 #[.int .i64 a, .int .i64 e] 95).alloc (.cells #[.int .i64 g, .int .i64 z] 95)).drew
      have B10 := (Blk.new' (g := w0.heap.size + 1) (w := w0.alloc (.cells #[.int .i64 a, .int .i64 e] 95)) (cs := #[.int .i64 g, .int .i64 z]) (T := 95) (by simp)).drew
      have HB1 := hide (below_next hb1 HB0.out)
      have HQ9 := hide B9
      have HQ10 := hide B10
      clear hb1 B9 B10 HX0 HB0 l0 l1 l2
      generalize ((w0.alloc (.cells #[.int .i64 a, .int .i64 e] 95)).alloc (.cells #[.int .i64 g, .int .i64 z] 95)).drew = W at *
      have h9 : w.heap.size ≤ w0.heap.size := hsz
      have h10 : w.heap.size ≤ w0.heap.size + 1 := by omega
      generalize w0.heap.size + 1 = g10 at *
      generalize w0.heap.size = g9 at *
      go_wp2_with fail
      refine (HMA.out _ HB1.out).mono ?_
      rintro r w1 ⟨rfl, h1, g1⟩
      rw [HP.out]
      have hrb : rb < w.heap.size := HRB.out
      have HL1 : Hid (Left w w1 rb kb M ob cb qp me pm) := ⟨h1, (Fr.of_below HB1.out).trans g1⟩
      have C9 := hide (HQ9.out.fr g1 (by omega))
      have C10 := hide (HQ10.out.fr g1 (by omega))
      have HS : Hid (∀ Z, Below w1.heap.size w1 Z → Z.cell? ⟨rb, 0, none⟩ = some (.pointer (some ⟨kb, 0, none⟩)) ∧ Z.cell? ⟨g9, 0, none⟩ = some (.int .i64 a) ∧ Z.cell? ⟨g9, 1, none⟩ = some (.int .i64 e) ∧ Z.cell? ⟨g10, 0, none⟩ = some (.int .i64 g) ∧ Z.cell? ⟨g10, 1, none⟩ = some (.int .i64 z)) := fun Z hb => by
        have q := (HL1.out.1.below hb).cells.1
        have x9 := C9.out.below hb C9.out.lt
        have x10 := C10.out.below hb C10.out.lt
        exact ⟨q, by rw [x9.cell]; rfl, by rw [x9.cell]; rfl, by rw [x10.cell]; rfl, by rw [x10.cell]; rfl⟩
      clear h1 g1 HQ9 HQ10
      go_wp2_with fail
      go_region_held3 (fun Z => Z.cell? ⟨rb, 0, none⟩ = some (.pointer (some ⟨kb, 0, none⟩)) ∧ Z.cell? ⟨g9, 0, none⟩ = some (.int .i64 a) ∧ Z.cell? ⟨g9, 1, none⟩ = some (.int .i64 e) ∧ Z.cell? ⟨g10, 0, none⟩ = some (.int .i64 g) ∧ Z.cell? ⟨g10, 1, none⟩ = some (.int .i64 z))
        ((refine HS.out _ ?_; repeat (first | exact Below.refl _ _ | refine Below.drew ?_ | (apply below_next; assumption))))
        (first | (go_at_call 63; refine (home_any (HL1.out.1.pk.below (Below.drew (Below.refl _ _))) s).mono ?_; rintro r w2 ⟨rfl, hb2⟩; rw [HLI.out]; simp only [Option.map, ptrV]) | (go_at_call 62; refine Calls.mono (mayHave_any ((HL1.out.1.below (Below.drew (Below.refl _ _))).below (by assumption)) c s a e g z hc HCK.out hae he hgz hz) ?_; rw [HBY.out]; rintro r w3 ⟨rfl, hb3⟩))
      have HB3 := hide (below_next hb3 (below_next hb2 (Below.drew (Below.refl _ _))))
      clear hb2 hb3
      
      go_wp2_with fail
      go_ret2
      exact ⟨rfl, HL1.out.1.below HB3.out, HL1.out.2.trans (Fr.of_below HB3.out)⟩
    · have hb1 : Below w0.heap.size w0 (((w0.alloc (.cells #[.int .i64 g, .int .i64 z] 95)).alloc (.cells #[.int .i64 a, .int .i64 e] 95)).drew) := (((Below.refl _ _).alloc (Nat.le_refl _) _).alloc (by simp) _).drew
      have B10 := ((Blk.new w0 #[.int .i64 g, .int .i64 z] 95).alloc (.cells #[.int .i64 a, .int .i64 e] 95)).drew
      have B9 := (Blk.new' (g := w0.heap.size + 1) (w := w0.alloc (.cells #[.int .i64 g, .int .i64 z] 95)) (cs := #[.int .i64 a, .int .i64 e]) (T := 95) (by simp)).drew
      have HB1 := hide (below_next hb1 HB0.out)
      have HQ9 := hide B9
      have HQ10 := hide B10
      clear hb1 B9 B10 HX0 HB0 l0 l1 l2
      generalize ((w0.alloc (.cells #[.int .i64 g, .int .i64 z] 95)).alloc (.cells #[.int .i64 a, .int .i64 e] 95)).drew = W at *
      have h9 : w.heap.size ≤ w0.heap.size + 1 := by omega
      have h10 : w.heap.size ≤ w0.heap.size := hsz
      generalize w0.heap.size + 1 = g9 at *
      generalize w0.heap.size = g10 at *
      go_wp2_with fail
      refine (HMA.out _ HB1.out).mono ?_
      rintro r w1 ⟨rfl, h1, g1⟩
      rw [HP.out]
      have hrb : rb < w.heap.size := HRB.out
      have HL1 : Hid (Left w w1 rb kb M ob cb qp me pm) := ⟨h1, (Fr.of_below HB1.out).trans g1⟩
      have C9 := hide (HQ9.out.fr g1 (by omega))
      have C10 := hide (HQ10.out.fr g1 (by omega))
      have HS : Hid (∀ Z, Below w1.heap.size w1 Z → Z.cell? ⟨rb, 0, none⟩ = some (.pointer (some ⟨kb, 0, none⟩)) ∧ Z.cell? ⟨g9, 0, none⟩ = some (.int .i64 a) ∧ Z.cell? ⟨g9, 1, none⟩ = some (.int .i64 e) ∧ Z.cell? ⟨g10, 0, none⟩ = some (.int .i64 g) ∧ Z.cell? ⟨g10, 1, none⟩ = some (.int .i64 z)) := fun Z hb => by
        have q := (HL1.out.1.below hb).cells.1
        have x9 := C9.out.below hb C9.out.lt
        have x10 := C10.out.below hb C10.out.lt
        exact ⟨q, by rw [x9.cell]; rfl, by rw [x9.cell]; rfl, by rw [x10.cell]; rfl, by rw [x10.cell]; rfl⟩
      clear h1 g1 HQ9 HQ10
      go_wp2_with fail
      go_region_held3 (fun Z => Z.cell? ⟨rb, 0, none⟩ = some (.pointer (some ⟨kb, 0, none⟩)) ∧ Z.cell? ⟨g9, 0, none⟩ = some (.int .i64 a) ∧ Z.cell? ⟨g9, 1, none⟩ = some (.int .i64 e) ∧ Z.cell? ⟨g10, 0, none⟩ = some (.int .i64 g) ∧ Z.cell? ⟨g10, 1, none⟩ = some (.int .i64 z))
        ((refine HS.out _ ?_; repeat (first | exact Below.refl _ _ | refine Below.drew ?_ | (apply below_next; assumption))))
        (first | (go_at_call 63; refine (home_any (HL1.out.1.pk.below (Below.drew (Below.refl _ _))) s).mono ?_; rintro r w2 ⟨rfl, hb2⟩; rw [HLI.out]; simp only [Option.map, ptrV]) | (go_at_call 62; refine Calls.mono (mayHave_any ((HL1.out.1.below (Below.drew (Below.refl _ _))).below (by assumption)) c s a e g z hc HCK.out hae he hgz hz) ?_; rw [HBY.out]; rintro r w3 ⟨rfl, hb3⟩))
      have HB3 := hide (below_next hb3 (below_next hb2 (Below.drew (Below.refl _ _))))
      clear hb2 hb3
      
      go_wp2_with fail
      go_ret2
      exact ⟨rfl, HL1.out.1.below HB3.out, HL1.out.2.trans (Fr.of_below HB3.out)⟩
  · rw [if_neg hby]
    refine TrapC.yes hp ?_
    have HBY : Hid ((if busyB M.S c s a e g z = true then (7 : Int) else 0) = 0) := if_neg hby
    clear hp hby
    go_enter Try.func39, Try.ntmps39
    go_wp2_with fail
    go_quiet (fail)
    go_wp2_with fail
    have hb0 : Below w.heap.size w (w.drewN nq) := below_drewN (Below.refl _ _) _
    generalize w.drewN nq = w0 at *
    have HX0 : Hid (∀ W, Below w0.heap.size w0 W → _) := fun W hb => HX.out W (below_next hb hb0)
    have HB0 := hide hb0
    have hsz := hb0.size
    clear hb0
    go_region_held3 (fun W => W.cell? ⟨lb, lo + 3, none⟩ = some (.int .i64 a) ∧ W.cell? ⟨lb, lo + 4, none⟩ = some (.int .i64 e) ∧ W.cell? ⟨lb, lo + 5, none⟩ = some (.int .i64 g) ∧ W.cell? ⟨lb, lo + 6, none⟩ = some (.int .i64 z))
      ((refine HX0.out _ ?_; repeat (first | exact Below.refl _ _ | refine Below.drew ?_ | refine Below.alloc ?_ (by simp) _ | refine Below.setCell ?_ (by simp) _)))
      (fail)
    · have hb1 : Below w0.heap.size w0 (((w0.alloc (.cells #[.int .i64 a, .int .i64 e] 95)).alloc (.cells #[.int .i64 g, .int .i64 z] 95)).drew) := (((Below.refl _ _).alloc (Nat.le_refl _) _).alloc (by simp) _).drew
      have B9 := ((Blk.new w0 #[.int .i64 a, .int .i64 e] 95).alloc (.cells #[.int .i64 g, .int .i64 z] 95)).drew
      have B10 := (Blk.new' (g := w0.heap.size + 1) (w := w0.alloc (.cells #[.int .i64 a, .int .i64 e] 95)) (cs := #[.int .i64 g, .int .i64 z]) (T := 95) (by simp)).drew
      have HB1 := hide (below_next hb1 HB0.out)
      have HQ9 := hide B9
      have HQ10 := hide B10
      clear hb1 B9 B10 HX0 HB0 l0 l1 l2
      generalize ((w0.alloc (.cells #[.int .i64 a, .int .i64 e] 95)).alloc (.cells #[.int .i64 g, .int .i64 z] 95)).drew = W at *
      have h9 : w.heap.size ≤ w0.heap.size := hsz
      have h10 : w.heap.size ≤ w0.heap.size + 1 := by omega
      generalize w0.heap.size + 1 = g10 at *
      generalize w0.heap.size = g9 at *
      go_wp2_with fail
      refine (HMA.out _ HB1.out).mono ?_
      rintro r w1 ⟨rfl, h1, g1⟩
      rw [HP.out]
      have hrb : rb < w.heap.size := HRB.out
      have HL1 : Hid (Left w w1 rb kb M ob cb qp me pm) := ⟨h1, (Fr.of_below HB1.out).trans g1⟩
      have C9 := hide (HQ9.out.fr g1 (by omega))
      have C10 := hide (HQ10.out.fr g1 (by omega))
      have HS : Hid (∀ Z, Below w1.heap.size w1 Z → Z.cell? ⟨rb, 0, none⟩ = some (.pointer (some ⟨kb, 0, none⟩)) ∧ Z.cell? ⟨g9, 0, none⟩ = some (.int .i64 a) ∧ Z.cell? ⟨g9, 1, none⟩ = some (.int .i64 e) ∧ Z.cell? ⟨g10, 0, none⟩ = some (.int .i64 g) ∧ Z.cell? ⟨g10, 1, none⟩ = some (.int .i64 z)) := fun Z hb => by
        have q := (HL1.out.1.below hb).cells.1
        have x9 := C9.out.below hb C9.out.lt
        have x10 := C10.out.below hb C10.out.lt
        exact ⟨q, by rw [x9.cell]; rfl, by rw [x9.cell]; rfl, by rw [x10.cell]; rfl, by rw [x10.cell]; rfl⟩
      clear h1 g1 HQ9 HQ10
      go_wp2_with fail
      go_region_held3 (fun Z => Z.cell? ⟨rb, 0, none⟩ = some (.pointer (some ⟨kb, 0, none⟩)) ∧ Z.cell? ⟨g9, 0, none⟩ = some (.int .i64 a) ∧ Z.cell? ⟨g9, 1, none⟩ = some (.int .i64 e) ∧ Z.cell? ⟨g10, 0, none⟩ = some (.int .i64 g) ∧ Z.cell? ⟨g10, 1, none⟩ = some (.int .i64 z))
        ((refine HS.out _ ?_; repeat (first | exact Below.refl _ _ | refine Below.drew ?_ | (apply below_next; assumption))))
        (first | (go_at_call 63; refine (home_any (HL1.out.1.pk.below (Below.drew (Below.refl _ _))) s).mono ?_; rintro r w2 ⟨rfl, hb2⟩; rw [HLI.out]; simp only [Option.map, ptrV]) | (go_at_call 62; refine Calls.mono (mayHave_any ((HL1.out.1.below (Below.drew (Below.refl _ _))).below (by assumption)) c s a e g z hc HCK.out hae he hgz hz) ?_; rw [HBY.out]; rintro r w3 ⟨rfl, hb3⟩))
      have HB3 := hide (below_next hb3 (below_next hb2 (Below.drew (Below.refl _ _))))
      clear hb2 hb3
      
      have HL3 : Hid (Left w w3 rb kb M ob cb qp me pm) := ⟨HL1.out.1.below HB3.out, HL1.out.2.trans (Fr.of_below HB3.out)⟩
      have D9 := hide (C9.out.below HB3.out C9.out.lt)
      have D10 := hide (C10.out.below HB3.out C10.out.lt)
      have HS3 := hide (fun Z hb => HS.out Z (below_next hb HB3.out))
      clear HS C9 C10 HB3
      have hkl := HL3.out.1.pk.lt
      have HPUT : Hid (Calls Try.prog 49 #[.pointer (some ⟨kb, 0, none⟩), .iface 84 (.pointer (some ⟨w3.heap.size, 0, none⟩))]
          ((w3.alloc (.cells #[.int .i64 s, .int .i64 1, .int .i64 l, .int .i64 a, .int .i64 e, .int .i64 g, .int .i64 z] 97)).drew) fun e' w' => e' = .returned (.tuple #[]) ∧ TrapDone w w' rb kb M (M.put s (contT l a e g z) []) ob cb qp me pm.1 ∧ Blk w' g9 #[.int .i64 a, .int .i64 e] ∧ Blk w' g10 #[.int .i64 g, .int .i64 z]) := by
        have hb0 : Below w3.heap.size w3 ((w3.alloc (.cells #[.int .i64 s, .int .i64 1, .int .i64 l, .int .i64 a, .int .i64 e, .int .i64 g, .int .i64 z] 97)).drew) := ((Below.refl _ _).alloc (Nat.le_refl _) _).drew
        have BN : Blk ((w3.alloc (.cells #[.int .i64 s, .int .i64 1, .int .i64 l, .int .i64 a, .int .i64 e, .int .i64 g, .int .i64 z] 97)).drew) w3.heap.size #[.int .i64 s, .int .i64 1, .int .i64 l, .int .i64 a, .int .i64 e, .int .i64 g, .int .i64 z] := (Blk.new _ _ _).drew
        generalize (w3.alloc (.cells #[.int .i64 s, .int .i64 1, .int .i64 l, .int .i64 a, .int .i64 e, .int .i64 g, .int .i64 z] 97)).drew = W' at *
        have P2 := HL3.out.1.pk.below hb0
        have n9 : g9 ≠ kb := by have := HKB.out; omega
        have n10 : g10 ≠ kb := by have := HKB.out; omega
        refine (kput W' kb w3.heap.size s 1 l .nilIface (by omega) hs P2.lt (Blk.lt BN) (by omega) (by rw [BN.cell]; rfl) (by rw [BN.cell]; rfl) (by rw [BN.cell]; rfl) (P2.slot_nil hs HK0.out) (P2.frozen s)).mono ?_
        rintro r w4 ⟨rfl, w5, hb5, rfl⟩
        have hb6 := below_next hb5 hb0
        refine ⟨rfl, put_done HL3.out (g := w3.heap.size) (c := 0) hs HK0.out hb6 (Nat.le_refl _) (contT l a e g z) [] (BN.below hb5 (Blk.lt BN)) (Or.inl rfl) ⟨by simp [contT], by simp [contT]; omega, by simp [contT], by simp [contT]; omega, hl, by simp [contT]⟩ (fun h3 => by simp [contT] at h3) (fun h4 => by simp [contT] at h4), ?_, ?_⟩
        · exact (D9.out.below hb6 D9.out.lt).apart n9 _
        · exact (D10.out.below hb6 D10.out.lt).apart n10 _
      go_wp2_with fail
      go_region_held3 (fun Z => Z.cell? ⟨rb, 0, none⟩ = some (.pointer (some ⟨kb, 0, none⟩)) ∧ Z.cell? ⟨g9, 0, none⟩ = some (.int .i64 a) ∧ Z.cell? ⟨g9, 1, none⟩ = some (.int .i64 e) ∧ Z.cell? ⟨g10, 0, none⟩ = some (.int .i64 g) ∧ Z.cell? ⟨g10, 1, none⟩ = some (.int .i64 z))
        (first | exact ⟨by rw [Blk.cell hdone.1.1]; rfl, by rw [hdone.2.1.cell]; rfl, by rw [hdone.2.1.cell]; rfl, by rw [hdone.2.2.cell]; rfl, by rw [hdone.2.2.cell]; rfl⟩ | (refine HS3.out _ ?_; repeat (first | exact Below.refl _ _ | refine Below.drew ?_ | refine Below.alloc ?_ (by simp) _)))
        (first | (go_at_call 49; refine HPUT.out.mono ?_; rintro r w4 ⟨rfl, hdone⟩))
      obtain ⟨⟨r4, ⟨ob', cb', qp', k4, f4⟩, fr4⟩, E9, E10⟩ := hdone
      have y0 : w4.cell? ⟨rb, 0, none⟩ = some (.pointer (some ⟨kb, 0, none⟩)) := by rw [Blk.cell r4]; rfl
      have y1 : w4.cell? ⟨g10, 0, none⟩ = some (.int .i64 g) := by rw [E10.cell]; rfl
      have y2 : w4.cell? ⟨g10, 1, none⟩ = some (.int .i64 z) := by rw [E10.cell]; rfl
      have R4 := hide r4
      have K4 := hide k4
      have F4 := hide f4
      have FR4 := hide fr4
      have hrk : rb ≠ kb := fun eq => HL3.out.1.ne (Or.inl eq)
      have HDT : Hid (Calls Try.prog 64 #[.pointer (some ⟨kb, 0, none⟩), .agg #[.int .i64 g, .int .i64 z]] w4.drew fun r w' => r = .returned (.tuple #[]) ∧ TrapDone w w' rb kb M ((M.put s (contT l a e g z) []).idle g z) ob cb qp me pm.1 ∧ Blk w' g10 #[.int .i64 g, .int .i64 z]) := by
        refine (dropThreads_any (k4.below (Below.drew (Below.refl _ _))) g z hgz hz).mono ?_
        rintro r w' ⟨rfl, hk', hf'⟩
        refine ⟨rfl, ⟨Blk.fr (Blk.drew r4) hf' hrk, ⟨ob', cb', _, hk', fun k hk => f4 k (foot_idle hk)⟩, (fr4.drew).trans (hf'.mono (fun k _ hk => Or.inr (Or.inl hk)))⟩, (E10.drew).fr hf' (by have := HKB.out; omega)⟩
      clear r4 k4 f4 fr4 E9 E10
      go_wp2_with fail
      go_region_held3 (fun Z => Z.cell? ⟨rb, 0, none⟩ = some (.pointer (some ⟨kb, 0, none⟩)) ∧ Z.cell? ⟨g10, 0, none⟩ = some (.int .i64 g) ∧ Z.cell? ⟨g10, 1, none⟩ = some (.int .i64 z))
        (first | exact ⟨by rw [Blk.cell hdone.1.1]; rfl, by rw [hdone.2.cell]; rfl, by rw [hdone.2.cell]; rfl⟩ | exact ⟨y0, y1, y2⟩)
        (first | (go_at_call 64; refine HDT.out.mono ?_; rintro r w5 ⟨rfl, hdone⟩))
      have FIN := hide hdone.1
      clear hdone y0 y1 y2
      go_wp2_with fail
      go_ret2
      exact ⟨rfl, FIN.out⟩
    · have hb1 : Below w0.heap.size w0 (((w0.alloc (.cells #[.int .i64 g, .int .i64 z] 95)).alloc (.cells #[.int .i64 a, .int .i64 e] 95)).drew) := (((Below.refl _ _).alloc (Nat.le_refl _) _).alloc (by simp) _).drew
      have B10 := ((Blk.new w0 #[.int .i64 g, .int .i64 z] 95).alloc (.cells #[.int .i64 a, .int .i64 e] 95)).drew
      have B9 := (Blk.new' (g := w0.heap.size + 1) (w := w0.alloc (.cells #[.int .i64 g, .int .i64 z] 95)) (cs := #[.int .i64 a, .int .i64 e]) (T := 95) (by simp)).drew
      have HB1 := hide (below_next hb1 HB0.out)
      have HQ9 := hide B9
      have HQ10 := hide B10
      clear hb1 B9 B10 HX0 HB0 l0 l1 l2
      generalize ((w0.alloc (.cells #[.int .i64 g, .int .i64 z] 95)).alloc (.cells #[.int .i64 a, .int .i64 e] 95)).drew = W at *
      have h9 : w.heap.size ≤ w0.heap.size + 1 := by omega
      have h10 : w.heap.size ≤ w0.heap.size := hsz
      generalize w0.heap.size + 1 = g9 at *
      generalize w0.heap.size = g10 at *
      go_wp2_with fail
      refine (HMA.out _ HB1.out).mono ?_
      rintro r w1 ⟨rfl, h1, g1⟩
      rw [HP.out]
      have hrb : rb < w.heap.size := HRB.out
      have HL1 : Hid (Left w w1 rb kb M ob cb qp me pm) := ⟨h1, (Fr.of_below HB1.out).trans g1⟩
      have C9 := hide (HQ9.out.fr g1 (by omega))
      have C10 := hide (HQ10.out.fr g1 (by omega))
      have HS : Hid (∀ Z, Below w1.heap.size w1 Z → Z.cell? ⟨rb, 0, none⟩ = some (.pointer (some ⟨kb, 0, none⟩)) ∧ Z.cell? ⟨g9, 0, none⟩ = some (.int .i64 a) ∧ Z.cell? ⟨g9, 1, none⟩ = some (.int .i64 e) ∧ Z.cell? ⟨g10, 0, none⟩ = some (.int .i64 g) ∧ Z.cell? ⟨g10, 1, none⟩ = some (.int .i64 z)) := fun Z hb => by
        have q := (HL1.out.1.below hb).cells.1
        have x9 := C9.out.below hb C9.out.lt
        have x10 := C10.out.below hb C10.out.lt
        exact ⟨q, by rw [x9.cell]; rfl, by rw [x9.cell]; rfl, by rw [x10.cell]; rfl, by rw [x10.cell]; rfl⟩
      clear h1 g1 HQ9 HQ10
      go_wp2_with fail
      go_region_held3 (fun Z => Z.cell? ⟨rb, 0, none⟩ = some (.pointer (some ⟨kb, 0, none⟩)) ∧ Z.cell? ⟨g9, 0, none⟩ = some (.int .i64 a) ∧ Z.cell? ⟨g9, 1, none⟩ = some (.int .i64 e) ∧ Z.cell? ⟨g10, 0, none⟩ = some (.int .i64 g) ∧ Z.cell? ⟨g10, 1, none⟩ = some (.int .i64 z))
        ((refine HS.out _ ?_; repeat (first | exact Below.refl _ _ | refine Below.drew ?_ | (apply below_next; assumption))))
        (first | (go_at_call 63; refine (home_any (HL1.out.1.pk.below (Below.drew (Below.refl _ _))) s).mono ?_; rintro r w2 ⟨rfl, hb2⟩; rw [HLI.out]; simp only [Option.map, ptrV]) | (go_at_call 62; refine Calls.mono (mayHave_any ((HL1.out.1.below (Below.drew (Below.refl _ _))).below (by assumption)) c s a e g z hc HCK.out hae he hgz hz) ?_; rw [HBY.out]; rintro r w3 ⟨rfl, hb3⟩))
      have HB3 := hide (below_next hb3 (below_next hb2 (Below.drew (Below.refl _ _))))
      clear hb2 hb3
      
      have HL3 : Hid (Left w w3 rb kb M ob cb qp me pm) := ⟨HL1.out.1.below HB3.out, HL1.out.2.trans (Fr.of_below HB3.out)⟩
      have D9 := hide (C9.out.below HB3.out C9.out.lt)
      have D10 := hide (C10.out.below HB3.out C10.out.lt)
      have HS3 := hide (fun Z hb => HS.out Z (below_next hb HB3.out))
      clear HS C9 C10 HB3
      have hkl := HL3.out.1.pk.lt
      have HPUT : Hid (Calls Try.prog 49 #[.pointer (some ⟨kb, 0, none⟩), .iface 84 (.pointer (some ⟨w3.heap.size, 0, none⟩))]
          ((w3.alloc (.cells #[.int .i64 s, .int .i64 1, .int .i64 l, .int .i64 a, .int .i64 e, .int .i64 g, .int .i64 z] 97)).drew) fun e' w' => e' = .returned (.tuple #[]) ∧ TrapDone w w' rb kb M (M.put s (contT l a e g z) []) ob cb qp me pm.1 ∧ Blk w' g9 #[.int .i64 a, .int .i64 e] ∧ Blk w' g10 #[.int .i64 g, .int .i64 z]) := by
        have hb0 : Below w3.heap.size w3 ((w3.alloc (.cells #[.int .i64 s, .int .i64 1, .int .i64 l, .int .i64 a, .int .i64 e, .int .i64 g, .int .i64 z] 97)).drew) := ((Below.refl _ _).alloc (Nat.le_refl _) _).drew
        have BN : Blk ((w3.alloc (.cells #[.int .i64 s, .int .i64 1, .int .i64 l, .int .i64 a, .int .i64 e, .int .i64 g, .int .i64 z] 97)).drew) w3.heap.size #[.int .i64 s, .int .i64 1, .int .i64 l, .int .i64 a, .int .i64 e, .int .i64 g, .int .i64 z] := (Blk.new _ _ _).drew
        generalize (w3.alloc (.cells #[.int .i64 s, .int .i64 1, .int .i64 l, .int .i64 a, .int .i64 e, .int .i64 g, .int .i64 z] 97)).drew = W' at *
        have P2 := HL3.out.1.pk.below hb0
        have n9 : g9 ≠ kb := by have := HKB.out; omega
        have n10 : g10 ≠ kb := by have := HKB.out; omega
        refine (kput W' kb w3.heap.size s 1 l .nilIface (by omega) hs P2.lt (Blk.lt BN) (by omega) (by rw [BN.cell]; rfl) (by rw [BN.cell]; rfl) (by rw [BN.cell]; rfl) (P2.slot_nil hs HK0.out) (P2.frozen s)).mono ?_
        rintro r w4 ⟨rfl, w5, hb5, rfl⟩
        have hb6 := below_next hb5 hb0
        refine ⟨rfl, put_done HL3.out (g := w3.heap.size) (c := 0) hs HK0.out hb6 (Nat.le_refl _) (contT l a e g z) [] (BN.below hb5 (Blk.lt BN)) (Or.inl rfl) ⟨by simp [contT], by simp [contT]; omega, by simp [contT], by simp [contT]; omega, hl, by simp [contT]⟩ (fun h3 => by simp [contT] at h3) (fun h4 => by simp [contT] at h4), ?_, ?_⟩
        · exact (D9.out.below hb6 D9.out.lt).apart n9 _
        · exact (D10.out.below hb6 D10.out.lt).apart n10 _
      go_wp2_with fail
      go_region_held3 (fun Z => Z.cell? ⟨rb, 0, none⟩ = some (.pointer (some ⟨kb, 0, none⟩)) ∧ Z.cell? ⟨g9, 0, none⟩ = some (.int .i64 a) ∧ Z.cell? ⟨g9, 1, none⟩ = some (.int .i64 e) ∧ Z.cell? ⟨g10, 0, none⟩ = some (.int .i64 g) ∧ Z.cell? ⟨g10, 1, none⟩ = some (.int .i64 z))
        (first | exact ⟨by rw [Blk.cell hdone.1.1]; rfl, by rw [hdone.2.1.cell]; rfl, by rw [hdone.2.1.cell]; rfl, by rw [hdone.2.2.cell]; rfl, by rw [hdone.2.2.cell]; rfl⟩ | (refine HS3.out _ ?_; repeat (first | exact Below.refl _ _ | refine Below.drew ?_ | refine Below.alloc ?_ (by simp) _)))
        (first | (go_at_call 49; refine HPUT.out.mono ?_; rintro r w4 ⟨rfl, hdone⟩))
      obtain ⟨⟨r4, ⟨ob', cb', qp', k4, f4⟩, fr4⟩, E9, E10⟩ := hdone
      have y0 : w4.cell? ⟨rb, 0, none⟩ = some (.pointer (some ⟨kb, 0, none⟩)) := by rw [Blk.cell r4]; rfl
      have y1 : w4.cell? ⟨g10, 0, none⟩ = some (.int .i64 g) := by rw [E10.cell]; rfl
      have y2 : w4.cell? ⟨g10, 1, none⟩ = some (.int .i64 z) := by rw [E10.cell]; rfl
      have R4 := hide r4
      have K4 := hide k4
      have F4 := hide f4
      have FR4 := hide fr4
      have hrk : rb ≠ kb := fun eq => HL3.out.1.ne (Or.inl eq)
      have HDT : Hid (Calls Try.prog 64 #[.pointer (some ⟨kb, 0, none⟩), .agg #[.int .i64 g, .int .i64 z]] w4.drew fun r w' => r = .returned (.tuple #[]) ∧ TrapDone w w' rb kb M ((M.put s (contT l a e g z) []).idle g z) ob cb qp me pm.1 ∧ Blk w' g10 #[.int .i64 g, .int .i64 z]) := by
        refine (dropThreads_any (k4.below (Below.drew (Below.refl _ _))) g z hgz hz).mono ?_
        rintro r w' ⟨rfl, hk', hf'⟩
        refine ⟨rfl, ⟨Blk.fr (Blk.drew r4) hf' hrk, ⟨ob', cb', _, hk', fun k hk => f4 k (foot_idle hk)⟩, (fr4.drew).trans (hf'.mono (fun k _ hk => Or.inr (Or.inl hk)))⟩, (E10.drew).fr hf' (by have := HKB.out; omega)⟩
      clear r4 k4 f4 fr4 E9 E10
      go_wp2_with fail
      go_region_held3 (fun Z => Z.cell? ⟨rb, 0, none⟩ = some (.pointer (some ⟨kb, 0, none⟩)) ∧ Z.cell? ⟨g10, 0, none⟩ = some (.int .i64 g) ∧ Z.cell? ⟨g10, 1, none⟩ = some (.int .i64 z))
        (first | exact ⟨by rw [Blk.cell hdone.1.1]; rfl, by rw [hdone.2.cell]; rfl, by rw [hdone.2.cell]; rfl⟩ | exact ⟨y0, y1, y2⟩)
        (first | (go_at_call 64; refine HDT.out.mono ?_; rintro r w5 ⟨rfl, hdone⟩))
      have FIN := hide hdone.1
      clear hdone y0 y1 y2
      go_wp2_with fail
      go_ret2
      exact ⟨rfl, FIN.out⟩
end

end Go.Proofs.Ytloppmepfkkblaa
