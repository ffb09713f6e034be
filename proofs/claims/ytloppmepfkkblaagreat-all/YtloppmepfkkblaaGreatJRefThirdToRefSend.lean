/- What the reference's 'third' does: Sleep, Wake, Drop, Give. -/
import Derived.StillTailTactics
import Derived.Deep.RegionHeld3
import Derived.Deep.AppendLies
import Derived.Deep.RegionHeldLaw
import Derived.OrdersHeld
import Derived.StillTail
import Derived.Test.YtloppmepfkkblaaGreatJRefAskToRefWithin
import Derived.Test.YtloppmepfkkblaaGreatJRefGoneToRefFree
import Derived.Test.YtloppmepfkkblaaGreatJRefCont
import Derived.Test.YtloppmepfkkblaaGreatJRefMayToRefOwn
import Derived.Test.YtloppmepfkkblaaGreatJBaseToTreeKeeps

section
open Go Go.Proofs Go.RowKit
namespace Go.Proofs.YtloppmepfkkblaaGreat

/-- A thread is awake, or asleep. -/
def RSt.wake (r : RSt) (s : Nat) (v : Bool) : RSt := r.put s { r.S s with awake := v }

theorem RK.putAwake {w : World} {b : Nat} {r : RSt} (h : RK w b r) {s : Nat} (hs : s < 32) (v : Bool) : RK (w.setCell ⟨b, s * 10 + 5, none⟩ (.bool v)) b (r.wake s v) := by
  obtain ⟨cs, g1, g2, g3⟩ := RK.cell_set (s * 10 + 5) (.bool v) h
  refine ⟨cs, g1, g2, fun m hm => ?_⟩
  rw [g3 m hm]
  congr 1
  by_cases e : m = s * 10 + 5
  · rw [if_pos e]
    subst e
    rw [cell_thing _ hs (by omega)]
    unfold RSt.wake RSt.put
    dsimp only
    rw [upd_same]
    rfl
  · rw [if_neg e]
    unfold RSt.cell
    by_cases h3 : m < 320
    · rw [if_pos h3, if_pos h3]
      unfold RSt.wake RSt.put
      dsimp only
      by_cases e2 : m / 10 = s
      · have h5 : m % 10 ≠ 5 := by omega
        rw [e2, upd_same]
        unfold Th.cell
        dsimp only
        rw [if_neg h5, if_neg h5]
      · rw [upd_ne _ _ e2]
    · rw [if_neg h3, if_neg h3]
      rfl

theorem wake_wf {r : RSt} (h : r.wf) {s : Nat} (hs : s < 32) (v : Bool) : (r.wake s v).wf := RSt.wf.put h s (h s hs)

/-- What is asked ahead of waking. -/
def wakeF (S : Nat → Th) (O T n s : Nat) (p : Nat × Int) : Nat × Int := kindF S s 2 (chk O T (S s).label (thereF S s (pathF S O T n s p)))
/-- What is asked of a quantum's container. -/
def dropF (S : Nat → Th) (O T n c : Nat) (p : Nat × Int) : Nat × Int := chk O T (S c).label (chk O (S c).label T (pathF S O T n c p))
/-- What is asked ahead of giving. -/
def giveF (S : Nat → Th) (O T n c s : Nat) (p : Nat × Int) : Nat × Int := chk O (S c).label (S s).label (kindF S s 2 (thereF S s (pathF S O T n s (dropF S O T n c p))))

set_option maxHeartbeats 2000000 in
set_option maxRecDepth 100000 in
theorem third_sleep (w : World) (ab b T O me : Nat) (l : Value) (p : Nat × Int) (r : RSt) (h : AK w ab b T O p r) (hs : me < 32) :
    Calls Tryz.prog 43 #[.pointer (some ⟨ab, 0, none⟩), .int .i64 12, .int .i64 me, l] w fun e' w' => e' = .returned (.tuple #[]) ∧
      AK w' ab b T O p (r.wake me false) ∧ Fr (fun k => k = b) w w' := by
  obtain ⟨a0, -⟩ := h.ask.cells
  obtain ⟨-, -, -, -, -, c5, -⟩ := h.rk.things hs
  have hfr := h.rk.frozen (me * 10 + 5)
  have hsi : (me : Int) < 32 := by omega
  have H := hide h
  clear h
  go_enter Tryz.func43, Tryz.ntmps43
  go_wp2_with fail
  go_end0
  exact ⟨rfl, H.out.kturned (Fr.own w b _ _) (H.out.rk.putAwake hs false) (wake_wf H.out.wf hs _), Fr.own w b _ _⟩

set_option maxHeartbeats 2000000 in
set_option maxRecDepth 100000 in
theorem third_wake' (n : Nat) (w : World) (ab b T O me lb lo cap : Nat) (p : Nat × Int) (r : RSt) (s : Nat) (h : AK w ab b T O p r) (hs : s < 32) (hd : deep r.S n s) (ha : Arg w lb lo [(s : Int)]) (hab : lb ≠ ab)
    (q : Nat × Int) (r' : RSt) (hq0 : wakeF r.S O T n s p = q) (hr' : r' = if q.2 = 0 then r.wake s true else r) :
    Calls Tryz.prog 43 #[.pointer (some ⟨ab, 0, none⟩), .int .i64 13, .int .i64 me, .slice (some ⟨lb, lo, none⟩) 1 cap] w fun e' w' => e' = .returned (.tuple #[]) ∧
      AK w' ab b T O q r' ∧ Fr (fun k => k = ab ∨ k = b) w w' := by
  have l0 := ha.c0
  have hsi : (s : Int) < 32 := by omega
  have H := hide h
  have HA := hide ha
  have HD := hide hd
  have HQ0 := hide hq0
  have HR' := hide hr'
  clear h ha hd hq0 hr'
  go_enter Tryz.func43, Tryz.ntmps43
  go_wp2_with fail
  refine (path_any n _ _ _ _ _ _ _ s H.out hs HD.out).mono ?_
  rintro e w1 ⟨rfl, h1, g1⟩
  have m0 := (HA.out.fr g1 hab).c0
  have H1 := hide h1
  have G1 := hide g1
  clear h1 g1 l0
  go_wp2_with fail
  refine (there_any _ _ _ _ _ _ _ _ H1.out hs).mono ?_
  rintro e w2 ⟨rfl, h2, g2⟩
  have m0' := (HA.out.fr (G1.out.trans g2) hab).c0
  obtain ⟨a0, -⟩ := h2.ask.cells
  obtain ⟨-, k1, -⟩ := h2.rk.things hs
  have H2 := hide h2
  have G2 := hide (G1.out.trans g2)
  clear h2 g2 m0 H1 G1
  go_wp2_with fail
  go_still_tail 13, (by kernel_rfl)
  go_wp2_with fail
  refine (write_any _ _ _ _ _ _ _ _ (H2.out.fr ((Fr.refl _ _).drew)) (wf_label H2.out.wf hs)).mono ?_
  rintro e w3 ⟨rfl, h3, g3⟩
  have m0 := (HA.out.fr (G2.out.drew.trans g3) hab).c0
  have H3 := hide h3
  have G3 := hide (G2.out.drew.trans g3)
  clear h3 g3 m0' H2 G2 a0 k1
  go_wp2_with fail
  refine (kind_any _ _ _ _ _ _ _ _ _ H3.out hs).mono ?_
  rintro e w4 ⟨rfl, h4, g4⟩
  have m0' := (HA.out.fr (G3.out.trans g4) hab).c0
  have H4 : Hid (AK w4 ab b T O q r) := by rw [← HQ0.out]; exact h4
  have G4 := hide (G3.out.trans g4)
  obtain ⟨a0, -, -, -, a4, -, -⟩ := H4.out.ask.cells
  obtain ⟨-, -, -, -, -, c5, -⟩ := H4.out.rk.things hs
  have hfr := H4.out.rk.frozen (s * 10 + 5)
  clear h4 g4 m0 H3 G3
  by_cases hq : q.2 = 0
  · rw [hq] at a4
    have HQ := hide hq
    clear hq
    go_wp2_with fail
    go_still_tail 11, (by kernel_rfl)
    go_wp2_with fail
    go_end0
    exact ⟨rfl, by rw [HR'.out, if_pos HQ.out]; exact H4.out.kturned ((Fr.own _ b _ _).drew) (H4.out.rk.putAwake hs true).drew (wake_wf H4.out.wf hs _), (G4.out.mono (fun _ _ h => Or.inl h)).trans (((Fr.own _ b _ _).drew).mono (fun _ _ h => Or.inr h))⟩
  · have hq' : (q.2 == 0) = false := by simpa using hq
    have HQ := hide hq
    clear hq
    go_wp2_with fail
    go_end0
    exact ⟨rfl, by rw [HR'.out, if_neg HQ.out]; exact H4.out, G4.out.mono (fun _ _ h => Or.inl h)⟩

set_option maxHeartbeats 2000000 in
set_option maxRecDepth 100000 in
theorem third_drop' (n : Nat) (w : World) (ab b T O me lb lo cap : Nat) (p : Nat × Int) (r : RSt) (j c : Nat) (h : AK w ab b T O p r) (hj : j < 8) (hc : has r.S j = some c) (hd : deep r.S n c) (ha : Arg w lb lo [(j : Int)]) (hab : lb ≠ ab)
    (q : Nat × Int) (r' : RSt) (hq0 : dropF r.S O T n c p = q) (hr' : r' = if q.2 = 0 then r.turn j 0 0 else r) :
    Calls Tryz.prog 43 #[.pointer (some ⟨ab, 0, none⟩), .int .i64 11, .int .i64 me, .slice (some ⟨lb, lo, none⟩) 1 cap] w fun e' w' => e' = .returned (.tuple #[]) ∧
      AK w' ab b T O q r' ∧ Fr (fun k => k = ab ∨ k = b) w w' := by
  have l0 := ha.c0
  have hc32 := has_lt hc
  have hci : (c : Int) < 32 := by omega
  have hji : (j : Int) < 8 := by omega
  obtain ⟨a0, -⟩ := h.ask.cells
  have H := hide h
  have HA := hide ha
  have HC := hide hc
  have HD := hide hd
  have HQ0 := hide hq0
  have HR' := hide hr'
  clear h ha hd hc hq0 hr'
  go_enter Tryz.func43, Tryz.ntmps43
  go_wp2_with fail
  go_still_tail 7, (by kernel_rfl)
  go_wp2_with fail
  refine (has_any _ _ _ _ H.out.rk.drew H.out.wf).mono ?_
  rintro e w1 ⟨rfl, hb⟩
  rw [HC.out, oi]
  have H1 := hide (H.out.fr (Fr.trans (Fr.drew (Fr.refl _ _)) (Fr.of_below hb)))
  have G1 : Hid (Fr (fun k => k = ab) w w1) := Fr.trans (Fr.drew (Fr.refl _ _)) (Fr.of_below hb)
  clear hb l0 a0
  go_wp2_with fail
  refine (path_any n _ _ _ _ _ _ _ c H1.out hc32 HD.out).mono ?_
  rintro e w2 ⟨rfl, h2, g2⟩
  obtain ⟨a0, -⟩ := h2.ask.cells
  obtain ⟨-, k1, -⟩ := h2.rk.things hc32
  have H2 := hide h2
  have G2 := hide (G1.out.trans g2)
  clear h2 g2 H1 G1
  go_wp2_with fail
  refine (read_any _ _ _ _ _ _ _ _ H2.out (wf_label H2.out.wf hc32)).mono ?_
  rintro e w3 ⟨rfl, h3, g3⟩
  clear a0 k1
  obtain ⟨a0, -⟩ := h3.ask.cells
  obtain ⟨-, k1, -⟩ := h3.rk.things hc32
  have H3 := hide h3
  have G3 := hide (G2.out.trans g3)
  clear h3 g3 H2 G2
  go_wp2_with fail
  refine (write_any _ _ _ _ _ _ _ _ H3.out (wf_label H3.out.wf hc32)).mono ?_
  rintro e w4 ⟨rfl, h4, g4⟩
  clear a0 k1
  have H4 : Hid (AK w4 ab b T O q r) := by rw [← HQ0.out]; exact h4
  have G4 := hide (G3.out.trans g4)
  obtain ⟨a0, -, -, -, a4, -, -⟩ := H4.out.ask.cells
  have m0 := (HA.out.fr G4.out hab).c0
  obtain ⟨t0, t1⟩ := H4.out.rk.turn hj
  have hfr : ∀ i, w4.frozen? ⟨b, i, none⟩ = false := fun i => H4.out.rk.frozen i
  clear h4 g4 H3 G3
  by_cases hq : q.2 = 0
  · rw [hq] at a4
    have HQ := hide hq
    clear hq
    go_wp2_with fail
    go_still_tail 11, (by kernel_rfl)
    go_wp2_with fail
    go_end0
    exact ⟨rfl, by rw [HR'.out, if_pos HQ.out]; exact H4.out.kturned (((Fr.own _ b _ _).trans (Fr.own _ b _ _)).drew) (H4.out.rk.putTurn hj 0 0).drew H4.out.wf, (G4.out.mono (fun _ _ h => Or.inl h)).trans ((((Fr.own _ b _ _).trans (Fr.own _ b _ _)).drew).mono (fun _ _ h => Or.inr h))⟩
  · have hq' : (q.2 != 0) = true := by simpa using hq
    have HQ := hide hq
    clear hq
    go_wp2_with fail
    ((try simp only [Exit.inBlock, Exit.then]); refine bodyPost_ret (results_none rfl _ _ _) rfl ?_)
    exact ⟨rfl, by rw [HR'.out, if_neg HQ.out]; exact H4.out, G4.out.mono (fun _ _ h => Or.inl h)⟩

set_option maxHeartbeats 2000000 in
set_option maxRecDepth 100000 in
theorem third_give' (n : Nat) (w : World) (ab b T O me lb lo cap : Nat) (p : Nat × Int) (r : RSt) (j c s : Nat) (h : AK w ab b T O p r) (hj : j < 8) (hc : has r.S j = some c) (hd : deep r.S n c) (hs : s < 32) (hd2 : deep r.S n s) (ha : Arg w lb lo [(j : Int), (s : Int)]) (hab : lb ≠ ab) (hlb : lb ≠ b)
    (q : Nat × Int) (r' : RSt) (hq0 : giveF r.S O T n c s p = q) (hr' : r' = if q.2 = 0 then r.turn j s (r.S s).id else r) :
    Calls Tryz.prog 43 #[.pointer (some ⟨ab, 0, none⟩), .int .i64 10, .int .i64 me, .slice (some ⟨lb, lo, none⟩) 2 cap] w fun e' w' => e' = .returned (.tuple #[]) ∧
      AK w' ab b T O q r' ∧ Fr (fun k => k = ab ∨ k = b) w w' := by
  have l0 := ha.c0
  have hc32 := has_lt hc
  have hci : (c : Int) < 32 := by omega
  have hji : (j : Int) < 8 := by omega
  obtain ⟨a0, -⟩ := h.ask.cells
  have H := hide h
  have HA := hide ha
  have HC := hide hc
  have HD := hide hd
  have HD2 := hide hd2
  have hsi : (s : Int) < 32 := by omega
  have HQ0 := hide hq0
  have HR' := hide hr'
  clear h ha hd hd2 hc hq0 hr'
  go_enter Tryz.func43, Tryz.ntmps43
  go_wp2_with fail
  go_still_tail 7, (by kernel_rfl)
  go_wp2_with fail
  refine (has_any _ _ _ _ H.out.rk.drew H.out.wf).mono ?_
  rintro e w1 ⟨rfl, hb⟩
  rw [HC.out, oi]
  have H1 := hide (H.out.fr (Fr.trans (Fr.drew (Fr.refl _ _)) (Fr.of_below hb)))
  have G1 : Hid (Fr (fun k => k = ab) w w1) := Fr.trans (Fr.drew (Fr.refl _ _)) (Fr.of_below hb)
  clear hb l0 a0
  go_wp2_with fail
  refine (path_any n _ _ _ _ _ _ _ c H1.out hc32 HD.out).mono ?_
  rintro e w2 ⟨rfl, h2, g2⟩
  obtain ⟨a0, -⟩ := h2.ask.cells
  obtain ⟨-, k1, -⟩ := h2.rk.things hc32
  have H2 := hide h2
  have G2 := hide (G1.out.trans g2)
  clear h2 g2 H1 G1
  go_wp2_with fail
  refine (read_any _ _ _ _ _ _ _ _ H2.out (wf_label H2.out.wf hc32)).mono ?_
  rintro e w3 ⟨rfl, h3, g3⟩
  clear a0 k1
  obtain ⟨a0, -⟩ := h3.ask.cells
  obtain ⟨-, k1, -⟩ := h3.rk.things hc32
  have H3 := hide h3
  have G3 := hide (G2.out.trans g3)
  clear h3 g3 H2 G2
  go_wp2_with fail
  refine (write_any _ _ _ _ _ _ _ _ H3.out (wf_label H3.out.wf hc32)).mono ?_
  rintro e w4 ⟨rfl, h4, g4⟩
  clear a0 k1
  have H4 := hide h4
  have G4 := hide (G3.out.trans g4)
  have m1 := (HA.out.fr G4.out hab).c1
  clear h4 g4 H3 G3
  go_wp2_with fail
  refine (path_any n _ _ _ _ _ _ _ s H4.out hs HD2.out).mono ?_
  rintro e w5 ⟨rfl, h5, g5⟩
  have H5 := hide h5
  have G5 := hide (G4.out.trans g5)
  clear m1 h5 g5 H4 G4
  have m1 := (HA.out.fr G5.out hab).c1
  go_wp2_with fail
  refine (there_any _ _ _ _ _ _ _ _ H5.out hs).mono ?_
  rintro e w6 ⟨rfl, h6, g6⟩
  have H6 := hide h6
  have G6 := hide (G5.out.trans g6)
  clear m1 h6 g6 H5 G5
  have m1 := (HA.out.fr G6.out hab).c1
  go_wp2_with fail
  refine (kind_any _ _ _ _ _ _ _ _ _ H6.out hs).mono ?_
  rintro e w7 ⟨rfl, h7, g7⟩
  have H7 := hide h7
  have G7 := hide (G6.out.trans g7)
  obtain ⟨a0, -⟩ := h7.ask.cells
  obtain ⟨-, k1, -⟩ := h7.rk.things hc32
  obtain ⟨-, k2, -⟩ := h7.rk.things hs
  clear m1 h7 g7 H6 G6
  have m1 := (HA.out.fr G7.out hab).c1
  go_wp2_with fail
  go_still_tail 23, (by kernel_rfl)
  go_wp2_with fail
  refine (check_any _ _ _ _ _ _ _ _ _ (H7.out.fr (by (repeat (first | exact Fr.refl _ _ | refine Fr.drew ?_ | refine Fr.drewN ?_ _ | refine Fr.alloc ?_ _)))) (wf_label H7.out.wf hc32) (wf_label H7.out.wf hs)).mono ?_
  rintro e w8 ⟨rfl, h8, g8⟩
  have H8 : Hid (AK w8 ab b T O q r) := by rw [← HQ0.out]; exact h8
  have G8 := hide (G7.out.drew.trans g8)
  clear m1 h8 g8 H7 G7 a0 k1 k2
  obtain ⟨a0, -, -, -, a4, -, -⟩ := H8.out.ask.cells
  have m0 := (HA.out.fr G8.out hab).c0
  have m1 := (HA.out.fr G8.out hab).c1
  obtain ⟨t0, t1⟩ := H8.out.rk.turn hj
  obtain ⟨-, -, k2, -⟩ := H8.out.rk.things hs
  have hfr : ∀ i, w8.frozen? ⟨b, i, none⟩ = false := fun i => H8.out.rk.frozen i
  have hbw := H8.out.rk.lt
  have hne := H8.out.ne
  by_cases hq : q.2 = 0
  · rw [hq] at a4
    have HQ := hide hq
    clear hq
    go_wp2_with fail
    go_still_tail 11, (by kernel_rfl)
    go_wp2_with fail
    have R9 := hide (H8.out.rk.putTurn hj 0 0)
    have F9 : Hid (Fr (fun k => k = b) w8 _) := ((Fr.own w8 b (320 + j * 2) (.int .i64 0)).trans (Fr.own _ b (320 + j * 2 + 1) (.int .i64 0)))
    generalize hw9 : World.drew _ = w9
    have H9 : Hid (AK w9 ab b T O q (r.turn j 0 0)) := by rw [← hw9]; exact H8.out.kturned F9.out.drew R9.out.drew H8.out.wf
    have G9 : Hid (Fr (fun k => k = ab ∨ k = b) w w9) := by rw [← hw9]; exact (G8.out.mono (fun _ _ h => Or.inl h)).trans (F9.out.drew.mono (fun _ _ h => Or.inr h))
    clear hw9 R9 F9 a0 a4 m0 m1 t0 t1 k2 hfr H8 G8 hbw
    obtain ⟨a0, -⟩ := H9.out.ask.cells
    have hlbN : ¬ (lb = ab ∨ lb = b) := fun h => h.elim hab hlb
    have m0 := (HA.out.fr G9.out hlbN).c0
    have m1 := (HA.out.fr G9.out hlbN).c1
    obtain ⟨t0, t1⟩ := H9.out.rk.turn hj
    obtain ⟨-, -, k2, -⟩ := H9.out.rk.things hs
    have hfr : ∀ i, w9.frozen? ⟨b, i, none⟩ = false := fun i => H9.out.rk.frozen i
    go_wp2_with fail
    go_still_tail 26, (by kernel_rfl)
    go_wp2_with fail
    go_end0
    have E9 : (r.turn j 0 0).turn j s (r.S s).id = r.turn j s (r.S s).id := by
      unfold RSt.turn upd
      dsimp only
      congr 1 <;> (funext i; split <;> rfl)
    have R9 := H9.out.rk.putTurn hj s (r.S s).id
    rw [E9] at R9
    exact ⟨rfl, by rw [HR'.out, if_pos HQ.out]; exact H9.out.kturned (((Fr.own _ b _ _).trans (Fr.own _ b _ _)).drew) R9.drew H9.out.wf, G9.out.trans ((((Fr.own _ b _ _).trans (Fr.own _ b _ _)).drew).mono (fun _ _ h => Or.inr h))⟩
  · have hq' : (q.2 != 0) = true := by simpa using hq
    have HQ := hide hq
    clear hq
    go_wp2_with fail
    ((try simp only [Exit.inBlock, Exit.then]); refine bodyPost_ret (results_none rfl _ _ _) rfl ?_)
    exact ⟨rfl, by rw [HR'.out, if_neg HQ.out]; exact H8.out, G8.out.mono (fun _ _ h => Or.inl h)⟩

end Go.Proofs.YtloppmepfkkblaaGreat
end

section
/- The reference's 'Trap' is the plain kernel's trap: the traps 1 to 13. -/
open Go Go.Proofs Go.RowKit
namespace Go.Proofs.YtloppmepfkkblaaGreat

theorem ite_p {α : Type} {P : α → Prop} {c : Prop} [Decidable c] {a b : α} (h1 : P a) (h2 : P b) : P (if c then a else b) := by
  split <;> assumption

theorem shape_cases (P : List UInt8 → Prop) (h1 : P [115]) (h2 : P [115, 115, 108]) (h3 : P [115, 105]) (h4 : P [115, 105, 118]) (h5 : P [115, 115, 108, 97, 98, 103, 104]) (h6 : P [115, 115, 108, 108]) (h7 : P [113, 115]) (h8 : P [113]) (h9 : P [115, 118]) (h10 : P []) (n : Int) : P (shapeL n) := by
  unfold shapeL
  exact ite_p h1 (ite_p h1 (ite_p h2 (ite_p h3 (ite_p h4 (ite_p h5 (ite_p h1 (ite_p h6 (ite_p h7 (ite_p h8 (ite_p h1 (ite_p h2 (ite_p h9 (ite_p h1 h10)))))))))))))

theorem good_shapes (n : Int) : goodL (shapeL n) := by
  intro k hk h
  rcases Nat.eq_zero_or_pos k with e | e
  · subst e
    exfalso
    have h0 : ¬ ((shapeL n).getD 0 0 = 98 ∨ (shapeL n).getD 0 0 = 104) := shape_cases (fun l => ¬ (l.getD 0 0 = 98 ∨ l.getD 0 0 = 104)) (by decide) (by decide) (by decide) (by decide) (by decide) (by decide) (by decide) (by decide) (by decide) (by decide) n
    exact h0 h
  · exact e

theorem shape_short (n : Int) : (shapeL n).length ≤ 7 :=
  shape_cases (fun l => l.length ≤ 7) (by decide) (by decide) (by decide) (by decide) (by decide) (by decide) (by decide) (by decide) (by decide) (by decide) n

theorem r_may (w : World) (n : Int) (la : Option Addr) (cap : Nat) (xs : List Int) (hl : (shapeL n).length = xs.length) (ha : xs = [] ∨ ∃ lb lo, la = some ⟨lb, lo, none⟩ ∧ Arg w lb lo xs) :
    Calls Tryz.prog 40 #[.string ⟨(shapeL n).toArray⟩, .slice la xs.length cap] w fun e w' => e = .returned (.bool (mayTo (shapeL n) xs xs.length)) ∧ ∃ m, w' = w.drewN m := by
  rcases ha with h | ⟨lb, lo, rfl, ha⟩
  · subst h
    exact (may_nil w _ la cap).mono (fun _ _ ⟨he, hw⟩ => ⟨he, 0, hw⟩)
  · exact may_any w (shapeL n) xs lb lo cap hl (good_shapes n) (by have := shape_short n; omega) ha.lt ha.cell

section
variable {w : World} {b : Nat} {r : RSt} {M : MS}

/-- What stands behind a trap's own part. -/
def RMid (w : World) (b : Nat) (r : RSt) (M' : MS) (w' : World) : Prop :=
  ∃ r', RR w' b r' M' ∧ r'.made ≤ r.made + 1 ∧ ∀ k, RFt b r'.S k → RFt b r.S k ∨ w.heap.size < k

theorem RMid.keep (h : RR w b r M) {M' : MS} {w' w'' : World} (hm : RMid w b r M' w') (f : Fr (fun k => k = w.heap.size) w' w'') : RMid w b r M' w'' := by
  obtain ⟨r', h1, h2, h3⟩ := hm
  refine ⟨r', h1.fr f (fun k hk e => ?_), h2, h3⟩
  rcases h3 k hk with h4 | h4
  · have := h.lt h4; omega
  · omega

theorem RMid.goes {M' : MS} {w' : World} (hm : RMid w b r M' w') (f : Fr (RFt b r.S) w w') : RGoes w b r M' w' := by
  obtain ⟨r', h1, h2, h3⟩ := hm
  exact ⟨r', h1, h2, fun k hk => (h3 k hk).imp id (fun h => by omega), f⟩

/-- Nothing has turned but the trap's own block. -/
theorem RMid.same (h : RR w b r M) {w1 w' : World} (hb : Below w.heap.size w w1) {ab : Nat} (hab : w.heap.size < ab) (f : Fr (fun k => k = ab) w1 w') : RMid w b r M w' :=
  ⟨r, (h.still (Fr.of_below hb)).fr f (fun k hk e => by have := h.lt hk; omega), by omega, fun k hk => Or.inl hk⟩

variable (h : RR w b r M) (hi : MInv M) {me : Nat} (hc : M.cur = some me)
include h hi hc

theorem r_first (n : Int) (h1 : 1 ≤ n) (h6 : n ≤ 6) (la : Option Addr) (cap : Nat) (xs : List Int) (hl : (shapeL n).length = xs.length) (hm : mayTo (shapeL n) xs xs.length = true) (ha : xs = [] ∨ ∃ lb lo, la = some ⟨lb, lo, none⟩ ∧ Arg w lb lo xs)
    (V : Int) (P : Nat × Int) (M' : MS)
    (hin : ∀ w1 ab, AK w1 ab b (r.S me).label (r.S me).owns (0, 0) r → Below w.heap.size w w1 → w.heap.size < ab → Calls Tryz.prog 41 #[.pointer (some ⟨ab, 0, none⟩), .int .i64 n, .int .i64 me, .slice la xs.length cap] w1 fun e w' =>
      ∃ v, e = .returned (.int .i64 v) ∧ (P.2 = 0 → v = V) ∧ AskAt w' ab b (r.S me).label (r.S me).owns P ∧ RMid w b r M' w' ∧ Fr (fun k => k = ab ∨ RFt b r.S k) w1 w') :
    Calls Tryz.prog 30 #[.pointer (some ⟨b, 0, none⟩), .int .i64 n, .slice la xs.length cap] w fun e w' => e = .returned (outV P.2 (if P.2 = 0 then V else 0) P.1) ∧ RGoes w b r M' w' := by
  refine (rtrap_first w b r n la xs.length cap me (RFt b r.S) (fun w' v p => p = P ∧ (P.2 = 0 → v = V) ∧ RMid w b r M' w') h.rk (h.wq hi) (h.wf hi) (by rw [h.cur]; exact hc) h1 h6 (by omega) hl (fun w2 hb => ?_) (fun w1 ab hak hb hab => ?_) (fun hk => by have := h.lt hk; omega) (fun w' w'' v p hR f => ⟨hR.1, hR.2.1, hR.2.2.keep h f⟩)).mono ?_
  · have := r_may w2 n la cap xs hl (ha.imp id (fun ⟨lb, lo, h1, h2⟩ => ⟨lb, lo, h1, h2.below hb h2.lt⟩))
    rw [hm] at this
    exact this
  · refine (hin w1 ab hak hb hab).mono ?_
    rintro e w' ⟨v, rfl, hv, ha', hm', hf⟩
    exact ⟨v, P, rfl, ha', ⟨rfl, hv, hm'⟩, hf⟩
  · rintro e w' ⟨v, p, rfl, ⟨rfl, hv, hm'⟩, hf⟩
    refine ⟨?_, hm'.goes hf⟩
    by_cases h0 : p.2 = 0
    · rw [if_pos h0, if_pos h0, hv h0]
    · rw [if_neg h0, if_neg h0]

theorem r_second (n : Int) (h6 : 7 ≤ n) (h9 : n ≤ 9) (la : Option Addr) (cap : Nat) (xs : List Int) (hl : (shapeL n).length = xs.length) (hm : mayTo (shapeL n) xs xs.length = true) (ha : xs = [] ∨ ∃ lb lo, la = some ⟨lb, lo, none⟩ ∧ Arg w lb lo xs)
    (P : Nat × Int) (M' : MS)
    (hin : ∀ w1 ab, AK w1 ab b (r.S me).label (r.S me).owns (0, 0) r → Below w.heap.size w w1 → w.heap.size < ab → Calls Tryz.prog 42 #[.pointer (some ⟨ab, 0, none⟩), .int .i64 n, .slice la xs.length cap] w1 fun e w' =>
      e = .returned (.tuple #[]) ∧ AskAt w' ab b (r.S me).label (r.S me).owns P ∧ RMid w b r M' w' ∧ Fr (fun k => k = ab ∨ RFt b r.S k) w1 w') :
    Calls Tryz.prog 30 #[.pointer (some ⟨b, 0, none⟩), .int .i64 n, .slice la xs.length cap] w fun e w' => e = .returned (outV P.2 0 P.1) ∧ RGoes w b r M' w' := by
  refine (rtrap_second w b r n la xs.length cap me (RFt b r.S) (fun w' p => p = P ∧ RMid w b r M' w') h.rk (h.wq hi) (h.wf hi) (by rw [h.cur]; exact hc) (by omega) (by omega) h9 (by omega) hl (fun w2 hb => ?_) (fun w1 ab hak hb hab => ?_) (fun hk => by have := h.lt hk; omega) (fun w' w'' p hR f => ⟨hR.1, hR.2.keep h f⟩)).mono ?_
  · have := r_may w2 n la cap xs hl (ha.imp id (fun ⟨lb, lo, h1, h2⟩ => ⟨lb, lo, h1, h2.below hb h2.lt⟩))
    rw [hm] at this
    exact this
  · refine (hin w1 ab hak hb hab).mono ?_
    rintro e w' ⟨rfl, ha', hm', hf⟩
    exact ⟨P, rfl, ha', ⟨rfl, hm'⟩, hf⟩
  · rintro e w' ⟨p, rfl, ⟨rfl, hm'⟩, hf⟩
    exact ⟨rfl, hm'.goes hf⟩

theorem r_third (n : Int) (h6 : 10 ≤ n) (h9 : n ≤ 13) (la : Option Addr) (cap : Nat) (xs : List Int) (hl : (shapeL n).length = xs.length) (hm : mayTo (shapeL n) xs xs.length = true) (ha : xs = [] ∨ ∃ lb lo, la = some ⟨lb, lo, none⟩ ∧ Arg w lb lo xs)
    (P : Nat × Int) (M' : MS)
    (hin : ∀ w1 ab, AK w1 ab b (r.S me).label (r.S me).owns (0, 0) r → Below w.heap.size w w1 → w.heap.size < ab → Calls Tryz.prog 43 #[.pointer (some ⟨ab, 0, none⟩), .int .i64 n, .int .i64 me, .slice la xs.length cap] w1 fun e w' =>
      e = .returned (.tuple #[]) ∧ AskAt w' ab b (r.S me).label (r.S me).owns P ∧ RMid w b r M' w' ∧ Fr (fun k => k = ab ∨ RFt b r.S k) w1 w') :
    Calls Tryz.prog 30 #[.pointer (some ⟨b, 0, none⟩), .int .i64 n, .slice la xs.length cap] w fun e w' => e = .returned (outV P.2 0 P.1) ∧ RGoes w b r M' w' := by
  refine (rtrap_third w b r n la xs.length cap me (RFt b r.S) (fun w' p => p = P ∧ RMid w b r M' w') h.rk (h.wq hi) (h.wf hi) (by rw [h.cur]; exact hc) (by omega) (by omega) h9 (by omega) hl (fun w2 hb => ?_) (fun w1 ab hak hb hab => ?_) (fun hk => by have := h.lt hk; omega) (fun w' w'' p hR f => ⟨hR.1, hR.2.keep h f⟩)).mono ?_
  · have := r_may w2 n la cap xs hl (ha.imp id (fun ⟨lb, lo, h1, h2⟩ => ⟨lb, lo, h1, h2.below hb h2.lt⟩))
    rw [hm] at this
    exact this
  · refine (hin w1 ab hak hb hab).mono ?_
    rintro e w' ⟨rfl, ha', hm', hf⟩
    exact ⟨P, rfl, ha', ⟨rfl, hm'⟩, hf⟩
  · rintro e w' ⟨p, rfl, ⟨rfl, hm'⟩, hf⟩
    exact ⟨rfl, hm'.goes hf⟩

theorem r_fourth (n : Int) (h6 : 14 ≤ n) (h16 : n ≤ 16) (la : Option Addr) (cap : Nat) (xs : List Int) (hl : (shapeL n).length = xs.length) (hm : mayTo (shapeL n) xs xs.length = true) (ha : xs = [] ∨ ∃ lb lo, la = some ⟨lb, lo, none⟩ ∧ Arg w lb lo xs)
    (V : Int) (P : Nat × Int) (M' : MS)
    (hin : ∀ w1 ab, AK w1 ab b (r.S me).label (r.S me).owns (0, 0) r → Below w.heap.size w w1 → w.heap.size < ab → Calls Tryz.prog 44 #[.pointer (some ⟨ab, 0, none⟩), .int .i64 n, .slice la xs.length cap] w1 fun e w' =>
      ∃ v, e = .returned (.int .i64 v) ∧ (P.2 = 0 → v = V) ∧ AskAt w' ab b (r.S me).label (r.S me).owns P ∧ RMid w b r M' w' ∧ Fr (fun k => k = ab ∨ RFt b r.S k) w1 w') :
    Calls Tryz.prog 30 #[.pointer (some ⟨b, 0, none⟩), .int .i64 n, .slice la xs.length cap] w fun e w' => e = .returned (outV P.2 (if P.2 = 0 then V else 0) P.1) ∧ RGoes w b r M' w' := by
  refine (rtrap_fourth w b r n la xs.length cap me (RFt b r.S) (fun w' v p => p = P ∧ (P.2 = 0 → v = V) ∧ RMid w b r M' w') h.rk (h.wq hi) (h.wf hi) (by rw [h.cur]; exact hc) (by omega) (by omega) (by omega) hl (fun w2 hb => ?_) (fun w1 ab hak hb hab => ?_) (fun hk => by have := h.lt hk; omega) (fun w' w'' v p hR f => ⟨hR.1, hR.2.1, hR.2.2.keep h f⟩)).mono ?_
  · have := r_may w2 n la cap xs hl (ha.imp id (fun ⟨lb, lo, h1, h2⟩ => ⟨lb, lo, h1, h2.below hb h2.lt⟩))
    rw [hm] at this
    exact this
  · refine (hin w1 ab hak hb hab).mono ?_
    rintro e w' ⟨v, rfl, hv, ha', hm', hf⟩
    exact ⟨v, P, rfl, ha', ⟨rfl, hv, hm'⟩, hf⟩
  · rintro e w' ⟨v, p, rfl, ⟨rfl, hv, hm'⟩, hf⟩
    refine ⟨?_, hm'.goes hf⟩
    by_cases h0 : p.2 = 0
    · rw [if_pos h0, if_pos h0, hv h0]
    · rw [if_neg h0, if_neg h0]

end

end Go.Proofs.YtloppmepfkkblaaGreat
end

section
/- What the reference's 'fourth' does: NewPort, Send, Receive. -/
open Go Go.Proofs Go.RowKit
namespace Go.Proofs.YtloppmepfkkblaaGreat

theorem port_wf {l : Nat} (hl : l < 256) : Th.wf ⟨4, l, 0, none, 0, 0, 0, false, 0, 0, 0, 0⟩ := by
  refine ⟨?_, ?_, ?_, ?_, hl, ?_⟩ <;> simp

set_option maxHeartbeats 2000000 in
set_option maxRecDepth 100000 in
theorem fourth_port (n : Nat) (w : World) (ab b T O lb lo cap : Nat) (p : Nat × Int) (r : RSt) (c s l : Nat) (h : AK w ab b T O p r) (hc : c < 32) (hs : s < 32) (hl : l < 256) (hd : deep r.S n c) (ha : Arg w lb lo [(c : Int), (s : Int), (l : Int)]) (hab : lb ≠ ab) (hm : 0 ≤ r.made) (hm2 : r.made < 4611686018427387904) :
    Calls Tryz.prog 44 #[.pointer (some ⟨ab, 0, none⟩), .int .i64 14, .slice (some ⟨lb, lo, none⟩) 3 cap] w fun e' w' => e' = .returned (.int .i64 0) ∧
      AK w' ab b T O (makingF r.S O T n c s l p) (r.putIf (makingF r.S O T n c s l p) s ⟨4, l, 0, none, 0, 0, 0, false, 0, 0, 0, 0⟩) ∧ Fr (fun k => k = ab ∨ k = b) w w' := by
  have l0 := ha.c0
  have l1 := ha.c1
  have l2 := ha.c2
  have H := hide h
  have HA := hide ha
  have HD := hide hd
  have HL := hide hl
  clear h ha hd
  go_enter Tryz.func44, Tryz.ntmps44
  go_wp2_with fail
  go_still_tail 10, (by kernel_rfl)
  go_wp2_with fail
  refine (making_any _ _ _ _ _ _ _ n _ _ _ (H.out.fr ((Fr.refl _ _).drew)) hc hs hl HD.out).mono ?_
  rintro e w1 ⟨rfl, h1, g1⟩
  have H1 := hide h1
  have G1 : Hid (Fr (fun k => k = ab) w w1) := ((Fr.refl _ _).drew).trans g1
  have m1 := (HA.out.fr G1.out hab).c1
  have m2 := (HA.out.fr G1.out hab).c2
  clear h1 g1 l0 l1 l2
  go_wp2_with fail
  go_still_tail 8, (by kernel_rfl)
  go_wp2_with fail
  refine (put_if _ ab b T O (makingF r.S O T n c s l p) r s ⟨4, l, 0, none, 0, 0, 0, false, 0, 0, 0, 0⟩ (H1.out.fr (by (repeat (first | exact Fr.refl _ _ | refine Fr.drew ?_ | refine Fr.drewN ?_ _ | refine Fr.alloc ?_ _)))) hs (port_wf HL.out) hm hm2).mono ?_
  rintro e w3 ⟨rfl, h3, g3⟩
  go_wp2_with fail
  go_ret
  exact ⟨rfl, h3, ((G1.out.mono (fun _ _ h => Or.inl h)).drew).trans (g3.mono (fun _ _ h => Or.inr h))⟩

/-- What is asked ahead of sending: but for room. -/
def sendF (S : Nat → Th) (O T n s : Nat) (p : Nat × Int) : Nat × Int := kindF S s 4 (chk O T (S s).label (thereF S s (pathF S O T n s p)))
/-- .. and for room. -/
def fullF (S : Nat → Th) (O T n s : Nat) (p : Nat × Int) : Nat × Int := if 4 ≤ (S s).Wn ∧ sub (S s).label T = true then failed 8 (sendF S O T n s p) else sendF S O T n s p
/-- What is asked ahead of receiving. -/
def recvF (S : Nat → Th) (O T n s : Nat) (p : Nat × Int) : Nat × Int :=
  (fun p => if (S s).Wn = 0 then failed 9 p else p) (kindF S s 4 (chk O T (S s).label (chk O (S s).label T (thereF S s (pathF S O T n s p)))))

/-- The cells of a thing that was copied. -/
def Th.cells (t : Th) : Array Value := #[.int .i64 t.kind, .int .i64 t.label, .int .i64 t.id, .slice t.Wa t.Wn t.Wc, .int .i64 t.owns, .bool t.awake, .int .i64 t.A, .int .i64 t.B, .int .i64 t.G, .int .i64 t.H]

/-- A thing's words stand elsewhere now. -/
def RSt.words (r : RSt) (s : Nat) (a : Option Addr) (n c : Nat) : RSt := r.put s { r.S s with Wa := a, Wn := n, Wc := c }

theorem RK.putW {w : World} {b : Nat} {r : RSt} (h : RK w b r) {s : Nat} (hs : s < 32) (a : Option Addr) (n c : Nat) : RK (w.setCell ⟨b, s * 10 + 3, none⟩ (.slice a n c)) b (r.words s a n c) := by
  obtain ⟨cs, g1, g2, g3⟩ := RK.cell_set (s * 10 + 3) (.slice a n c) h
  refine ⟨cs, g1, g2, fun m hm => ?_⟩
  rw [g3 m hm]
  congr 1
  by_cases e : m = s * 10 + 3
  · rw [if_pos e]
    subst e
    rw [cell_thing _ hs (by omega)]
    unfold RSt.words RSt.put
    dsimp only
    rw [upd_same]
    rfl
  · rw [if_neg e]
    unfold RSt.cell
    by_cases h3 : m < 320
    · rw [if_pos h3, if_pos h3]
      unfold RSt.words RSt.put
      dsimp only
      by_cases e2 : m / 10 = s
      · have h5 : m % 10 ≠ 3 := by omega
        rw [e2, upd_same]
        unfold Th.cell
        dsimp only
        rw [if_neg h5, if_neg h5]
      · rw [upd_ne _ _ e2]
    · rw [if_neg h3, if_neg h3]
      rfl

theorem words_wf {r : RSt} (h : r.wf) {s : Nat} (hs : s < 32) (a : Option Addr) (n c : Nat) : (r.words s a n c).wf := RSt.wf.put h s (h s hs)

set_option maxHeartbeats 2000000 in
set_option maxRecDepth 100000 in
theorem fourth_send_no (n : Nat) (w : World) (ab b T O lb lo cap : Nat) (p : Nat × Int) (r : RSt) (s : Nat) (v : Int) (h : AK w ab b T O p r) (hs : s < 32) (hd : deep r.S n s) (ha : Arg w lb lo [(s : Int), v])
    (q : Nat × Int) (hq0 : fullF r.S O T n s p = q) (hno : q.2 ≠ 0 ∨ 4 ≤ (r.S s).Wn) :
    Calls Tryz.prog 44 #[.pointer (some ⟨ab, 0, none⟩), .int .i64 15, .slice (some ⟨lb, lo, none⟩) 2 cap] w fun e' w' => e' = .returned (.int .i64 0) ∧
      AK w' ab b T O q r ∧ Fr (fun k => k = ab) w w' := by
  have l0 := ha.c0
  have hsi : (s : Int) < 32 := by omega
  obtain ⟨a0, -⟩ := h.ask.cells
  obtain ⟨c0, c1, c2, c3, c4, c5, c6, c7, c8, c9⟩ := h.rk.things hs
  have habw : ab < w.heap.size := Blk.lt h.ask
  have hne : ¬ w.heap.size = ab := by omega
  have hTl := wf_label h.wf hs
  have H := hide h
  have HA := hide ha
  have HD := hide hd
  have HQ0 := hide hq0
  have HNO := hide hno
  have HTL := hide hTl
  clear h ha hd hq0 hno hTl
  go_enter Tryz.func44, Tryz.ntmps44
  go_wp2_with fail
  have B0 : Hid (Blk (w.alloc (.cells #[.int .i64 (r.S s).kind, .int .i64 (r.S s).label, .int .i64 (r.S s).id, .slice (r.S s).Wa (r.S s).Wn (r.S s).Wc, .int .i64 (r.S s).owns, .bool (r.S s).awake, .int .i64 (r.S s).A, .int .i64 (r.S s).B, .int .i64 (r.S s).G, .int .i64 (r.S s).H] 71)) w.heap.size (r.S s).cells) := Blk.new w _ _
  refine (path_any n _ _ _ _ _ _ _ s (H.out.fr ((Fr.refl _ _).alloc _)) hs HD.out).mono ?_
  rintro e w1 ⟨rfl, h1, g1⟩
  have H1 := hide h1
  have B1 := hide (Blk.fr B0.out g1 hne)
  have G1 : Hid (Fr (fun k => k = ab) w w1) := ((Fr.refl _ _).alloc _).trans g1
  clear h1 g1 l0 a0 c0 c1 c2 c3 c4 c5 c6 c7 c8 c9 B0
  go_wp2_with fail
  refine (there_any _ _ _ _ _ _ _ _ H1.out hs).mono ?_
  rintro e w2 ⟨rfl, h2, g2⟩
  have H2 := hide h2
  have B2 := hide (Blk.fr B1.out g2 hne)
  have G2 := hide (G1.out.trans g2)
  clear h2 g2 H1 G1 B1
  have x1 : w2.cell? ⟨w.heap.size, 1, none⟩ = some (.int .i64 (r.S s).label) := by rw [Blk.cell B2.out]; rfl
  go_wp2_with fail
  refine (write_any _ _ _ _ _ _ _ _ H2.out HTL.out).mono ?_
  rintro e w3 ⟨rfl, h3, g3⟩
  have H3 := hide h3
  have B3 := hide (Blk.fr B2.out g3 hne)
  have G3 := hide (G2.out.trans g3)
  clear h3 g3 H2 G2 B2 x1
  go_wp2_with fail
  refine (kind_any _ _ _ _ _ _ _ _ _ H3.out hs).mono ?_
  rintro e w4 ⟨rfl, h4, g4⟩
  have H4 : Hid (AK w4 ab b T O (sendF r.S O T n s p) r) := h4
  have B4 := hide (Blk.fr B3.out g4 hne)
  have G4 := hide (G3.out.trans g4)
  clear h4 g4 H3 G3 B3
  have x1 : w4.cell? ⟨w.heap.size, 1, none⟩ = some (.int .i64 (r.S s).label) := by rw [Blk.cell B4.out]; rfl
  have x3 : w4.cell? ⟨w.heap.size, 3, none⟩ = some (.slice (r.S s).Wa (r.S s).Wn (r.S s).Wc) := by rw [Blk.cell B4.out]; rfl
  obtain ⟨-, a1, -⟩ := H4.out.ask.cells
  go_wp2_with fail
  go_still_tail 6, (by kernel_rfl)
  go_wp2_with fail
  refine (in_any _ _ _ HTL.out H4.out.hT).mono ?_
  rintro e w5 ⟨rfl, hw5⟩
  have H5 : Hid (AK w5 ab b T O (sendF r.S O T n s p) r) := by rw [hw5]; exact H4.out.fr (by (repeat (first | exact Fr.refl _ _ | refine Fr.drew ?_ | refine Fr.drewN ?_ _ | refine Fr.alloc ?_ _)))
  have G5 : Hid (Fr (fun k => k = ab) w w5) := by rw [hw5]; exact G4.out.drew
  clear hw5 H4 G4 B4 x1 x3 a1
  by_cases hf : 4 ≤ (r.S s).Wn
  · by_cases hh : sub (r.S s).label T = true
    · have EQ : Hid (q = failed 8 (sendF r.S O T n s p)) := by rw [← HQ0.out]; exact if_pos ⟨hf, hh⟩
      rw [hh]
      go_wp2_with fail
      refine (fail_any _ _ _ _ _ _ _ 8 H5.out (by omega)).mono ?_
      rintro e w6 ⟨rfl, h6, g6⟩
      have H6 : Hid (AK w6 ab b T O q r) := by rw [EQ.out]; exact h6
      have G6 := hide (G5.out.trans g6)
      obtain ⟨-, -, -, -, a4, -, -⟩ := H6.out.ask.cells
      have hq1 : (q.2 == 0) = false ∨ (q.2 == 0) = true := by cases (q.2 == 0) <;> simp
      clear h6 g6 H5 G5
      go_wp2_with fail
      all_goals (go_ret; exact ⟨rfl, H6.out, G6.out⟩)
    · have EQ : Hid (q = sendF r.S O T n s p) := by rw [← HQ0.out]; exact if_neg (fun h => hh h.2)
      have hh' : sub (r.S s).label T = false := by simpa using hh
      rw [hh']
      have H6 : Hid (AK w5 ab b T O q r) := by rw [EQ.out]; exact H5.out
      obtain ⟨-, -, -, -, a4, -, -⟩ := H6.out.ask.cells
      have hq1 : (q.2 == 0) = false ∨ (q.2 == 0) = true := by cases (q.2 == 0) <;> simp
      clear H5
      go_wp2_with fail
      all_goals (go_ret; exact ⟨rfl, H6.out, G5.out⟩)
  · have EQ : Hid (q = sendF r.S O T n s p) := by rw [← HQ0.out]; exact if_neg (fun h => hf h.1)
    have hq : (q.2 == 0) = false := by
      rcases HNO.out with h | h
      · simpa using h
      · exact absurd h hf
    have H6 : Hid (AK w5 ab b T O q r) := by rw [EQ.out]; exact H5.out
    obtain ⟨-, -, -, -, a4, -, -⟩ := H6.out.ask.cells
    clear H5
    generalize sub (r.S s).label T = y
    go_wp2_with fail
    all_goals (go_ret; exact ⟨rfl, H6.out, G5.out⟩)

end Go.Proofs.YtloppmepfkkblaaGreat
end

section
/- A region that draws its order: what only reads may be taken first under a condition on the world; behind the last operations, which wait for all, the condition is not asked. -/
open Go
namespace Go.Proofs.YtloppmepfkkblaaGreat

section
variable {P : Program} {ops : Array Oper} {Q : Exit → Act → World → Prop} {md : Region.Mode} {S : World → Prop} {n : Nat}

/-- Whatever order is picked from here on; S holds behind every operation ahead of number n. -/
def wpAnyT (P : Program) (md : Region.Mode) (ops : Array Oper) (Q : Exit → Act → World → Prop) (S : World → Prop) (n : Nat) : Nat → Array Bool → Act → World → Prop
  | 0, listed, a, w => Region.ready md ops listed = [] ∧ Q .normal a w
  | fuel + 1, listed, a, w =>
    (Region.ready md ops listed = [] → Q .normal a w) ∧
    ∀ i ∈ Region.ready md ops listed, wpOp P ops Q i (fun a' w' => (i < n → S w') ∧ wpAnyT P md ops Q S n fuel (listed.setIfInBounds i true) a' w') a w

theorem wpAny_of_tail : ∀ (fuel : Nat) (listed : Array Bool) (a : Act) (w : World), wpAnyT P md ops Q S n fuel listed a w → wpAny P md ops Q fuel listed a w
  | 0, _, _, _, h => h
  | fuel + 1, _, _, _, h => ⟨h.1, fun i hi => wpOp_mono (fun a' w' h' => wpAny_of_tail fuel _ a' w' h'.2) (h.2 i hi)⟩

theorem wpAnyT_first {i : Nat} {oi : Oper} {v : Value} (hi : ops[i]? = some oi) (hsel : ∀ (j : Nat) (o : Oper) cs b, ops[j]? = some o → o.op ≠ .select cs b)
    (hQ : ∀ c a w, Q (.panic c) (a.put oi.dst v) w → Q (.panic c) a w) (hs : Region.sinkB md ops n = true) (hc : Region.chainB md ops n = true) (hn : n < ops.size) (hin : i < n) :
    ∀ (fuel : Nat) (listed : Array Bool) (a : Act) (w : World), HeadInv md ops n listed →
      (∀ j oj, ops[j]? = some oj → j ≠ i → listed.getD j true = false → (∀ e ∈ oj.after, Region.binds md e = true → e.on ≠ i) → oi.apart ops oj = true) →
      i ∈ Region.ready md ops listed → YieldsIf P ops S oi v a → S w →
      wpAnyT P md ops Q S n fuel (listed.setIfInBounds i true) (a.put oi.dst v) w → wpAnyT P md ops Q S n (fuel + 1) listed a w := by
  intro fuel
  induction fuel with
  | zero =>
    intro listed a w _ _ hr hy hS H
    refine ⟨fun h => (by rw [h] at hr; cases hr), fun j hj => ?_⟩
    by_cases hji : j = i
    · subst hji; exact hy.wpOp hi hS ⟨fun _ => hS, H⟩
    · have := ready_mono hj hji
      rw [H.1] at this
      cases this
  | succ fuel ih =>
    intro listed a w inv hfree hr hy hS H
    have hun := (mem_ready.1 hr).1
    refine ⟨fun h => (by rw [h] at hr; cases hr), fun j hj => ?_⟩
    by_cases hji : j = i
    · subst hji; exact hy.wpOp hi hS ⟨fun _ => hS, H⟩
    · have hjn : j < n := by
        rcases Nat.lt_or_ge j n with h | h
        · exact h
        · exact absurd hj (tail_waits hs hc hn inv _ i rfl hin hun j h)
      have h1 := H.2 j (ready_mono hj hji)
      obtain ⟨hjun, oj, hoj, hall⟩ := mem_ready.1 hj
      have hnot : ∀ e ∈ oj.after, Region.binds md e = true → e.on ≠ i := fun e he hb heq => by
        have h1 := hall e he hb
        rw [heq, getD_both hun] at h1
        cases h1
      have h2 := wpOp_putIf hoj (hfree j oj hoj hji hjun hnot) (fun cs b => hsel i oi cs b hi) (fun cs b => hsel j oj cs b hoj) hQ hy h1
      have hfree' : ∀ k ok, ops[k]? = some ok → k ≠ i → (listed.setIfInBounds j true).getD k true = false →
          (∀ e ∈ ok.after, Region.binds md e = true → e.on ≠ i) → oi.apart ops ok = true := fun k ok hk hki hun hno => by
        refine hfree k ok hk hki ?_ hno
        by_cases hjk : j = k
        · subst hjk; exact hjun
        · rw [getD_set_ne true hjk] at hun; exact hun
      refine wpOp_mono (fun a' w' h3 => ⟨h3.2.1, ih (listed.setIfInBounds j true) a' w' (inv.set hj hjn) hfree' (ready_mono hr (Ne.symm hji)) h3.1 (h3.2.1 hjn) ?_⟩) h2
      rw [Array.setIfInBounds_comm _ _ hji]
      exact h3.2.2

/-- The operations of a plan, one behind the other, each yielding its value under S. -/
def wpPlan (P : Program) (ops : Array Oper) (S : World → Prop) (K : Act → Prop) : List Nat → Act → Prop
  | [], a => K a
  | i :: l, a => match ops[i]? with
    | none => False
    | some o => ∃ v, YieldsIf P ops S o v a ∧ wpPlan P ops S K l (a.put o.dst v)

theorem wpPlan_cons {K : Act → Prop} {i : Nat} {l : List Nat} {a : Act} {o : Oper} {v : Value} (ho : ops[i]? = some o) (hg : o.guard = none) (hy : ∀ w, S w → (execOp a.eval o).run P w = .ok (.value v) w) (h : wpPlan P ops S K l (a.put o.dst v)) : wpPlan P ops S K (i :: l) a := by
  unfold wpPlan
  rw [ho]
  exact ⟨v, Or.inl ⟨by simp [Region.wanted, hg], hy⟩, h⟩
theorem wpPlan_nil {K : Act → Prop} {a : Act} (h : K a) : wpPlan P ops S K [] a := h

/-- May the plan be? -/
def planB (md : Region.Mode) (ops : Array Oper) (n : Nat) : List Nat → Array Bool → Bool
  | [], _ => true
  | i :: l, listed => decide (i < n) && (Region.ready md ops listed).contains i && Region.free md ops listed i && planB md ops n l (listed.setIfInBounds i true)

def planned : List Nat → Array Bool → Array Bool
  | [], listed => listed
  | i :: l, listed => planned l (listed.setIfInBounds i true)

theorem wpAnyT_plan (hsel : Region.noSelect ops = true) (hQ : ∀ c (a : Act) d v w, Q (.panic c) (a.put d v) w → Q (.panic c) a w) (hs : Region.sinkB md ops n = true) (hc : Region.chainB md ops n = true) (hn : n < ops.size) :
    ∀ (l : List Nat) (fuel : Nat) (listed : Array Bool) (a : Act) (w : World), HeadInv md ops n listed → planB md ops n l listed = true → S w →
      wpPlan P ops S (fun a' => wpAnyT P md ops Q S n fuel (planned l listed) a' w) l a → wpAnyT P md ops Q S n (l.length + fuel) listed a w
  | [], fuel, listed, a, w, _, _, _, h => by rw [List.length_nil, Nat.zero_add]; exact h
  | i :: l, fuel, listed, a, w, inv, hB, hS, h => by
    simp only [planB, Bool.and_eq_true, decide_eq_true_eq] at hB
    obtain ⟨⟨⟨hin, hr⟩, hf⟩, hB'⟩ := hB
    unfold wpPlan at h
    cases ho : ops[i]? with
    | none => rw [ho] at h; exact h.elim
    | some o =>
      rw [ho] at h
      obtain ⟨v, hy, h⟩ := h
      have hr' : i ∈ Region.ready md ops listed := by simpa using hr
      rw [List.length_cons, show l.length + 1 + fuel = (l.length + fuel) + 1 by omega]
      exact wpAnyT_first ho (Region.noSelect_spec hsel) (fun c a w => hQ c a o.dst v w) hs hc hn hin (l.length + fuel) listed a w inv (Region.free_spec ho hf) hr' hy hS (wpAnyT_plan hsel hQ hs hc hn l fuel _ _ w (inv.set hr' hin) hB' hS h)

/-- The one that may come up now. -/
theorem wpAnyT_one {i : Nat} {o : Oper} {fuel : Nat} {listed : Array Bool} {a : Act} {w : World} (hr : Region.ready md ops listed = [i]) (ho : ops[i]? = some o) (hg : o.guard = none)
    (h : ∀ K : Act → World → Prop, (∀ a' w', (i < n → S w') → wpAnyT P md ops Q S n fuel (listed.setIfInBounds i true) a' w' → K a' w') → Oper.wp P o a w K Q) : wpAnyT P md ops Q S n (fuel + 1) listed a w := by
  refine ⟨fun h0 => (by rw [hr] at h0; cases h0), fun j hj => ?_⟩
  rw [hr] at hj
  have hji : j = i := by simpa using hj
  subst hji
  have hw : Region.wanted o (yielded ops a.tmps) = true := by simp [Region.wanted, hg]
  unfold wpOp
  simp only [ho, hw, if_true]
  exact Or.inl (h _ (fun a' w' h1 h2 => ⟨h1, h2⟩))

theorem wpAnyT_done {listed : Array Bool} {a : Act} {w : World} (hr : Region.ready md ops listed = []) (h : Q .normal a w) : wpAnyT P md ops Q S n 0 listed a w := ⟨hr, h⟩

def planAll (ops : Array Oper) (n : Nat) (l : List Nat) : Bool :=
  Region.noSelect ops && decide (n < ops.size) && Region.sinkB .any ops n && Region.chainB .any ops n && planB .any ops n l (Array.replicate ops.size false) && decide (l.length ≤ ops.size)

theorem wp_region_plan {id : Nat} {a : Act} {w : World} (S : World → Prop) (n : Nat) (l : List Nat) (hm : P.follows .mixedOrders = true) (hB : planAll ops n l = true) (hQ : ∀ c (a : Act) d v w, Q (.panic c) (a.put d v) w → Q (.panic c) a w) (hS : S w.drew)
    (h : wpPlan P ops S (fun a' => wpAnyT P .any ops Q S n (ops.size - l.length) (planned l (Array.replicate ops.size false)) a' w.drew) l a) : (Code.region id ops true).wp P Q a w := by
  simp only [planAll, Bool.and_eq_true, decide_eq_true_eq] at hB
  obtain ⟨⟨⟨⟨⟨hsel, hn⟩, hs⟩, hc⟩, hp⟩, hl⟩ := hB
  refine wp_region_any hm (wpAny_of_tail (S := S) (n := n) _ _ _ _ ?_)
  have inv0 : HeadInv .any ops n (Array.replicate ops.size false) :=
    ⟨by simp, fun j oj _ hl => (by rw [getD_replicate_false] at hl; cases hl), fun t _ ht => getD_in (by simpa using ht) (getD_replicate_false _ _)⟩
  have H := wpAnyT_plan (P := P) (Q := Q) hsel hQ hs hc hn l (ops.size - l.length) _ a w.drew inv0 hp hS h
  rw [show l.length + (ops.size - l.length) = ops.size by omega] at H
  exact H

/-- A plan, by its operations. -/
def wpPlanL (P : Program) (ops : Array Oper) (S : World → Prop) (K : Act → Prop) : List Oper → Act → Prop
  | [], a => K a
  | o :: l, a => ∃ v, YieldsIf P ops S o v a ∧ wpPlanL P ops S K l (a.put o.dst v)

theorem wpPlanL_cons {K : Act → Prop} {l : List Oper} {a : Act} {o : Oper} {v : Value} (hg : o.guard = none) (hy : ∀ w, S w → (execOp a.eval o).run P w = .ok (.value v) w) (h : wpPlanL P ops S K l (a.put o.dst v)) : wpPlanL P ops S K (o :: l) a :=
  ⟨v, Or.inl ⟨by simp [Region.wanted, hg], hy⟩, h⟩
theorem wpPlanL_nil {K : Act → Prop} {a : Act} (h : K a) : wpPlanL P ops S K [] a := h

theorem wpPlan_of_ops {K : Act → Prop} : ∀ (pl : List Nat) (lo : List Oper) (a : Act), pl.map (fun i => ops[i]?) = lo.map some → wpPlanL P ops S K lo a → wpPlan P ops S K pl a
  | [], [], _, _, h => h
  | [], _ :: _, _, he, _ => by cases he
  | _ :: _, [], _, he, _ => by cases he
  | i :: pl, o :: lo, a, he, h => by
    simp only [List.map_cons, List.cons.injEq] at he
    obtain ⟨v, hy, h⟩ := h
    unfold wpPlan
    rw [he.1]
    exact ⟨v, hy, wpPlan_of_ops pl lo _ he.2 h⟩

/-- The first m operations, then c from number b on, are taken first. -/
theorem wp_region_plan2 {id : Nat} {a : Act} {w : World} {l : List Oper} (S : World → Prop) (n m b c : Nat) (hm : P.follows .mixedOrders = true) (hB : planAll l.toArray n (List.range m ++ List.range' b c) = true)
    (hE : (List.range m ++ List.range' b c).map (fun i => l.toArray[i]?) = (l.take m ++ (l.drop b).take c).map some) (hQ : ∀ c (a : Act) d v w, Q (.panic c) (a.put d v) w → Q (.panic c) a w) (hS : S w.drew)
    (h : wpPlanL P l.toArray S (fun a' => wpAnyT P .any l.toArray Q S n (l.toArray.size - (List.range m ++ List.range' b c).length) (planned (List.range m ++ List.range' b c) (Array.replicate l.toArray.size false)) a' w.drew) (l.take m ++ (l.drop b).take c) a) : (Code.region id l.toArray true).wp P Q a w :=
  wp_region_plan S n _ hm hB hQ hS (wpPlan_of_ops _ _ _ hE h)
end

end Go.Proofs.YtloppmepfkkblaaGreat
end

section
/- What the reference's 'fourth' does: Send, where there is room. -/
open Go Go.Proofs Go.RowKit
namespace Go.Proofs.YtloppmepfkkblaaGreat

set_option maxHeartbeats 2000000 in
set_option maxRecDepth 100000 in
theorem fourth_send (n : Nat) (w : World) (ab b T O lb lo cap : Nat) (p : Nat × Int) (r : RSt) (s : Nat) (v : Int) (h : AK w ab b T O p r) (hs : s < 32) (hd : deep r.S n s) (ha : Arg w lb lo [(s : Int), v]) (hab : lb ≠ ab)
    (q : Nat × Int) (hq0 : fullF r.S O T n s p = q) (hq : q.2 = 0) (hfull : (r.S s).Wn < 4) (xs : List Int) (hown : Own w (r.S s) xs) (hoff : ∀ g, (r.S s).wb g → g ≠ ab ∧ g ≠ b ∧ g ≠ lb) :
    Calls Tryz.prog 44 #[.pointer (some ⟨ab, 0, none⟩), .int .i64 15, .slice (some ⟨lb, lo, none⟩) 2 cap] w fun e' w' => e' = .returned (.int .i64 0) ∧
      ∃ t, t = { r.S s with Wa := t.Wa, Wn := t.Wn, Wc := t.Wc } ∧ t.Wn = (r.S s).Wn + 1 ∧ Own w' t (xs ++ [v]) ∧ (∀ g, t.wb g → (r.S s).wb g ∨ w.heap.size ≤ g) ∧ AK w' ab b T O q (r.put s t) ∧ Fr (fun k => k = ab ∨ k = b ∨ (r.S s).wb k) w w' := by
  have l0 := ha.c0
  have hsi : (s : Int) < 32 := by omega
  obtain ⟨a0, -⟩ := h.ask.cells
  obtain ⟨c0, c1, c2, c3, c4, c5, c6, c7, c8, c9⟩ := h.rk.things hs
  have habw : ab < w.heap.size := Blk.lt h.ask
  have hne : ¬ w.heap.size = ab := by omega
  have hTl := wf_label h.wf hs
  have H := hide h
  have HA := hide ha
  have HD := hide hd
  have HQ0 := hide hq0
  have HQ := hide hq
  have HOWN := hide hown
  have HOFF := hide hoff
  have HTL := hide hTl
  clear h ha hd hq0 hq hown hoff hTl
  go_enter Tryz.func44, Tryz.ntmps44
  go_wp2_with fail
  have B0 : Hid (Blk (w.alloc (.cells #[.int .i64 (r.S s).kind, .int .i64 (r.S s).label, .int .i64 (r.S s).id, .slice (r.S s).Wa (r.S s).Wn (r.S s).Wc, .int .i64 (r.S s).owns, .bool (r.S s).awake, .int .i64 (r.S s).A, .int .i64 (r.S s).B, .int .i64 (r.S s).G, .int .i64 (r.S s).H] 71)) w.heap.size (r.S s).cells) := Blk.new w _ _
  refine (path_any n _ _ _ _ _ _ _ s (H.out.fr ((Fr.refl _ _).alloc _)) hs HD.out).mono ?_
  rintro e w1 ⟨rfl, h1, g1⟩
  have H1 := hide h1
  have B1 := hide (Blk.fr B0.out g1 hne)
  have G1 : Hid (Fr (fun k => k = ab) w w1) := ((Fr.refl _ _).alloc _).trans g1
  clear h1 g1 l0 a0 c0 c1 c2 c3 c4 c5 c6 c7 c8 c9 B0
  go_wp2_with fail
  refine (there_any _ _ _ _ _ _ _ _ H1.out hs).mono ?_
  rintro e w2 ⟨rfl, h2, g2⟩
  have H2 := hide h2
  have B2 := hide (Blk.fr B1.out g2 hne)
  have G2 := hide (G1.out.trans g2)
  clear h2 g2 H1 G1 B1
  have x1 : w2.cell? ⟨w.heap.size, 1, none⟩ = some (.int .i64 (r.S s).label) := by rw [Blk.cell B2.out]; rfl
  go_wp2_with fail
  refine (write_any _ _ _ _ _ _ _ _ H2.out HTL.out).mono ?_
  rintro e w3 ⟨rfl, h3, g3⟩
  have H3 := hide h3
  have B3 := hide (Blk.fr B2.out g3 hne)
  have G3 := hide (G2.out.trans g3)
  clear h3 g3 H2 G2 B2 x1
  go_wp2_with fail
  refine (kind_any _ _ _ _ _ _ _ _ _ H3.out hs).mono ?_
  rintro e w4 ⟨rfl, h4, g4⟩
  have H4 : Hid (AK w4 ab b T O (sendF r.S O T n s p) r) := h4
  have B4 := hide (Blk.fr B3.out g4 hne)
  have G4 := hide (G3.out.trans g4)
  clear h4 g4 H3 G3 B3
  have x1 : w4.cell? ⟨w.heap.size, 1, none⟩ = some (.int .i64 (r.S s).label) := by rw [Blk.cell B4.out]; rfl
  have x3 : w4.cell? ⟨w.heap.size, 3, none⟩ = some (.slice (r.S s).Wa (r.S s).Wn (r.S s).Wc) := by rw [Blk.cell B4.out]; rfl
  obtain ⟨-, a1, -⟩ := H4.out.ask.cells
  go_wp2_with fail
  go_still_tail 6, (by kernel_rfl)
  go_wp2_with fail
  refine (in_any _ _ _ HTL.out H4.out.hT).mono ?_
  rintro e w5 ⟨rfl, hw5⟩
  have H5 : Hid (AK w5 ab b T O (sendF r.S O T n s p) r) := by rw [hw5]; exact H4.out.fr (by (repeat (first | exact Fr.refl _ _ | refine Fr.drew ?_ | refine Fr.drewN ?_ _ | refine Fr.alloc ?_ _)))
  have G5 : Hid (Fr (fun k => k = ab) w w5) := by rw [hw5]; exact G4.out.drew
  clear hw5 H4 G4 B4 x1 x3 a1
  have EQ : Hid (q = sendF r.S O T n s p) := by rw [← HQ0.out]; exact if_neg (fun h => by omega)
  have H6 : Hid (AK w5 ab b T O q r) := by rw [EQ.out]; exact H5.out
  obtain ⟨a0, -, -, -, a4, -, -⟩ := H6.out.ask.cells
  rw [HQ.out] at a4
  obtain ⟨-, -, -, k3, -⟩ := H6.out.rk.things hs
  have m1 := (HA.out.fr G5.out hab).c1
  have hfr : w5.frozen? ⟨b, s * 10 + 3, none⟩ = false := H6.out.rk.frozen _
  have hab5 : ab < w5.heap.size := Blk.lt H6.out.ask
  have hlb5 : lb < w5.heap.size := (HA.out.fr G5.out hab).lt
  have hb5 := H6.out.rk.lt
  have habb := H6.out.ne
  clear H5
  generalize sub (r.S s).label T = y
  have hcases : y = true ∨ y = false := by cases y <;> simp
  rcases hcases with rfl | rfl
  · go_wp2_with fail
    have OW5 : Hid (w5.ownsRow 0 3 1 (.slice (r.S s).Wa (r.S s).Wn (r.S s).Wc) (r.S s).Wn (xs.map (Value.int .i64))) := HOWN.out.same (fun g hg => G5.out.block g (HOWN.out.lt hg) (HOFF.out g hg).1)
    have HK : Hid (∀ w', Fr (fun k => (r.S s).wb k) w5 w' → w'.cell? ⟨ab, 0, none⟩ = some (.pointer (some ⟨b, 0, none⟩)) ∧ w'.cell? ⟨lb, lo + 1, none⟩ = some (.int .i64 v) ∧ w'.cell? ⟨b, s * 10 + 3, none⟩ = some (.slice (r.S s).Wa (r.S s).Wn (r.S s).Wc) ∧ w'.frozen? ⟨b, s * 10 + 3, none⟩ = false) := fun w' f => by
      refine ⟨?_, ?_, ?_, ?_⟩
      · rw [cell_same' (f.block ab hab5 (fun hg => (HOFF.out _ hg).1 rfl))]; exact a0
      · rw [cell_same' (f.block lb hlb5 (fun hg => (HOFF.out _ hg).2.2 rfl))]; exact m1
      · rw [cell_same' (f.block b hb5 (fun hg => (HOFF.out _ hg).2.1 rfl))]; exact k3
      · rw [frozen_same' (f.block b hb5 (fun hg => (HOFF.out _ hg).2.1 rfl))]; exact hfr
    refine wp_region_plan2 (fun w' => w'.cell? ⟨ab, 0, none⟩ = some (.pointer (some ⟨b, 0, none⟩)) ∧ w'.cell? ⟨lb, lo + 1, none⟩ = some (.int .i64 v) ∧ w'.cell? ⟨b, s * 10 + 3, none⟩ = some (.slice (r.S s).Wa (r.S s).Wn (r.S s).Wc) ∧ w'.frozen? ⟨b, s * 10 + 3, none⟩ = false) 24 18 20 2 (by kernel_rfl) (by kernel_rfl) (by rfl) (fun _ a d v w h => by cases d <;> exact h) (HK.out _ (by (repeat (first | exact Fr.refl _ _ | refine Fr.drew ?_ | refine Fr.drewN ?_ _ | refine Fr.alloc ?_ _)))) ?_
    simp only [List.take_succ_cons, List.take_zero, List.drop_succ_cons, List.drop_zero, List.cons_append, List.nil_append]
    iterate 20 (
      refine wpPlanL_cons (v := ?_) (by rfl) ?_ ?_
      rotate_left
      · (intro wS hSw; (try dsimp only at hSw); go_simp; try with_reducible rfl)
      simp only [Act.put, List.setIfInBounds_toArray])
    refine wpPlanL_nil ?_
    refine wpAnyT_one (i := 18) (by kernel_rfl) (by rfl) (by rfl) (fun K hK => ?_)
    go_simp
    refine hK _ _ (fun _ => HK.out _ (by (repeat (first | exact Fr.refl _ _ | refine Fr.drew ?_ | refine Fr.drewN ?_ _ | refine Fr.alloc ?_ _)))) ?_
    clear hK
    refine wpAnyT_one (i := 19) (by kernel_rfl) (by rfl) (by rfl) (fun K hK => ?_)
    refine wp_append_lies _ _ _ 32 (by rfl) 0 3 Tryz.t3 (.int .i64 0) 1 8 Tryz.underlying32 (by kernel_rfl) (by kernel_rfl) (by kernel_rfl) (by kernel_rfl) (by rfl) (by omega) (.slice (r.S s).Wa (r.S s).Wn (r.S s).Wc) (r.S s).Wn (xs.map (Value.int .i64)) (by rfl) (owns_alloc (w := w5) OW5.out _) ⟨w5.heap.size, 0, none⟩ 1 1 [.int .i64 v] (by rfl) (by rfl) (World.news_of_block (heap_alloc_new w5 _)) (fun u hu => by rw [List.mem_singleton.1 hu]; rfl) (by omega) (by unfold maxLen; omega) (by omega) (by omega) (w5.heap.size + 1) (by simp) ?_
    intro g cap' w7 hown7 hgrow hat hlt
    have F7 := Fr.grow (S := fun k => (r.S s).wb k) (a := w5) (by (repeat (first | exact Fr.refl _ _ | refine Fr.drew ?_ | refine Fr.drewN ?_ _ | refine Fr.alloc ?_ _))) hgrow (fun k _ hk => Th.wb_own hk)
    refine hK _ _ (fun _ => HK.out _ F7) ?_
    clear hK
    obtain ⟨-, -, hc7, hf7⟩ := HK.out _ F7
    simp only [Act.put, List.setIfInBounds_toArray]
    refine wpAnyT_one (i := 22) (by kernel_rfl) (by rfl) (by rfl) (fun K hK => ?_)
    go_simp
    refine hK _ _ (fun _ => HK.out _ F7) ?_
    clear hK
    refine wpAnyT_one (i := 23) (by kernel_rfl) (by rfl) (by rfl) (fun K hK => ?_)
    go_simp
    refine hK _ _ (fun _ => HK.out _ F7) ?_
    clear hK
    refine wpAnyT_one (i := 24) (by kernel_rfl) (by rfl) (by rfl) (fun K hK => ?_)
    go_simp
    refine hK _ _ (fun h => absurd h (by omega)) ?_
    clear hK
    refine wpAnyT_done (by kernel_rfl) ?_
    go_wp2_with fail
    go_ret
    have hgb : g ≠ b ∧ ((r.S s).wb g ∨ w.heap.size ≤ g) := by
      rcases hat with e | e
      · have := Th.wb_own e.symm
        exact ⟨(HOFF.out g this).2.1, Or.inl this⟩
      · have := G5.out.size
        exact ⟨by omega, Or.inr (by omega)⟩
    have R7 : RK w7 b r := H6.out.rk.fr F7 (fun hg => (HOFF.out b hg).2.1 rfl)
    have A7 : AskAt w7 ab b T O q := Blk.fr H6.out.ask F7 (fun hg => (HOFF.out ab hg).1 rfl)
    have F8 : Fr (fun k => k = b) w7 (w7.setCell ⟨b, s * 10 + 3, none⟩ (.slice (some ⟨g, 0, none⟩) ((r.S s).Wn + 1) cap')) := Fr.own w7 b _ _
    refine ⟨rfl, { r.S s with Wa := some ⟨g, 0, none⟩, Wn := (r.S s).Wn + 1, Wc := cap' }, rfl, rfl, ?_, ?_, ?_, ?_⟩
    · have h7 : Own w7 { r.S s with Wa := some ⟨g, 0, none⟩, Wn := (r.S s).Wn + 1, Wc := cap' } (xs ++ [v]) := by
        unfold Own
        rw [List.map_append]
        exact hown7
      exact h7.same (fun k hk => F8.block k (h7.lt hk) (fun e => by
        obtain ⟨o, sp, e2⟩ := hk
        injection e2 with e2
        injection e2 with e2
        exact hgb.1 (e2.trans e)))
    · rintro k ⟨o, sp, e2⟩
      injection e2 with e2
      injection e2 with e2
      rw [← e2]
      exact hgb.2
    · exact ⟨Blk.fr A7 F8 H6.out.ne, R7.putW hs _ _ _, H6.out.ne, H6.out.hT, H6.out.hO, H6.out.hu, words_wf H6.out.wf hs _ _ _⟩
    · exact ((G5.out.mono (fun _ _ h => Or.inl h)).trans (F7.mono (fun _ _ h => Or.inr (Or.inr h)))).trans (F8.mono (fun _ _ h => Or.inr (Or.inl h)))
  · go_wp2_with fail
    have OW5 : Hid (w5.ownsRow 0 3 1 (.slice (r.S s).Wa (r.S s).Wn (r.S s).Wc) (r.S s).Wn (xs.map (Value.int .i64))) := HOWN.out.same (fun g hg => G5.out.block g (HOWN.out.lt hg) (HOFF.out g hg).1)
    have HK : Hid (∀ w', Fr (fun k => (r.S s).wb k) w5 w' → w'.cell? ⟨ab, 0, none⟩ = some (.pointer (some ⟨b, 0, none⟩)) ∧ w'.cell? ⟨lb, lo + 1, none⟩ = some (.int .i64 v) ∧ w'.cell? ⟨b, s * 10 + 3, none⟩ = some (.slice (r.S s).Wa (r.S s).Wn (r.S s).Wc) ∧ w'.frozen? ⟨b, s * 10 + 3, none⟩ = false) := fun w' f => by
      refine ⟨?_, ?_, ?_, ?_⟩
      · rw [cell_same' (f.block ab hab5 (fun hg => (HOFF.out _ hg).1 rfl))]; exact a0
      · rw [cell_same' (f.block lb hlb5 (fun hg => (HOFF.out _ hg).2.2 rfl))]; exact m1
      · rw [cell_same' (f.block b hb5 (fun hg => (HOFF.out _ hg).2.1 rfl))]; exact k3
      · rw [frozen_same' (f.block b hb5 (fun hg => (HOFF.out _ hg).2.1 rfl))]; exact hfr
    refine wp_region_plan2 (fun w' => w'.cell? ⟨ab, 0, none⟩ = some (.pointer (some ⟨b, 0, none⟩)) ∧ w'.cell? ⟨lb, lo + 1, none⟩ = some (.int .i64 v) ∧ w'.cell? ⟨b, s * 10 + 3, none⟩ = some (.slice (r.S s).Wa (r.S s).Wn (r.S s).Wc) ∧ w'.frozen? ⟨b, s * 10 + 3, none⟩ = false) 24 18 20 2 (by kernel_rfl) (by kernel_rfl) (by rfl) (fun _ a d v w h => by cases d <;> exact h) (HK.out _ (by (repeat (first | exact Fr.refl _ _ | refine Fr.drew ?_ | refine Fr.drewN ?_ _ | refine Fr.alloc ?_ _)))) ?_
    simp only [List.take_succ_cons, List.take_zero, List.drop_succ_cons, List.drop_zero, List.cons_append, List.nil_append]
    iterate 20 (
      refine wpPlanL_cons (v := ?_) (by rfl) ?_ ?_
      rotate_left
      · (intro wS hSw; (try dsimp only at hSw); go_simp; try with_reducible rfl)
      simp only [Act.put, List.setIfInBounds_toArray])
    refine wpPlanL_nil ?_
    refine wpAnyT_one (i := 18) (by kernel_rfl) (by rfl) (by rfl) (fun K hK => ?_)
    go_simp
    refine hK _ _ (fun _ => HK.out _ (by (repeat (first | exact Fr.refl _ _ | refine Fr.drew ?_ | refine Fr.drewN ?_ _ | refine Fr.alloc ?_ _)))) ?_
    clear hK
    refine wpAnyT_one (i := 19) (by kernel_rfl) (by rfl) (by rfl) (fun K hK => ?_)
    refine wp_append_lies _ _ _ 32 (by rfl) 0 3 Tryz.t3 (.int .i64 0) 1 8 Tryz.underlying32 (by kernel_rfl) (by kernel_rfl) (by kernel_rfl) (by kernel_rfl) (by rfl) (by omega) (.slice (r.S s).Wa (r.S s).Wn (r.S s).Wc) (r.S s).Wn (xs.map (Value.int .i64)) (by rfl) (owns_alloc (w := w5) OW5.out _) ⟨w5.heap.size, 0, none⟩ 1 1 [.int .i64 v] (by rfl) (by rfl) (World.news_of_block (heap_alloc_new w5 _)) (fun u hu => by rw [List.mem_singleton.1 hu]; rfl) (by omega) (by unfold maxLen; omega) (by omega) (by omega) (w5.heap.size + 1) (by simp) ?_
    intro g cap' w7 hown7 hgrow hat hlt
    have F7 := Fr.grow (S := fun k => (r.S s).wb k) (a := w5) (by (repeat (first | exact Fr.refl _ _ | refine Fr.drew ?_ | refine Fr.drewN ?_ _ | refine Fr.alloc ?_ _))) hgrow (fun k _ hk => Th.wb_own hk)
    refine hK _ _ (fun _ => HK.out _ F7) ?_
    clear hK
    obtain ⟨-, -, hc7, hf7⟩ := HK.out _ F7
    simp only [Act.put, List.setIfInBounds_toArray]
    refine wpAnyT_one (i := 22) (by kernel_rfl) (by rfl) (by rfl) (fun K hK => ?_)
    go_simp
    refine hK _ _ (fun _ => HK.out _ F7) ?_
    clear hK
    refine wpAnyT_one (i := 23) (by kernel_rfl) (by rfl) (by rfl) (fun K hK => ?_)
    go_simp
    refine hK _ _ (fun _ => HK.out _ F7) ?_
    clear hK
    refine wpAnyT_one (i := 24) (by kernel_rfl) (by rfl) (by rfl) (fun K hK => ?_)
    go_simp
    refine hK _ _ (fun h => absurd h (by omega)) ?_
    clear hK
    refine wpAnyT_done (by kernel_rfl) ?_
    go_wp2_with fail
    go_ret
    have hgb : g ≠ b ∧ ((r.S s).wb g ∨ w.heap.size ≤ g) := by
      rcases hat with e | e
      · have := Th.wb_own e.symm
        exact ⟨(HOFF.out g this).2.1, Or.inl this⟩
      · have := G5.out.size
        exact ⟨by omega, Or.inr (by omega)⟩
    have R7 : RK w7 b r := H6.out.rk.fr F7 (fun hg => (HOFF.out b hg).2.1 rfl)
    have A7 : AskAt w7 ab b T O q := Blk.fr H6.out.ask F7 (fun hg => (HOFF.out ab hg).1 rfl)
    have F8 : Fr (fun k => k = b) w7 (w7.setCell ⟨b, s * 10 + 3, none⟩ (.slice (some ⟨g, 0, none⟩) ((r.S s).Wn + 1) cap')) := Fr.own w7 b _ _
    refine ⟨rfl, { r.S s with Wa := some ⟨g, 0, none⟩, Wn := (r.S s).Wn + 1, Wc := cap' }, rfl, rfl, ?_, ?_, ?_, ?_⟩
    · have h7 : Own w7 { r.S s with Wa := some ⟨g, 0, none⟩, Wn := (r.S s).Wn + 1, Wc := cap' } (xs ++ [v]) := by
        unfold Own
        rw [List.map_append]
        exact hown7
      exact h7.same (fun k hk => F8.block k (h7.lt hk) (fun e => by
        obtain ⟨o, sp, e2⟩ := hk
        injection e2 with e2
        injection e2 with e2
        exact hgb.1 (e2.trans e)))
    · rintro k ⟨o, sp, e2⟩
      injection e2 with e2
      injection e2 with e2
      rw [← e2]
      exact hgb.2
    · exact ⟨Blk.fr A7 F8 H6.out.ne, R7.putW hs _ _ _, H6.out.ne, H6.out.hT, H6.out.hO, H6.out.hu, words_wf H6.out.wf hs _ _ _⟩
    · exact ((G5.out.mono (fun _ _ h => Or.inl h)).trans (F7.mono (fun _ _ h => Or.inr (Or.inr h)))).trans (F8.mono (fun _ _ h => Or.inr (Or.inl h)))

end Go.Proofs.YtloppmepfkkblaaGreat
end
