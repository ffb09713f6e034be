/- What the program's 'admits' does. -/
import Derived.Test.YtloppmepfkkblaaJBaseToTreeKeeps
import Derived.Test.YtloppmepfkkblaaJKTrapOf
import Derived.Test.YtloppmepfkkblaaJMKeepsToViewM
import Derived.Test.YtloppmepfkkblaaJKPutToKTraps3
import Derived.Test.YtloppmepfkkblaaJKTraps4
import Derived.Test.YtloppmepfkkblaaJKTraps5

section
open Go Go.Proofs Go.RowKit
namespace Go.Proofs.Ytloppmepfkkblaa

/-- The arguments ahead of k are within their bounds. -/
def admTo (bs : List (Int × Int × Bool)) (xs : List Int) : Nat → Bool
  | 0 => true
  | k + 1 => admTo bs xs k && decide ((bs.getD k (0, 0, false)).1 ≤ xs.getD k 0 ∧ xs.getD k 0 ≤ (bs.getD k (0, 0, false)).2.1 ∧ ((bs.getD k (0, 0, false)).2.2 = true → xs.getD (k - 1) 0 ≤ xs.getD k 0))

theorem admTo_false {bs : List (Int × Int × Bool)} {xs : List Int} {k n : Nat} (h : admTo bs xs k = false) (hn : k ≤ n) : admTo bs xs n = false := by
  induction n with
  | zero => have : k = 0 := by omega
            subst this; exact h
  | succ n ih =>
    by_cases e : k = n + 1
    · subst e; exact h
    · unfold admTo; rw [ih (by omega)]; rfl

theorem admits_nil (w : World) (f : Value) (ta : Option Addr) (l : Value) :
    Calls Try.prog 28 #[.agg #[.slice ta 0 0, f], l] w fun e w' => e = .returned (.bool true) ∧ Below w.heap.size w w' := by
  go_enter Try.func28, Try.ntmps28
  go_wp2_with fail
  refine wp_loop_rounds 1 ?_
  rw [rounds_succ]
  go_wp2_with fail
  go_ret
  exact ⟨rfl, by (repeat (first | exact Below.refl _ _ | refine Below.drew ?_ | refine below_drewN ?_ _ | refine Below.alloc ?_ (by simp <;> omega) _))⟩

set_option maxRecDepth 100000 in
set_option maxHeartbeats 4000000 in
theorem admits_any (w : World) (f : Value) (g lb lo cap : Nat) (bs : List (Int × Int × Bool)) (xs : List Int) (hl : bs.length = xs.length) (hm : xs.length ≤ 1000) (hg : g < w.heap.size)
    (hb : ∀ i b, bs[i]? = some b → w.cell? ⟨g, i * 3, none⟩ = some (.int .i64 b.1) ∧ w.cell? ⟨g, i * 3 + 1, none⟩ = some (.int .i64 b.2.1) ∧ w.cell? ⟨g, i * 3 + 2, none⟩ = some (.bool b.2.2)) (h0 : (bs.getD 0 (0, 0, false)).2.2 = false) (ha : Arg w lb lo xs) :
    Calls Try.prog 28 #[.agg #[.slice (some ⟨g, 0, none⟩) xs.length xs.length, f], .slice (some ⟨lb, lo, none⟩) xs.length cap] w fun e w' => e = .returned (.bool (admTo bs xs xs.length)) ∧ Below w.heap.size w w' := by
  have HX := hide ha
  have HL := hide hl
  have HB := hide hb
  have HZ := hide h0
  have hlb := ha.lt
  clear ha hl hb h0
  go_enter Try.func28, Try.ntmps28
  go_wp2_with fail
  go_loopw [10] (fun i w' => ∃ k : Nat, k ≤ xs.length ∧ i = .int .i64 k ∧ admTo bs xs k = true ∧ Below w.heap.size w w') (fun i _ => xs.length - (intOf i).toNat)
  case atStart => exact ⟨0, by omega, rfl, rfl, by (repeat (first | exact Below.refl _ _ | refine Below.drew ?_ | refine below_drewN ?_ _ | refine Below.alloc ?_ (by simp <;> omega) _))⟩
  case round =>
    obtain ⟨k, hk, rfl, hmay, hW⟩ := hrel
    have HM := hide hmay
    have HW := hide hW
    have hsz := hW.size
    clear hmay hW
    by_cases hkn : k < xs.length
    · have hxk : xs[k]? = some (xs.getD k 0) := by
        rw [List.getD_eq_getElem?_getD, List.getElem?_eq_getElem hkn]; rfl
      have hbk : bs[k]? = some (bs.getD k (0, 0, false)) := by
        have := HL.out
        rw [List.getD_eq_getElem?_getD, List.getElem?_eq_getElem (by omega)]; rfl
      have HXk : Hid (1 ≤ k → wr.cell? ⟨lb, lo + (k - 1), none⟩ = some (.int .i64 (xs.getD (k - 1) 0))) := fun h1 => by
        refine (HX.out.below HW.out hlb).cell (k - 1) _ ?_
        rw [List.getD_eq_getElem?_getD, List.getElem?_eq_getElem (by omega)]; rfl
      have c0 := (HX.out.below HW.out hlb).cell k _ hxk
      obtain ⟨d0, d1, d2⟩ := HB.out k _ hbk
      have e0 := (cell_same' (HW.out.block g hg) (k * 3)).trans d0
      have e1 := (cell_same' (HW.out.block g hg) (k * 3 + 1)).trans d1
      have e2 := (cell_same' (HW.out.block g hg) (k * 3 + 2)).trans d2
      have hki : (k : Int) < (xs.length : Int) := by omega
      have hki0 : (0 : Int) ≤ (k : Int) := by omega
      have hlb' : lb < wr.heap.size := by omega
      have HZk : Hid ((bs.getD k (0, 0, false)).2.2 = true → 1 ≤ k) := fun h => by
        by_cases e : k = 0
        · subst e; have := HZ.out; rw [h] at this; cases this
        · omega
      have HS : Hid (∀ v, decide ((bs.getD k (0, 0, false)).1 ≤ xs.getD k 0 ∧ xs.getD k 0 ≤ (bs.getD k (0, 0, false)).2.1 ∧ ((bs.getD k (0, 0, false)).2.2 = true → xs.getD (k - 1) 0 ≤ xs.getD k 0)) = v → admTo bs xs (k + 1) = v) := fun v h => by
        unfold admTo; rw [HM.out, h]; rfl
      have HF : Hid (admTo bs xs (k + 1) = false → admTo bs xs xs.length = false) := fun h => admTo_false h (by omega)
      clear hxk hbk d0 d1 d2
      generalize xs.getD k 0 = x at *
      generalize xs.getD (k - 1) 0 = x' at *
      generalize (bs.getD k (0, 0, false)).1 = p at *
      generalize (bs.getD k (0, 0, false)).2.1 = q at *
      generalize (bs.getD k (0, 0, false)).2.2 = cl at *
      by_cases h1 : x < p
      · have h1b : decide (x < p) = true := by simpa using h1
        have hP : Hid (¬ (p ≤ x ∧ x ≤ q ∧ (cl = true → x' ≤ x))) := fun h => by omega
        go_wp2_with fail
        go_quiet (fail)
        go_wp2_with fail
        go_ret
        exact ⟨ret_bool (HF.out (HS.out _ (decide_eq_false hP.out))).symm, below_drewN (HW.out.alloc HW.out.size _) _⟩
      · have h1b : decide (x < p) = false := by simpa using h1
        by_cases h2 : q < x
        · have h2b : decide (q < x) = true := by simpa using h2
          have hP : Hid (¬ (p ≤ x ∧ x ≤ q ∧ (cl = true → x' ≤ x))) := fun h => by omega
          go_wp2_with fail
          go_quiet (fail)
          go_wp2_with fail
          go_ret
          exact ⟨ret_bool (HF.out (HS.out _ (decide_eq_false hP.out))).symm, below_drewN (HW.out.alloc HW.out.size _) _⟩
        · have h2b : decide (q < x) = false := by simpa using h2
          cases cl with
          | false =>
            have hP : Hid (p ≤ x ∧ x ≤ q ∧ (false = true → x' ≤ x)) := by unfold Hid; exact ⟨by omega, by omega, fun h => by cases h⟩
            go_wp2_with fail
            go_quiet (fail)
            go_wp2_with fail
            go_quiet (fail)
            go_wp2_with fail
            exact ⟨⟨k + 1, by omega, by go_num, HS.out _ (decide_eq_true hP.out), by repeat (first | exact HW.out.alloc HW.out.size _ | refine below_drewN ?_ _)⟩, by simp [intOf]; omega⟩
          | true =>
            have hk1 := HZk.out rfl
            have c1 := HXk.out hk1
            obtain ⟨j, rfl⟩ : ∃ j, k = j + 1 := ⟨k - 1, by omega⟩
            simp only [Nat.add_sub_cancel] at c1
            have hj : (((j + 1 : Nat) : Int) - 1) = (j : Int) := by omega
            have hj2 : (j : Int) < (xs.length : Int) := by omega
            by_cases h3 : x < x'
            · have h3b : decide (x < x') = true := by simpa using h3
              have hP : Hid (¬ (p ≤ x ∧ x ≤ q ∧ (true = true → x' ≤ x))) := fun h => by have := h.2.2 rfl; omega
              go_wp2_with fail
              go_quiet (fail)
              go_wp2_with fail
              go_quiet (fail)
              go_wp2_with fail
              go_ret
              exact ⟨ret_bool (HF.out (HS.out _ (decide_eq_false hP.out))).symm, by repeat (first | exact HW.out.alloc HW.out.size _ | refine below_drewN ?_ _)⟩
            · have h3b : decide (x < x') = false := by simpa using h3
              have hP : Hid (p ≤ x ∧ x ≤ q ∧ (true = true → x' ≤ x)) := by unfold Hid; exact ⟨by omega, by omega, fun _ => by omega⟩
              go_wp2_with fail
              go_quiet (fail)
              go_wp2_with fail
              go_quiet (fail)
              go_wp2_with fail
              exact ⟨⟨j + 1 + 1, by omega, by go_num, HS.out _ (decide_eq_true hP.out), by repeat (first | exact HW.out.alloc HW.out.size _ | refine below_drewN ?_ _)⟩, by simp [intOf]; omega⟩
    · have : k = xs.length := by omega
      subst this
      go_wp2_with fail
      go_ret
      exact ⟨ret_bool HM.out.symm, HW.out⟩

/-- The bounds of a trap's arguments. -/
def boundsL (n : Int) : List (Int × Int × Bool) :=
  if n = 2 then [(0, 31, false)] else
  if n = 3 then [(0, 31, false)] else
  if n = 4 then [(0, 31, false), (0, 31, false), (0, 255, false)] else
  if n = 5 then [(0, 31, false), (0, 7, false)] else
  if n = 6 then [(0, 31, false), (0, 7, false), (-9223372036854775808, 9223372036854775807, false)] else
  if n = 7 then [(0, 31, false), (0, 31, false), (0, 255, false), (1, 32, false), (1, 32, true), (0, 8, false), (0, 8, true)] else
  if n = 8 then [(0, 31, false)] else
  if n = 9 then [(0, 31, false), (0, 31, false), (0, 255, false), (0, 255, false)] else
  if n = 10 then [(0, 7, false), (0, 31, false)] else
  if n = 11 then [(0, 7, false)] else
  if n = 13 then [(0, 31, false)] else
  if n = 14 then [(0, 31, false), (0, 31, false), (0, 255, false)] else
  if n = 15 then [(0, 31, false), (-9223372036854775808, 9223372036854775807, false)] else
  if n = 16 then [(0, 31, false)] else
  []

/-- Numbers that an int can be. -/
def Fits (xs : List Int) : Prop := ∀ x, x ∈ xs → -9223372036854775808 ≤ x ∧ x ≤ 9223372036854775807

theorem n16 {n : Int} (h1 : 1 ≤ n) (h2 : n < 17) : n = 1 ∨ n = 2 ∨ n = 3 ∨ n = 4 ∨ n = 5 ∨ n = 6 ∨ n = 7 ∨ n = 8 ∨ n = 9 ∨ n = 10 ∨ n = 11 ∨ n = 12 ∨ n = 13 ∨ n = 14 ∨ n = 15 ∨ n = 16 := by omega

theorem bounds_len {n : Int} (h1 : 1 ≤ n) (h2 : n < 17) : (boundsL n).length = (shapeL n).length ∧ (boundsL n).length = (takesA n).length / 3 ∧ ((boundsL n).getD 0 (0, 0, false)).2.2 = false ∧
    ∀ i b, (boundsL n)[i]? = some b → (takesA n)[i * 3]? = some (.int .i64 b.1) ∧ (takesA n)[i * 3 + 1]? = some (.int .i64 b.2.1) ∧ (takesA n)[i * 3 + 2]? = some (.bool b.2.2) := by
  rcases n16 h1 h2 with rfl | rfl | rfl | rfl | rfl | rfl | rfl | rfl | rfl | rfl | rfl | rfl | rfl | rfl | rfl | rfl
  all_goals
    refine ⟨rfl, rfl, rfl, fun i b hb => ?_⟩
    rcases i with _ | _ | _ | _ | _ | _ | _ | i
    all_goals first | (simp [boundsL] at hb; done) | (cases hb; exact ⟨rfl, rfl, rfl⟩)

theorem bool_congr {p q : Prop} [Decidable p] [Decidable q] (h : p ↔ q) : decide p = decide q := by
  by_cases hp : p
  · rw [decide_eq_true hp, decide_eq_true (h.1 hp)]
  · rw [decide_eq_false hp, decide_eq_false (fun hq => hp (h.2 hq))]

theorem adm_may {n : Int} (h1 : 1 ≤ n) (h2 : n < 17) (xs : List Int) (hl : (shapeL n).length = xs.length) (hf : Fits xs) : admTo (boundsL n) xs xs.length = mayTo (shapeL n) xs xs.length := by
  rcases n16 h1 h2 with rfl | rfl | rfl | rfl | rfl | rfl | rfl | rfl | rfl | rfl | rfl | rfl | rfl | rfl | rfl | rfl
  · match xs, hl with
    | [], _ => rfl
  · match xs, hl with
    | [a], _ => simp [admTo, mayTo, boundsL, shapeL, okAt]
  · match xs, hl with
    | [a], _ => simp [admTo, mayTo, boundsL, shapeL, okAt]
  · match xs, hl with
    | [a, b, c], _ => simp [admTo, mayTo, boundsL, shapeL, okAt]
  · match xs, hl with
    | [a, b], _ => simp [admTo, mayTo, boundsL, shapeL, okAt]
  · match xs, hl with
    | [a, b, c], _ =>
      have := hf c (by simp)
      simp [admTo, mayTo, boundsL, shapeL, okAt, this.1, this.2]
  · match xs, hl with
    | [a, b, c, d, e, f, g], _ =>
      simp only [admTo, mayTo, boundsL, shapeL, okAt, List.length_cons, List.length_nil]
      simp
      rw [Bool.eq_iff_iff]
      simp
      omega
  · match xs, hl with
    | [a], _ => simp [admTo, mayTo, boundsL, shapeL, okAt]
  · match xs, hl with
    | [a, b, c, d], _ => simp [admTo, mayTo, boundsL, shapeL, okAt]
  · match xs, hl with
    | [a, b], _ => simp [admTo, mayTo, boundsL, shapeL, okAt]
  · match xs, hl with
    | [a], _ => simp [admTo, mayTo, boundsL, shapeL, okAt]
  · match xs, hl with
    | [], _ => rfl
  · match xs, hl with
    | [a], _ => simp [admTo, mayTo, boundsL, shapeL, okAt]
  · match xs, hl with
    | [a, b, c], _ => simp [admTo, mayTo, boundsL, shapeL, okAt]
  · match xs, hl with
    | [a, b], _ =>
      have := hf b (by simp)
      simp [admTo, mayTo, boundsL, shapeL, okAt, this.1, this.2]
  · match xs, hl with
    | [a], _ => simp [admTo, mayTo, boundsL, shapeL, okAt]

end Go.Proofs.Ytloppmepfkkblaa
end

section
/- What the program's 'Trap' does: it is the plain kernel's. -/
open Go Go.Proofs Go.RowKit
namespace Go.Proofs.Ytloppmepfkkblaa

theorem callF (n : Int) (h1 : 1 ≤ n) (h2 : n < 17) (args : Array Value) (w : World) : (callFunc (doesF n) args).run Try.prog w = .ok (.enter (doesF n) args) w := by
  rcases n16 h1 h2 with rfl | rfl | rfl | rfl | rfl | rfl | rfl | rfl | rfl | rfl | rfl | rfl | rfl | rfl | rfl | rfl <;> kernel_rfl

section
variable {w w' : World} {rb kb : Nat} {M : MS} {ob cb : Nat → Nat} {qp : Nat → Option Nat} {me : Nat}

theorem q0 (h : KP w kb M ob cb qp) (hI : MInv M) (hc : M.cur = some me) (hq : ReqAt w rb kb (ob me) 0) (hne : ¬ Foot kb M ob cb qp rb) : QK w rb kb M ob cb qp me 0 := by
  obtain ⟨m1, m2, -⟩ := hI.cur_some hc
  exact ⟨hq, h, hne, m1, m2, by omega⟩

/-- Each trap's function is what the plain kernel does. -/
theorem does_all (h : QK w rb kb M ob cb qp me 0) (hI : MInv M) {n : Int} {xs : List Int} (ha : Args n xs) (la : Option Addr) (cap : Nat) (hA : xs = [] ∨ ∃ lb lo, la = some ⟨lb, lo, none⟩ ∧ Arg w lb lo xs ∧ lb ≠ rb) :
    TrapC (doesF n) #[.pointer (some ⟨rb, 0, none⟩), .slice la xs.length cap] w rb kb M ob cb qp me (M.ask me n xs) (M.val me n xs) (M.next me n xs) := by
  have get : ∀ {p : Prop}, xs ≠ [] → ((lb lo : Nat) → la = some ⟨lb, lo, none⟩ → Arg w lb lo xs → lb ≠ rb → p) → p := fun hne k => by
    rcases hA with e | ⟨lb, lo, e1, e2, e3⟩
    · exact absurd e hne
    · exact k lb lo e1 e2 e3
  cases ha with
  | self => exact t_self h _
  | kind s hs => exact get (by simp) (fun lb lo e1 e2 e3 => e1 ▸ t_kind h s lb lo cap hs (hI.tree.deep _) e2 e3)
  | label s hs => exact get (by simp) (fun lb lo e1 e2 e3 => e1 ▸ t_label h s lb lo cap hs (hI.tree.deep _) e2)
  | seg c s l hc hs hl => exact get (by simp) (fun lb lo e1 e2 e3 => e1 ▸ t_newSegment h c s l lb lo cap hc hs hl (hI.tree.deep _) e2)
  | read s i hs hi => exact get (by simp) (fun lb lo e1 e2 e3 => e1 ▸ t_read h s i lb lo cap hs hi (hI.tree.deep _) e2 e3)
  | write s i v hs hi => exact get (by simp) (fun lb lo e1 e2 e3 => e1 ▸ t_write h s i v lb lo cap hs hi (hI.tree.deep _) e2 e3)
  | cont c s l a e g z hc hs hl ha hae he hgh hh => exact get (by simp) (fun lb lo e1 e2 e3 => e1 ▸ t_newContainer h c s l a e g z lb lo cap hc hs hl ha hae he hgh hh (hI.tree.deep _) e2)
  | free s hs => exact get (by simp) (fun lb lo e1 e2 e3 => e1 ▸ t_free h hI s lb lo cap hs e2)
  | thread c s l o hc hs hl ho => exact get (by simp) (fun lb lo e1 e2 e3 => e1 ▸ t_newThread h c s l o lb lo cap hc hs hl ho (hI.tree.deep _) e2)
  | give q s hq hs =>
    obtain ⟨c, hc⟩ := hI.tree.has_root hq
    exact get (by simp) (fun lb lo e1 e2 e3 => e1 ▸ t_give h q s c lb lo cap hq hs hc (hI.tree.deep _) (hI.tree.deep _) e2)
  | drop q hq =>
    obtain ⟨c, hc⟩ := hI.tree.has_root hq
    exact get (by simp) (fun lb lo e1 e2 e3 => e1 ▸ t_drop h q c lb lo cap hq hc (hI.tree.deep _) e2)
  | sleep => exact t_sleep h _
  | wake s hs => exact get (by simp) (fun lb lo e1 e2 e3 => e1 ▸ t_wake h s lb lo cap hs (hI.tree.deep _) e2)
  | port c s l hc hs hl => exact get (by simp) (fun lb lo e1 e2 e3 => e1 ▸ t_newPort h c s l lb lo cap hc hs hl (hI.tree.deep _) e2)
  | send s v hs => exact get (by simp) (fun lb lo e1 e2 e3 => e1 ▸ t_send h s v lb lo cap hs (hI.tree.deep _) e2 e3)
  | receive s hs => exact get (by simp) (fun lb lo e1 e2 e3 => e1 ▸ t_receive h s lb lo cap hs (hI.tree.deep _) e2)

theorem cur_lq {s : Nat} (h : M.cur = some s) : M.lq M.ph = some s := by
  unfold MS.cur at h
  split at h
  · cases h
  · split at h
    · injection h with h; subst h; assumption
    · cases h

theorem kcur_yes (h : KP w kb M ob cb qp) {s : Nat} (hc : M.cur = some s) :
    Calls Try.prog 24 #[.pointer (some ⟨kb, 0, none⟩)] w fun e w' => e = .returned (.pointer (some ⟨ob s, 0, none⟩)) ∧ Below w.heap.size w w' := by
  have := kcurrent h
  rw [hc] at this
  exact this

set_option maxHeartbeats 1000000 in
/-- No current thread. -/
theorem ktrap_idle (h : KP w kb M ob cb qp) (hc : M.cur = none) (n : Int) (l : Value) :
    Calls Try.prog 19 #[.pointer (some ⟨kb, 0, none⟩), .int .i64 n, l] w fun e w' => e = .returned (outV 1 0 0) ∧ Below w.heap.size w w' := by
  have CU := fun w' hb => kcurrent (h.below (w' := w') hb)
  rw [hc] at CU
  have HCU := hide CU
  clear h hc CU
  go_enter Try.func19, Try.ntmps19
  go_wp2_with fail
  refine (HCU.out _ ((Below.refl _ _).alloc (Nat.le_refl _) _)).mono ?_
  rintro e w1 ⟨rfl, hb⟩
  simp only [Option.map, ptrV]
  have B1 := hide (Blk.zero3 hb)
  have HB := hide (Below.first hb)
  have x0 : w1.cell? ⟨w.heap.size, 0, none⟩ = some (.int .i64 0) := by rw [Blk.cell B1.out]; rfl
  have x1 : w1.cell? ⟨w.heap.size, 1, none⟩ = some (.int .i64 0) := by rw [Blk.cell B1.out]; rfl
  have x2 : w1.cell? ⟨w.heap.size, 2, none⟩ = some (.int .i64 0) := by rw [Blk.cell B1.out]; rfl
  have y0 := Blk.frozen B1.out 0
  have y1 := Blk.frozen B1.out 1
  have y2 := Blk.frozen B1.out 2
  clear hb
  go_wp2_with fail
  refine bodyPost_ret (v := .agg #[.int .i64 1, .int .i64 0, .int .i64 0]) (by simp [results, Try.results19, go_sem, x0, x1, x2]) rfl ⟨rfl, ?_⟩
  exact ((HB.out.setCell (by simp) _).setCell (by simp) _).setCell (by simp) _

set_option maxHeartbeats 1000000 in
/-- No trap of this number. -/
theorem ktrap_none (h : KP w kb M ob cb qp) {me : Nat} (hc : M.cur = some me) (n : Int) (l : Value)
    (hT : ∀ w1, Calls Try.prog 27 #[.int .i64 n] w1 fun e w' => e = .returned (.tuple #[.agg #[.slice none 0 0, .nilFunc], .bool false]) ∧ Below w1.heap.size w1 w') :
    Calls Try.prog 19 #[.pointer (some ⟨kb, 0, none⟩), .int .i64 n, l] w fun e w' => e = .returned (outV 2 0 0) ∧ Below w.heap.size w w' := by
  have HT := hide hT
  have CU := fun w' hb => kcur_yes (h.below (w' := w') hb) hc
  have HCU := hide CU
  clear h hc hT CU
  go_enter Try.func19, Try.ntmps19
  go_wp2_with fail
  refine (HCU.out _ ((Below.refl _ _).alloc (Nat.le_refl _) _)).mono ?_
  rintro e w1 ⟨rfl, hb⟩
  have B1 := hide (Blk.zero3 hb)
  have HB := hide (Below.first hb)
  have hz1 : w.heap.size + 1 ≤ w1.heap.size := by have := hb.size; simp at this; omega
  clear hb
  go_wp2_with fail
  refine (HT.out _).mono ?_
  rintro e w2 ⟨rfl, hb2⟩
  have B2 := hide (Blk.below B1.out hb2 (by omega))
  have HB2 := hide (HB.out.trans (hb2.mono (by omega)))
  have hz2 : w.heap.size + 1 ≤ w2.heap.size := by have := hb2.size; omega
  have x0 : w2.cell? ⟨w.heap.size, 0, none⟩ = some (.int .i64 0) := by rw [Blk.cell B2.out]; rfl
  have x1 : w2.cell? ⟨w.heap.size, 1, none⟩ = some (.int .i64 0) := by rw [Blk.cell B2.out]; rfl
  have x2 : w2.cell? ⟨w.heap.size, 2, none⟩ = some (.int .i64 0) := by rw [Blk.cell B2.out]; rfl
  have y0 := Blk.frozen B2.out 0
  have y1 := Blk.frozen B2.out 1
  have y2 := Blk.frozen B2.out 2
  have hz3 : w.heap.size < w2.heap.size := by omega
  clear hb2
  go_wp2_with fail
  refine bodyPost_ret (v := .agg #[.int .i64 2, .int .i64 0, .int .i64 0]) (by simp [results, Try.results19, go_sem, x0, x1, x2, hz3]) rfl ⟨rfl, ?_⟩
  have HB3 := HB2.out
  refine Below.alloc ?_ ?_ _
  · exact ((HB3.setCell (by simp) _).setCell (by simp) _).setCell (by simp) _
  · simp [World.setCell]; omega

set_option maxHeartbeats 1000000 in
/-- Another number of arguments. -/
theorem ktrap_len (h : KP w kb M ob cb qp) {me : Nat} (hc : M.cur = some me) (n : Int) (la : Option Addr) (ln cap tn fd : Nat) (hne : ln ≠ tn)
    (hT : ∀ w1, Calls Try.prog 27 #[.int .i64 n] w1 fun e w' => ∃ ta, e = .returned (.tuple #[.agg #[.slice ta tn tn, .func (Fn.func fd) #[] #[]], .bool true]) ∧ Below w1.heap.size w1 w') :
    Calls Try.prog 19 #[.pointer (some ⟨kb, 0, none⟩), .int .i64 n, .slice la ln cap] w fun e w' => e = .returned (outV 2 0 0) ∧ Below w.heap.size w w' := by
  have HT := hide hT
  have CU := fun w' hb => kcur_yes (h.below (w' := w') hb) hc
  have HCU := hide CU
  clear h hc hT CU
  go_enter Try.func19, Try.ntmps19
  go_wp2_with fail
  refine (HCU.out _ ((Below.refl _ _).alloc (Nat.le_refl _) _)).mono ?_
  rintro e w1 ⟨rfl, hb⟩
  have B1 := hide (Blk.zero3 hb)
  have HB := hide (Below.first hb)
  have hz1 : w.heap.size + 1 ≤ w1.heap.size := by have := hb.size; simp at this; omega
  clear hb
  go_wp2_with fail
  refine (HT.out _).mono ?_
  rintro e w2 ⟨ta, rfl, hb2⟩
  have B2 := hide (Blk.below B1.out hb2 (by omega))
  have HB2 := hide (HB.out.trans (hb2.mono (by omega)))
  have hz2 : w.heap.size + 1 ≤ w2.heap.size := by have := hb2.size; omega
  have x0 : w2.cell? ⟨w.heap.size, 0, none⟩ = some (.int .i64 0) := by rw [Blk.cell B2.out]; rfl
  have x1 : w2.cell? ⟨w.heap.size, 1, none⟩ = some (.int .i64 0) := by rw [Blk.cell B2.out]; rfl
  have x2 : w2.cell? ⟨w.heap.size, 2, none⟩ = some (.int .i64 0) := by rw [Blk.cell B2.out]; rfl
  have y0 := Blk.frozen B2.out 0
  have y1 := Blk.frozen B2.out 1
  have y2 := Blk.frozen B2.out 2
  have hz3 : w.heap.size < w2.heap.size := by omega
  have hne2 : ¬ (ln : Int) = (tn : Int) := by omega
  clear hb2
  go_wp2_with fail
  refine bodyPost_ret (v := .agg #[.int .i64 2, .int .i64 0, .int .i64 0]) (by simp [results, Try.results19, go_sem, x0, x1, x2, hz3]) rfl ⟨rfl, ?_⟩
  have HB3 := HB2.out
  refine Below.alloc ?_ ?_ _
  · exact ((HB3.setCell (by simp) _).setCell (by simp) _).setCell (by simp) _
  · simp [World.setCell]; omega

set_option maxHeartbeats 1000000 in
/-- An argument that may not be. -/
theorem ktrap_arg (h : KP w kb M ob cb qp) {me : Nat} (hc : M.cur = some me) (n : Int) (la : Option Addr) (ln cap fd : Nat) (T : World → Option Addr → Prop)
    (hT : ∀ w1, Calls Try.prog 27 #[.int .i64 n] w1 fun e w' => ∃ ta, e = .returned (.tuple #[.agg #[.slice ta ln ln, .func (Fn.func fd) #[] #[]], .bool true]) ∧ Below w1.heap.size w1 w' ∧ T w' ta)
    (hTs : ∀ w1 w' ta, T w1 ta → Below w1.heap.size w1 w' → T w' ta)
    (hA : ∀ w1 ta, T w1 ta → Below w.heap.size w w1 → Calls Try.prog 28 #[.agg #[.slice ta ln ln, .func (Fn.func fd) #[] #[]], .slice la ln cap] w1 fun e w' => e = .returned (.bool false) ∧ Below w1.heap.size w1 w') :
    Calls Try.prog 19 #[.pointer (some ⟨kb, 0, none⟩), .int .i64 n, .slice la ln cap] w fun e w' => e = .returned (outV 3 0 0) ∧ Below w.heap.size w w' := by
  have HT := hide hT
  have HTs := hide hTs
  have HA := hide hA
  have CU := fun w' hb => kcur_yes (h.below (w' := w') hb) hc
  have HCU := hide CU
  clear h hc hT CU hA hTs
  go_enter Try.func19, Try.ntmps19
  go_wp2_with fail
  refine (HCU.out _ ((Below.refl _ _).alloc (Nat.le_refl _) _)).mono ?_
  rintro e w1 ⟨rfl, hb⟩
  have B1 := hide (Blk.zero3 hb)
  have HB := hide (Below.first hb)
  have hz1 : w.heap.size + 1 ≤ w1.heap.size := by have := hb.size; simp at this; omega
  clear hb
  go_wp2_with fail
  refine (HT.out _).mono ?_
  rintro e w2 ⟨ta, rfl, hb2, ht2⟩
  have B2 := hide (Blk.below B1.out hb2 (by omega))
  have HB2 := hide (HB.out.trans (hb2.mono (by omega)))
  have hz2 : w.heap.size + 1 ≤ w2.heap.size := by have := hb2.size; omega
  have HT2 := hide ht2
  clear hb2 ht2
  go_wp2_with fail
  refine (HA.out _ _ (HTs.out _ _ _ HT2.out ((Below.refl _ _).alloc (Nat.le_refl _) _)) (HB2.out.alloc HB2.out.size _)).mono ?_
  rintro e w3 ⟨rfl, hb3⟩
  have B3 := hide (Blk.below (B2.out.alloc _) hb3 (by simp; omega))
  have HB3 := hide ((HB2.out.alloc HB2.out.size _).trans (hb3.mono (by simp; omega)))
  have x0 : w3.cell? ⟨w.heap.size, 0, none⟩ = some (.int .i64 0) := by rw [Blk.cell B3.out]; rfl
  have x1 : w3.cell? ⟨w.heap.size, 1, none⟩ = some (.int .i64 0) := by rw [Blk.cell B3.out]; rfl
  have x2 : w3.cell? ⟨w.heap.size, 2, none⟩ = some (.int .i64 0) := by rw [Blk.cell B3.out]; rfl
  have y0 := Blk.frozen B3.out 0
  have y1 := Blk.frozen B3.out 1
  have y2 := Blk.frozen B3.out 2
  clear hb3
  go_wp2_with fail
  refine bodyPost_ret (v := .agg #[.int .i64 3, .int .i64 0, .int .i64 0]) (by simp [results, Try.results19, go_sem, x0, x1, x2]) rfl ⟨rfl, ?_⟩
  exact ((HB3.out.setCell (by simp) _).setCell (by simp) _).setCell (by simp) _

set_option maxHeartbeats 2000000 in
/-- The trap itself. -/
theorem ktrap_ok (h : KP w kb M ob cb qp) {me : Nat} (hc : M.cur = some me) (n : Int) (la : Option Addr) (ln cap fd : Nat) (T : World → Option Addr → Prop) (F : Nat → Prop) (R : World → Int → Int → Nat → Prop)
    (hT : ∀ w1, Calls Try.prog 27 #[.int .i64 n] w1 fun e w' => ∃ ta, e = .returned (.tuple #[.agg #[.slice ta ln ln, .func (Fn.func fd) #[] #[]], .bool true]) ∧ Below w1.heap.size w1 w' ∧ T w' ta)
    (hTs : ∀ w1 w' ta, T w1 ta → Below w1.heap.size w1 w' → T w' ta)
    (hA : ∀ w1 ta, T w1 ta → Below w.heap.size w w1 → Calls Try.prog 28 #[.agg #[.slice ta ln ln, .func (Fn.func fd) #[] #[]], .slice la ln cap] w1 fun e w' => e = .returned (.bool true) ∧ Below w1.heap.size w1 w')
    (hcf : ∀ args w, (callFunc fd args).run Try.prog w = .ok (.enter fd args) w)
    (hD : ∀ w1 rb, QK w1 rb kb M ob cb qp me 0 → Below w.heap.size w w1 → w.heap.size < rb → Calls Try.prog fd #[.pointer (some ⟨rb, 0, none⟩), .slice la ln cap] w1 fun e w' =>
      ∃ v er u, e = .returned (.tuple #[.int .i64 v, .int .i64 er]) ∧ ReqAt w' rb kb (ob me) u ∧ R w' v er u ∧ Fr (fun k => k = rb ∨ F k) w1 w')
    (hF : ¬ F w.heap.size)
    (hst : ∀ w' w'' v er u, R w' v er u → Fr (fun k => k = w.heap.size) w' w'' → R w'' v er u) :
    Calls Try.prog 19 #[.pointer (some ⟨kb, 0, none⟩), .int .i64 n, .slice la ln cap] w fun e w' => ∃ v er u, e = .returned (outV er v u) ∧ R w' v er u ∧ Fr F w w' := by
  have HT := hide hT
  have HTs := hide hTs
  have HA := hide hA
  have HD := hide hD
  have HF := hide hF
  have HST := hide hst
  have CU := fun w' hb => kcur_yes (h.below (w' := w') hb) hc
  have HCU := hide CU
  have hlv := h.live h.ph8 (cur_lq hc)
  have HLV := hide hlv
  have H := hide h
  clear h hc hT CU hA hTs hD hF hst hlv
  go_enter Try.func19, Try.ntmps19
  go_wp2_with fail
  refine (HCU.out _ ((Below.refl _ _).alloc (Nat.le_refl _) _)).mono ?_
  rintro e w1 ⟨rfl, hb⟩
  have B1 := hide (Blk.zero3 hb)
  have HB := hide (Below.first hb)
  have hz1 : w.heap.size + 1 ≤ w1.heap.size := by have := hb.size; simp at this; omega
  clear hb
  go_wp2_with fail
  refine (HT.out _).mono ?_
  rintro e w2 ⟨ta, rfl, hb2, ht2⟩
  have B2 := hide (Blk.below B1.out hb2 (by omega))
  have HB2 := hide (HB.out.trans (hb2.mono (by omega)))
  have hz2 : w.heap.size + 1 ≤ w2.heap.size := by have := hb2.size; omega
  have HT2 := hide ht2
  clear hb2 ht2
  go_wp2_with fail
  refine (HA.out _ _ (HTs.out _ _ _ HT2.out ((Below.refl _ _).alloc (Nat.le_refl _) _)) (HB2.out.alloc HB2.out.size _)).mono ?_
  rintro e w3 ⟨rfl, hb3⟩
  have B3 := hide (Blk.below (B2.out.alloc _) hb3 (by simp; omega))
  have BR := hide (Blk.below (Blk.new w2 _ _) hb3 (by simp))
  have HB3 := hide ((HB2.out.alloc HB2.out.size _).trans (hb3.mono (by simp; omega)))
  have hz3 : w2.heap.size + 1 ≤ w3.heap.size := by have := hb3.size; simp at this; omega
  have r1 : w3.cell? ⟨w2.heap.size, 1, none⟩ = some (.func (Fn.func fd) #[] #[]) := by rw [Blk.cell BR.out]; rfl
  have hz4 : w2.heap.size < w3.heap.size := by omega
  clear hb3
  go_wp2_with fail
  have HP3 := hide (H.out.below HB3.out)
  have A3 : QK (w3.alloc (.cells #[.pointer (some ⟨kb, 0, none⟩), .pointer (some ⟨ob me, 0, none⟩), .int .i64 0] 82)) w3.heap.size kb M ob cb qp me 0 :=
    ⟨Blk.new w3 _ _, HP3.out.below ((Below.refl _ _).alloc (Nat.le_refl _) _), fun hf => by have := HP3.out.foot_lt hf; omega, HLV.out.1, HLV.out.2.1, by omega⟩
  refine (HD.out _ _ A3 (HB3.out.alloc HB3.out.size _) (by omega)).mono ?_
  rintro e w4 ⟨v, er, u, rfl, a4, r4, f4⟩
  have B4 : Blk w4 w.heap.size _ := Blk.fr (B3.out.alloc _) f4 (by rintro (h | h); omega; exact HF.out h)
  have x0 : w4.cell? ⟨w.heap.size, 0, none⟩ = some (.int .i64 0) := by rw [Blk.cell B4]; rfl
  have x1 : w4.cell? ⟨w.heap.size, 1, none⟩ = some (.int .i64 0) := by rw [Blk.cell B4]; rfl
  have x2 : w4.cell? ⟨w.heap.size, 2, none⟩ = some (.int .i64 0) := by rw [Blk.cell B4]; rfl
  have y0 := Blk.frozen B4 0
  have y1 := Blk.frozen B4 1
  have y2 := Blk.frozen B4 2
  have q2 : w4.cell? ⟨w3.heap.size, 2, none⟩ = some (.int .i64 u) := by rw [Blk.cell a4]; rfl
  have F0 : Fr F w w4 := Fr.trans' (S' := fun k => k = w3.heap.size ∨ F k) (Fr.of_below (HB3.out.alloc HB3.out.size _)) f4 (by rintro i hi (h | h); have := HB3.out.size; omega; exact h)
  have R4 := hide r4
  have F4 := hide F0
  clear a4 r4 f4 F0 B4 A3
  go_wp2_with fail
  refine bodyPost_ret (v := .agg #[.int .i64 er, .int .i64 v, .int .i64 u]) (by simp [results, Try.results19, go_sem, x0, x1, x2]) rfl ⟨v, er, u, rfl, ?_, ?_⟩
  · exact HST.out _ _ _ _ _ R4.out ((((Fr.own _ _ _ _).trans (Fr.own _ _ _ _)).trans (Fr.own _ _ _ _)))
  · exact (((F4.out.setCell (Or.inr (Nat.le_refl _)) _).setCell (Or.inr (Nat.le_refl _)) _).setCell (Or.inr (Nat.le_refl _)) _)

/-- A row's bounds, in memory. -/
def RowT (n : Int) (w : World) (ta : Option Addr) : Prop := takesA n = [] ∧ ta = none ∨ ∃ g, ta = some ⟨g, 0, none⟩ ∧ Blk w g (takesA n).toArray

theorem ktrap_row {n : Int} (h1 : 1 ≤ n) (h2 : n < 17) (w1 : World) : Calls Try.prog 27 #[.int .i64 n] w1 fun e w' => ∃ ta, e = .returned (.tuple #[.agg #[.slice ta (shapeL n).length (shapeL n).length, .func (Fn.func (doesF n)) #[] #[]], .bool true]) ∧ Below w1.heap.size w1 w' ∧ RowT n w' ta := by
  refine (trapOf_all w1 n).mono ?_
  rintro e w' ⟨hb, hr⟩
  rw [if_pos ⟨h1, h2⟩] at hr
  obtain ⟨l1, l2, -, -⟩ := bounds_len h1 h2
  rcases hr with ⟨h3, h4⟩ | ⟨g, h3, h4, h5⟩
  · refine ⟨none, ?_, hb, Or.inl ⟨h3, rfl⟩⟩
    rw [h4, ← l1, l2, h3]
    rfl
  · refine ⟨some ⟨g, 0, none⟩, ?_, hb, Or.inr ⟨g, rfl, h4⟩⟩
    rw [h5, ← l1, l2]

theorem RowT.below {n : Int} {w1 w2 : World} {ta : Option Addr} (h : RowT n w1 ta) (hb : Below w1.heap.size w1 w2) : RowT n w2 ta := by
  rcases h with h | ⟨g, h1, h2⟩
  · exact Or.inl h
  · exact Or.inr ⟨g, h1, h2.below hb h2.lt⟩

theorem ktrap_admits {n : Int} (h1 : 1 ≤ n) (h2 : n < 17) {xs : List Int} (hl : (shapeL n).length = xs.length) (hf : Fits xs) (w1 : World) (f : Value) (ta la : Option Addr) (cap : Nat) (hT : RowT n w1 ta) (ha : xs = [] ∨ ∃ lb lo, la = some ⟨lb, lo, none⟩ ∧ Arg w1 lb lo xs) :
    Calls Try.prog 28 #[.agg #[.slice ta xs.length xs.length, f], .slice la xs.length cap] w1 fun e w' => e = .returned (.bool (mayTo (shapeL n) xs xs.length)) ∧ Below w1.heap.size w1 w' := by
  obtain ⟨l1, l2, l3, l4⟩ := bounds_len h1 h2
  rcases hT with ⟨h3, rfl⟩ | ⟨g, rfl, h3⟩
  · have hx : xs = [] := by
      rw [← l1, l2, h3] at hl
      exact List.length_eq_zero_iff.1 hl.symm
    subst hx
    exact admits_nil w1 f _ _
  · rcases ha with rfl | ⟨lb, lo, rfl, ha⟩
    · have e0 : mayTo (shapeL n) [] 0 = true := rfl
      rw [show ([] : List Int).length = 0 from rfl, e0]
      exact admits_nil w1 f _ _
    · rw [← adm_may h1 h2 xs hl hf]
      refine admits_any w1 f g lb lo cap (boundsL n) xs (l1.trans hl) ?_ h3.lt (fun i b hb => ?_) l3 ha
      · have : (shapeL n).length ≤ 7 := by
          rcases n16 h1 h2 with rfl | rfl | rfl | rfl | rfl | rfl | rfl | rfl | rfl | rfl | rfl | rfl | rfl | rfl | rfl | rfl <;> decide
        omega
      · obtain ⟨c0, c1, c2⟩ := l4 i b hb
        rw [h3.cell, h3.cell, h3.cell]
        refine ⟨?_, ?_, ?_⟩
        · simpa using c0
        · simpa using c1
        · simpa using c2

/-- The kernel behind a call. -/
def KGoes (w : World) (kb : Nat) (M : MS) (ob cb : Nat → Nat) (qp : Nat → Option Nat) (M' : MS) (w' : World) : Prop :=
  (∃ ob' cb' qp', KP w' kb M' ob' cb' qp' ∧ ∀ k, Foot kb M' ob' cb' qp' k → Foot kb M ob cb qp k ∨ w.heap.size ≤ k) ∧ Fr (Foot kb M ob cb qp) w w'

theorem KGoes.still (h : KP w kb M ob cb qp) (hb : Below w.heap.size w w') : KGoes w kb M ob cb qp M w' := ⟨⟨ob, cb, qp, h.below hb, fun _ hk => Or.inl hk⟩, Fr.of_below hb⟩

theorem p_trap (h : KP w kb M ob cb qp) (hI : MInv M) (n : Int) (xs : List Int) (la : Option Addr) (cap : Nat) (hf : Fits xs) (ha : xs = [] ∨ ∃ lb lo, la = some ⟨lb, lo, none⟩ ∧ Arg w lb lo xs) :
    Calls Try.prog 19 #[.pointer (some ⟨kb, 0, none⟩), .int .i64 n, .slice la xs.length cap] w fun e w' => e = .returned (M.out n xs) ∧ KGoes w kb M ob cb qp (M.trap n xs).2 w' := by
  unfold MS.out MS.trap
  cases hc : M.cur with
  | none => exact (ktrap_idle h hc n _).mono (fun e w' ⟨he, hb⟩ => ⟨he, KGoes.still h hb⟩)
  | some me =>
    dsimp only
    by_cases hn : 1 ≤ n ∧ n < 17
    rotate_left
    · rw [if_pos (by omega)]
      refine (ktrap_none h hc n _ (fun w1 => (trapOf_all w1 n).mono ?_)).mono (fun e w' ⟨he, hb⟩ => ⟨he, KGoes.still h hb⟩)
      rintro e w' ⟨hb, hr⟩
      rw [if_neg hn] at hr
      exact ⟨hr, hb⟩
    obtain ⟨h1, h2⟩ := hn
    by_cases hl : (shapeL n).length = xs.length
    rotate_left
    · rw [if_pos (Or.inr (Or.inr hl))]
      exact (ktrap_len h hc n la xs.length cap (shapeL n).length (doesF n) (fun e => hl e.symm) (fun w1 => (ktrap_row h1 h2 w1).mono (fun e w' ⟨ta, he, hb, _⟩ => ⟨ta, he, hb⟩))).mono (fun e w' ⟨he, hb⟩ => ⟨he, KGoes.still h hb⟩)
    rw [if_neg (by rintro (h3 | h3 | h3); omega; omega; exact h3 hl)]
    have hrow := ktrap_row h1 h2
    rw [hl] at hrow
    have hal : ∀ W, Below w.heap.size w W → xs = [] ∨ ∃ lb lo, la = some ⟨lb, lo, none⟩ ∧ Arg W lb lo xs := fun W hb =>
      ha.imp id (fun ⟨lb, lo, e, hA⟩ => ⟨lb, lo, e, hA.below hb hA.lt⟩)
    cases hm : mayTo (shapeL n) xs xs.length with
    | false =>
      rw [if_pos rfl]
      refine (ktrap_arg h hc n la xs.length cap (doesF n) (RowT n) hrow (fun w1 w2 ta hT hb => hT.below hb) (fun w1 ta hT hb => ?_)).mono (fun e w' ⟨he, hb⟩ => ⟨he, KGoes.still h hb⟩)
      have := ktrap_admits h1 h2 hl hf w1 (.func (Fn.func (doesF n)) #[] #[]) ta la cap hT (hal w1 hb)
      rw [hm] at this
      exact this
    | true =>
      rw [if_neg (by decide)]
      have hargs := args_of h1 h2 hl hm
      have key := ktrap_ok h hc n la xs.length cap (doesF n) (RowT n) (Foot kb M ob cb qp)
        (fun W v er u => v = (if (M.ask me n xs).2 = 0 then M.val me n xs else 0) ∧ er = (M.ask me n xs).2 ∧ u = (M.ask me n xs).1 ∧ ∃ ob' cb' qp', KP W kb (if (M.ask me n xs).2 = 0 then M.next me n xs else M) ob' cb' qp' ∧ ∀ k, Foot kb (if (M.ask me n xs).2 = 0 then M.next me n xs else M) ob' cb' qp' k → Foot kb M ob cb qp k ∨ w.heap.size < k)
        hrow (fun w1 w2 ta hT hb => hT.below hb) (fun w1 ta hT hb => by
          have := ktrap_admits h1 h2 hl hf w1 (.func (Fn.func (doesF n)) #[] #[]) ta la cap hT (hal w1 hb)
          rw [hm] at this
          exact this) (callF n h1 h2) (fun w1 rb hq hb hrb => ?_) (fun hF => by have := h.foot_lt hF; omega) (fun W W2 v er u hR hfr => ?_)
      · refine key.mono ?_
        rintro e w' ⟨v, er, u, rfl, ⟨rfl, rfl, rfl, ob', cb', qp', hk, hg⟩, hfr⟩
        by_cases hz : (M.ask me n xs).2 = 0
        · rw [if_pos hz] at hk hg
          simp only [if_pos hz]
          rw [hz]
          exact ⟨by first | rfl | trivial, ⟨ob', cb', qp', hk, fun k hk => (hg k hk).imp id Nat.le_of_lt⟩, hfr⟩
        · rw [if_neg hz] at hk hg
          simp only [if_neg hz]
          exact ⟨by first | rfl | trivial, ⟨ob', cb', qp', hk, fun k hk => (hg k hk).imp id Nat.le_of_lt⟩, hfr⟩
      · have hal1 : xs = [] ∨ ∃ lb lo, la = some ⟨lb, lo, none⟩ ∧ Arg w1 lb lo xs ∧ lb ≠ rb := ha.imp id (fun ⟨lb, lo, e, hA⟩ => ⟨lb, lo, e, hA.below hb hA.lt, by have := hA.lt; omega⟩)
        refine (does_all hq hI hargs la cap hal1).mono ?_
        rintro e w' ⟨he, hr, ⟨ob', cb', qp', hk, hg⟩, hfr⟩
        refine ⟨_, _, _, he, hr, ⟨rfl, rfl, rfl, ob', cb', qp', hk, fun k hk => (hg k hk).imp id (fun h => ?_)⟩, hfr⟩
        have := hq.lt
        omega
      · obtain ⟨a1, a2, a3, ob', cb', qp', hk, hg⟩ := hR
        refine ⟨a1, a2, a3, ob', cb', qp', hk.fr hfr (fun k hk' e => ?_), hg⟩
        rcases hg k hk' with hf' | hf'
        · have := h.foot_lt hf'
          omega
        · omega
end

end Go.Proofs.Ytloppmepfkkblaa
end

section
/- What the program's 'Now', 'Tick', 'Boot' do. -/
open Go Go.Proofs Go.RowKit
namespace Go.Proofs.Ytloppmepfkkblaa

section
variable {w w' : World} {kb : Nat} {M : MS} {ob cb : Nat → Nat} {qp : Nat → Option Nat}

theorem foot_tick {n : Nat} {k : Nat} (h : Foot kb { M with ph := n } ob cb qp k) : Foot kb M ob cb qp k := h

theorem p_tick (h : KP w kb M ob cb qp) :
    Calls Try.prog 15 #[.pointer (some ⟨kb, 0, none⟩)] w fun e w' => e = .returned (.tuple #[]) ∧ KGoes w kb M ob cb qp M.tick w' := by
  have p0 := h.phase
  have f0 := h.frozen 40
  have hp8 : (M.ph : Int) < 8 := by have := h.ph8; omega
  have H := hide h
  clear h
  go_enter Try.func15, Try.ntmps15
  go_wp2
  go_end0
  have e1 : ((M.ph : Int) + 1) % 8 = (((M.ph + 1) % 8 : Nat) : Int) := by omega
  rw [e1]
  exact ⟨rfl, ⟨ob, cb, qp, H.out.putPhase (by omega), fun k hk => Or.inl hk⟩, (Fr.own _ _ _ _).mono (fun k _ e => Or.inl e)⟩

set_option maxHeartbeats 2000000 in
theorem know_no (h : KP w kb M ob cb qp) (hc : M.cur = none) :
    Calls Try.prog 18 #[.pointer (some ⟨kb, 0, none⟩)] w fun e w' => e = .returned (nowV M.ph (-1) 0) ∧ Below w.heap.size w w' := by
  have CU := fun w' hb => kcurrent (h.below (w' := w') hb)
  rw [hc] at CU
  have HCU := hide CU
  have HK : Hid (∀ w', Below w.heap.size w w' → w'.cell? ⟨kb, 40, none⟩ = some (.int .i64 M.ph)) := fun w' hb => (h.below hb).phase
  clear h hc CU
  go_enter Try.func18, Try.ntmps18
  go_wp2_with fail
  refine (HCU.out _ ((Below.refl _ _).alloc (Nat.le_refl _) _)).mono ?_
  rintro e w1 ⟨rfl, hb⟩
  simp only [Option.map, ptrV]
  have B1 := hide (Blk.zero3 hb)
  have HB := hide (Below.first hb)
  have p0 := HK.out w1 HB.out
  have x0 : w1.cell? ⟨w.heap.size, 0, none⟩ = some (.int .i64 0) := by rw [Blk.cell B1.out]; rfl
  have x1 : w1.cell? ⟨w.heap.size, 1, none⟩ = some (.int .i64 0) := by rw [Blk.cell B1.out]; rfl
  have x2 : w1.cell? ⟨w.heap.size, 2, none⟩ = some (.int .i64 0) := by rw [Blk.cell B1.out]; rfl
  have y0 := Blk.frozen B1.out 0
  have y1 := Blk.frozen B1.out 1
  have y2 := Blk.frozen B1.out 2
  clear hb
  go_wp2_with fail
  refine bodyPost_ret (v := .agg #[.int .i64 M.ph, .int .i64 (-1), .int .i64 0]) (by simp [results, Try.results18, go_sem, x0, x1, x2]) rfl ⟨rfl, ?_⟩
  exact ((HB.out.setCell (by simp) _).setCell (by simp) _).setCell (by simp) _

set_option maxHeartbeats 2000000 in
theorem know_yes (h : KP w kb M ob cb qp) {me : Nat} (hc : M.cur = some me) :
    Calls Try.prog 18 #[.pointer (some ⟨kb, 0, none⟩)] w fun e w' => e = .returned (nowV M.ph me (M.S me).label) ∧ Below w.heap.size w w' := by
  have hl := h.live h.ph8 (cur_lq hc)
  obtain ⟨hm, hk, -⟩ := hl
  have CU := fun w' hb => kcur_yes (h.below (w' := w') hb) hc
  have HCU := hide CU
  have HK : Hid (∀ w', Below w.heap.size w w' → w'.cell? ⟨kb, 40, none⟩ = some (.int .i64 M.ph) ∧ w'.cell? ⟨ob me, 0, none⟩ = some (.int .i64 me) ∧ w'.cell? ⟨ob me, 1, none⟩ = some (.int .i64 (M.S me).kind) ∧ w'.cell? ⟨ob me, 2, none⟩ = some (.int .i64 (M.S me).label)) := fun w' hb =>
    ⟨(h.below hb).phase, (h.below hb).base hm (by omega)⟩
  clear h hc CU hk
  go_enter Try.func18, Try.ntmps18
  go_wp2_with fail
  refine (HCU.out _ ((Below.refl _ _).alloc (Nat.le_refl _) _)).mono ?_
  rintro e w1 ⟨rfl, hb⟩
  have B1 := hide (Blk.zero3 hb)
  have HB := hide (Below.first hb)
  have hz1 : w.heap.size < w1.heap.size := by have := hb.size; simp at this; omega
  have HX : Hid (∀ w', Below w1.heap.size w1 w' → w'.cell? ⟨w.heap.size, 0, none⟩ = some (.int .i64 0) ∧ w'.cell? ⟨w.heap.size, 1, none⟩ = some (.int .i64 0) ∧ w'.cell? ⟨w.heap.size, 2, none⟩ = some (.int .i64 0) ∧ w'.frozen? ⟨w.heap.size, 0, none⟩ = false ∧ w'.frozen? ⟨w.heap.size, 1, none⟩ = false ∧ w'.frozen? ⟨w.heap.size, 2, none⟩ = false) := fun w' hb' => by
    have hB := Blk.below B1.out hb' hz1
    exact ⟨by rw [hB.cell]; rfl, by rw [hB.cell]; rfl, by rw [hB.cell]; rfl, hB.frozen 0, hB.frozen 1, hB.frozen 2⟩
  clear hb
  go_wp2_with fail
  go_region_held3 (fun w' => w'.cell? ⟨kb, 40, none⟩ = some (.int .i64 M.ph) ∧ w'.cell? ⟨ob me, 0, none⟩ = some (.int .i64 me) ∧ w'.cell? ⟨ob me, 1, none⟩ = some (.int .i64 (M.S me).kind) ∧ w'.cell? ⟨ob me, 2, none⟩ = some (.int .i64 (M.S me).label))
    ((refine HK.out _ ?_; repeat (first | exact HB.out | refine Below.drew ?_ | refine Below.setCell ?_ (by exact Nat.le_refl _) _ | (apply below_next; assumption))))
    (first | (go_at_call 25; refine (place_any _ _ _ _).mono ?_; rintro e w2 ⟨rfl, hb2⟩; have hx := HX.out w2 (by repeat (first | exact Below.refl _ _ | refine Below.drew ?_ | (apply below_next; assumption))); obtain ⟨x0, x1, x2, y0, y1, y2⟩ := hx) | (go_at_call 26; refine (labelOf_any _ _ _ _).mono ?_; rintro e w2 ⟨rfl, hb3⟩; have hx := HX.out w2 (by repeat (first | exact Below.refl _ _ | refine Below.drew ?_ | (apply below_next; assumption))); obtain ⟨x0, x1, x2, y0, y1, y2⟩ := hx))
  all_goals
    go_wp2_with fail
    refine bodyPost_ret (v := .agg #[.int .i64 M.ph, .int .i64 me, .int .i64 (M.S me).label]) (by simp [results, Try.results18, go_sem, *]) rfl ⟨rfl, ?_⟩
    repeat (first | exact HB.out | refine Below.drew ?_ | refine Below.setCell ?_ (by exact Nat.le_refl _) _ | (apply below_next; assumption))

theorem p_now (h : KP w kb M ob cb qp) :
    Calls Try.prog 18 #[.pointer (some ⟨kb, 0, none⟩)] w fun e w' => e = .returned M.now ∧ Below w.heap.size w w' := by
  unfold MS.now
  cases hc : M.cur with
  | none => exact know_no h hc
  | some me => exact know_yes h hc
end

end Go.Proofs.Ytloppmepfkkblaa
end

section
/- What the program's 'Boot' does. -/
open Go Go.Proofs Go.RowKit
namespace Go.Proofs.Ytloppmepfkkblaa

def pzeroV (n : Nat) : Value := if n < 32 then .nilIface else if n < 40 then .pointer none else .int .i64 0

def pzeroA : Array Value := #[.nilIface, .nilIface, .nilIface, .nilIface, .nilIface, .nilIface, .nilIface, .nilIface, .nilIface, .nilIface, .nilIface, .nilIface, .nilIface, .nilIface, .nilIface, .nilIface, .nilIface, .nilIface, .nilIface, .nilIface, .nilIface, .nilIface, .nilIface, .nilIface, .nilIface, .nilIface, .nilIface, .nilIface, .nilIface, .nilIface, .nilIface, .nilIface, .pointer none, .pointer none, .pointer none, .pointer none, .pointer none, .pointer none, .pointer none, .pointer none, .int .i64 0]
theorem pzero_cells : pzeroA.toList = (List.range 41).map pzeroV := by kernel_rfl

theorem pzero_at (n : Nat) (hn : n < 41) : pzeroA[n]? = some (pzeroV n) := by
  rw [← Array.getElem?_toList, pzero_cells]
  simp [hn]

theorem pzero_size : pzeroA.size = 41 := by
  rw [← Array.length_toList, pzero_cells]; simp


/-- A kernel of nothing. -/
def MS.none' : MS := ⟨fun _ => fth, fun _ => [], fun _ => none, 0⟩
def rootK : Th := ⟨1, 0, 0, none, 0, 0, 0, false, 1, 32, 0, 8⟩
def firstK : Th := ⟨2, 0, 0, none, 0, 0, 255, true, 0, 0, 0, 0⟩
theorem rootK_wf : rootK.wf := by refine ⟨?_, ?_, ?_, ?_, ?_, ?_⟩ <;> simp [rootK]
theorem firstK_wf : firstK.wf := by refine ⟨?_, ?_, ?_, ?_, ?_, ?_⟩ <;> simp [firstK]

theorem KP.zero {w : World} {b : Nat} (h : Blk w b pzeroA) : KP w b MS.none' (fun _ => 0) (fun _ => 0) (fun _ => none) := by
  refine ⟨⟨_, h, pzero_size, fun i hi => ?_, fun q hq => ?_, ?_⟩, fun i _ hk => absurd rfl hk, fun i _ hk => (by cases hk), fun _ _ => Or.inl rfl, fun i _ _ _ hk _ _ => absurd rfl hk, fun i _ _ _ hk _ _ => (by cases hk), fun i _ hk => absurd rfl hk, fun _ _ => rfl, by show (0 : Nat) < 8; omega, fun i _ hk => (by cases hk), fun i _ hk => (by cases hk), fun _ _ => fth_wf⟩
  · rw [pzero_at i (by omega)]
    simp [pzeroV, hi, obV, MS.none', fth]
  · rw [pzero_at _ (by omega)]
    unfold pzeroV
    rw [if_neg (by omega), if_pos (by omega)]
    rfl
  · rw [pzero_at 40 (by omega)]; rfl

/-- What the quanta have, ahead of q. -/
def lqTo (q : Nat) : Nat → Option Nat := fun i => if i < q then some 1 else none
def qpTo (g q : Nat) : Nat → Option Nat := fun i => if i < q then some g else none

theorem qpTo_succ (g q : Nat) : upd (qpTo g q) q (some g) = qpTo g (q + 1) := by
  funext i
  unfold upd qpTo
  by_cases h : i = q
  · rw [if_pos h, if_pos (by omega)]
  · rw [if_neg h]
    by_cases h2 : i < q
    · rw [if_pos h2, if_pos (by omega)]
    · rw [if_neg h2, if_neg (by omega)]

/-- Two objects and k quanta. -/
def bootM (k : Nat) : MS := ⟨upd (upd (fun _ => fth) 0 rootK) 1 firstK, fun _ => [], lqTo k, 0⟩

theorem bootM_succ (k : Nat) : (bootM k).turn k (some 1) = bootM (k + 1) := by
  unfold bootM MS.turn
  congr 1
  exact qpTo_succ 1 k
theorem bootM_zero : (MS.none'.put 0 rootK []).put 1 firstK [] = bootM 0 := by
  refine MS.ext' (fun i => rfl) (fun i => ?_) (fun q => ?_) rfl
  · show upd (upd (fun _ => []) 0 []) 1 [] i = []
    unfold upd; split <;> (try split) <;> rfl
  · show none = lqTo 0 q
    unfold lqTo; rw [if_neg (by omega)]
theorem bootM_boot : bootM 8 = MS.boot := by
  refine MS.ext' (fun i => ?_) (fun i => rfl) (fun q => rfl) rfl
  show upd (upd (fun _ => fth) 0 rootK) 1 firstK i = if i = 0 then rootK else if i = 1 then firstK else fth
  unfold upd
  by_cases e : i = 1
  · rw [if_pos e, if_neg (by omega), if_pos e]
  · rw [if_neg e]
    by_cases e0 : i = 0
    · rw [if_pos e0, if_pos e0]
    · rw [if_neg e0, if_neg e0, if_neg e]

set_option maxHeartbeats 2000000 in
theorem p_boot (w : World) :
    Calls Try.prog 29 #[] w fun e w' => e = .returned (.pointer (some ⟨w.heap.size, 0, none⟩)) ∧ (∃ ob cb qp, KP w' w.heap.size MS.boot ob cb qp ∧ ∀ k, Foot w.heap.size MS.boot ob cb qp k → w.heap.size ≤ k) ∧ Below w.heap.size w w' := by
  go_enter Try.func29, Try.ntmps29
  go_wp2_with fail
  have B0 : Blk ((w.alloc (.cells pzeroA 66)).alloc (.cells #[.int .i64 0, .int .i64 1, .int .i64 0, .int .i64 1, .int .i64 32, .int .i64 0, .int .i64 8] 97)) w.heap.size pzeroA := (Blk.new w _ _).alloc _
  have P0 := hide (KP.zero B0)
  have BR : Blk ((w.alloc (.cells pzeroA 66)).alloc (.cells #[.int .i64 0, .int .i64 1, .int .i64 0, .int .i64 1, .int .i64 32, .int .i64 0, .int .i64 8] 97)) (w.heap.size + 1) #[.int .i64 0, .int .i64 1, .int .i64 0, .int .i64 1, .int .i64 32, .int .i64 0, .int .i64 8] := Blk.new' (by simp)
  have F0 : Below w.heap.size w ((w.alloc (.cells pzeroA 66)).alloc (.cells #[.int .i64 0, .int .i64 1, .int .i64 0, .int .i64 1, .int .i64 32, .int .i64 0, .int .i64 8] 97)) := ((Below.refl _ _).alloc (Nat.le_refl _) _).alloc (by simp) _
  have PP := kput _ w.heap.size (w.heap.size + 1) 0 1 0 .nilIface (by omega) (by omega) P0.out.lt BR.lt (by omega) ((BR.cell 0).trans rfl) ((BR.cell 1).trans rfl) ((BR.cell 2).trans rfl) (P0.out.slot_nil (i := 0) (by omega) rfl) (P0.out.frozen 0)
  refine PP.mono ?_
  clear PP
  rintro e w2 ⟨rfl, w1, hb1, rfl⟩
  have P1 := hide ((P0.out.below hb1).putNew (s := 0) (g := w.heap.size + 1) (c := 0) (by omega) rfl rootK [] (BR.below hb1 BR.lt) (by
    rintro (h | ⟨i, _, hk, _⟩ | ⟨i, _, hk, _⟩ | ⟨q, _, hq⟩)
    · omega
    · exact hk rfl
    · cases hk
    · cases hq) (Or.inl rfl) rootK_wf (by intro h; simp [rootK] at h) (by intro h; simp [rootK] at h))
  have hs1 : w.heap.size + 2 ≤ w1.heap.size := by have := hb1.size; simp at this; omega
  have F1 : Hid (Below w.heap.size w (w1.setCell ⟨w.heap.size, 0, none⟩ (obV rootK (w.heap.size + 1)))) := (F0.trans (hb1.mono (by simp; omega))).setCell (Nat.le_refl _) _
  have hz : (w1.setCell ⟨w.heap.size, 0, none⟩ (obV rootK (w.heap.size + 1))).heap.size = w1.heap.size := by simp [World.setCell]
  have eo : obV rootK (w.heap.size + 1) = .iface 84 (.pointer (some ⟨w.heap.size + 1, 0, none⟩)) := rfl
  rw [eo] at P1 F1 hz
  rw [tyOf1]
  clear B0 P0 BR F0 hb1 eo
  generalize w1.setCell ⟨w.heap.size, 0, none⟩ (.iface 84 (.pointer (some ⟨w.heap.size + 1, 0, none⟩))) = w2 at *
  have hs2 : w.heap.size + 2 ≤ w2.heap.size := by omega
  clear hz hs1
  go_wp2_with fail
  have BT : Blk (w2.alloc (.cells #[.int .i64 1, .int .i64 2, .int .i64 0, .int .i64 255, .bool true] 72)) w2.heap.size #[.int .i64 1, .int .i64 2, .int .i64 0, .int .i64 255, .bool true] := Blk.new w2 _ _
  have P2 := hide (P1.out.below (w' := w2.alloc (.cells #[.int .i64 1, .int .i64 2, .int .i64 0, .int .i64 255, .bool true] 72)) ((Below.refl _ _).alloc (Nat.le_refl _) _))
  have hslot : (w2.alloc (.cells #[.int .i64 1, .int .i64 2, .int .i64 0, .int .i64 255, .bool true] 72)).cell? ⟨w.heap.size, 1, none⟩ = some .nilIface := P2.out.slot_nil (i := 1) (by omega) rfl
  have PP := kput _ w.heap.size w2.heap.size 1 2 0 .nilIface (by omega) (by omega) P2.out.lt BT.lt (by omega) ((BT.cell 0).trans rfl) ((BT.cell 1).trans rfl) ((BT.cell 2).trans rfl) hslot (P2.out.frozen 1)
  refine PP.mono ?_
  clear PP hslot
  rintro e w4 ⟨rfl, w3, hb3, rfl⟩
  have hfoot : ¬ Foot w.heap.size (MS.none'.put 0 rootK []) (upd (fun _ => 0) 0 (w.heap.size + 1)) (upd (fun _ => 0) 0 0) (fun _ => none) w2.heap.size := by
    rintro (h | ⟨i, _, hk, ho⟩ | ⟨i, _, hk, ho⟩ | ⟨q, _, hq⟩)
    · omega
    · change (upd (fun _ => fth) 0 rootK i).kind ≠ 0 at hk
      by_cases e : i = 0
      · subst e; rw [upd_same] at ho; omega
      · rw [upd_ne _ _ e] at hk; exact hk rfl
    · change (upd (fun _ => fth) 0 rootK i).kind = 4 at hk
      by_cases e : i = 0
      · subst e; rw [upd_same] at hk; cases hk
      · rw [upd_ne _ _ e] at hk; cases hk
    · cases hq
  have P3 := hide ((P2.out.below hb3).putNew (s := 1) (g := w2.heap.size) (c := 0) (by omega) rfl firstK [] (BT.below hb3 BT.lt) hfoot (Or.inr (Or.inl rfl)) firstK_wf (by intro h; simp [firstK] at h) (by intro h; simp [firstK] at h))
  have F3 : Hid (Below w.heap.size w (w3.setCell ⟨w.heap.size, 1, none⟩ (obV firstK w2.heap.size))) := ((F1.out.alloc F1.out.size _).trans (hb3.mono (by simp; omega))).setCell (Nat.le_refl _) _
  have eo : obV firstK w2.heap.size = .iface 63 (.pointer (some ⟨w2.heap.size, 0, none⟩)) := rfl
  rw [eo] at P3 F3
  rw [bootM_zero] at P3
  rw [tyOf2]
  generalize hg : w2.heap.size = g at *
  clear P2 BT hb3 eo hfoot hg P1 F1
  generalize w3.setCell ⟨w.heap.size, 1, none⟩ (.iface 63 (.pointer (some ⟨g, 0, none⟩))) = w4 at *
  go_wp2_with fail
  go_loopw [21] (fun q w' => ∃ k : Nat, k ≤ 8 ∧ q = .int .i64 k ∧ KP w' w.heap.size (bootM k) (upd (upd (fun _ => 0) 0 (w.heap.size + 1)) 1 g) (upd (upd (fun _ => 0) 0 0) 1 0) (qpTo g k) ∧ Below w.heap.size w w') (fun q _ => 8 - (intOf q).toNat)
  case atStart =>
    refine ⟨0, by omega, rfl, ?_, F3.out⟩
    have e : (fun _ => none : Nat → Option Nat) = qpTo g 0 := by funext i; unfold qpTo; rw [if_neg (by omega)]
    rw [← e]
    exact P3.out
  case round =>
    obtain ⟨k, hk, rfl, hp, hb⟩ := hrel
    by_cases hk8 : k < 8
    · have hq := hp.quant hk8
      have hfr := hp.frozen (32 + k)
      have hk8i : (k : Int) < 8 := by omega
      have H1 := hp.putTurn (q := k) hk8 (some 1) (fun s hs => by injection hs with hs; subst hs; exact ⟨by omega, rfl⟩)
      change KP (wr.setCell ⟨w.heap.size, 32 + k, none⟩ (.pointer (some ⟨g, 0, none⟩))) _ _ _ _ (upd (qpTo g k) k (some g)) at H1
      rw [bootM_succ, qpTo_succ] at H1
      have H2 := hide H1
      have HB := hide hb
      have hqn : qpTo g k k = none := by unfold qpTo; rw [if_neg (by omega)]
      rw [hqn] at hq
      simp only [ptrV] at hq
      clear hp hb H1 hqn
      go_wp2_with fail
      exact ⟨⟨k + 1, by omega, by go_num, H2.out, HB.out.setCell (by simp) _⟩, by simp [intOf]; omega⟩
    · have : k = 8 := by omega
      subst this
      rw [bootM_boot] at hp
      have HP := hide hp
      have HB := hide hb
      clear hp hb
      go_wp2_with fail
      go_ret
      refine ⟨rfl, ⟨_, _, _, HP.out, ?_⟩, HB.out⟩
      rw [← bootM_boot]
      rintro x (h | ⟨i, _, hk, ho⟩ | ⟨i, _, hk, ho⟩ | ⟨q, hq, ho⟩)
      · omega
      · by_cases e : i = 1
        · subst e; rw [upd_same] at ho; omega
        · rw [upd_ne _ _ e] at ho
          by_cases e0 : i = 0
          · subst e0; rw [upd_same] at ho; omega
          · exfalso
            change (upd (upd (fun _ => fth) 0 rootK) 1 firstK i).kind ≠ 0 at hk
            rw [upd_ne _ _ e, upd_ne _ _ e0] at hk
            exact hk rfl
      · exfalso
        change (upd (upd (fun _ => fth) 0 rootK) 1 firstK i).kind = 4 at hk
        by_cases e : i = 1
        · subst e; rw [upd_same] at hk; cases hk
        · rw [upd_ne _ _ e] at hk
          by_cases e0 : i = 0
          · subst e0; rw [upd_same] at hk; cases hk
          · rw [upd_ne _ _ e0] at hk; cases hk
      · unfold qpTo at ho
        rw [if_pos hq] at ho
        injection ho with ho
        omega

end Go.Proofs.Ytloppmepfkkblaa
end
