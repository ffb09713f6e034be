/- What the program's objects tell of themselves: 'inside'. -/
import Derived.StillTailTactics
import Derived.Test.YtloppmepfkkblaaGreatJKAdmitsToKTell
import Derived.Test.YtloppmepfkkblaaGreatJKReachToKComm

section
open Go Go.Conc Go.Proofs Go.RowKit
namespace Go.Proofs.YtloppmepfkkblaaGreat

section
variable {w w' : World} {kb : Nat} {M : MS} {ob cb : Nat → Nat} {qp : Nat → Option Nat}

/-- Numbers that lie somewhere. -/
def Lies (w : World) (v : Value) (ys : List Int) : Prop := ∃ lb lo c, v = .slice (some ⟨lb, lo, none⟩) ys.length c ∧ ∀ j y, ys[j]? = some y → w.cell? ⟨lb, lo + j, none⟩ = some (.int .i64 y)

set_option maxRecDepth 100000 in
set_option maxHeartbeats 1000000 in
theorem inside_cont (h : KP w kb M ob cb qp) (s : Nat) (hs : s < 32) (hk : (M.S s).kind = 1) :
    Calls Tryz.prog 122 #[.pointer (some ⟨ob s, 0, none⟩)] w fun e w' => ∃ v, e = .returned v ∧ Lies w' v (bodyM M s) ∧ Below w.heap.size w w' := by
  obtain ⟨c3, c4, c5, c6⟩ := h.cont hs hk
  have eb : bodyM M s = [(M.S s).A, (M.S s).B, (M.S s).G, (M.S s).H] := by unfold bodyM; rw [if_pos hk]
  rw [eb]
  clear h eb hk
  go_enter Tryz.func122, Tryz.ntmps122
  go_wp2_with fail
  go_still_tail 20, (by kernel_rfl)
  go_wp2_with fail
  go_ret
  refine ⟨_, rfl, ⟨w.heap.size, 0, 4, rfl, fun j y hy => ?_⟩, ((Below.refl _ _).alloc (Nat.le_refl _) _).drew⟩
  rw [Nat.zero_add, ((Blk.new w _ _).drew).cell]
  rcases j with _ | _ | _ | _ | j
  all_goals first | (simp at hy; done) | (simp at hy; subst hy; rfl)

set_option maxHeartbeats 1000000 in
theorem inside_thread (h : KP w kb M ob cb qp) (s : Nat) (hs : s < 32) (hk : (M.S s).kind = 2) :
    Calls Tryz.prog 120 #[.pointer (some ⟨ob s, 0, none⟩)] w fun e w' => ∃ v, e = .returned v ∧ Lies w' v (bodyM M s) ∧ Below w.heap.size w w' := by
  obtain ⟨c3, c4⟩ := h.thr hs hk
  have eb : bodyM M s = [((M.S s).owns : Int), if (M.S s).awake = true then 1 else 0] := by unfold bodyM; rw [if_neg (by omega), if_pos hk]
  rw [eb]
  clear h eb hk
  generalize (M.S s).awake = aw at *
  cases aw with
  | true =>
    go_enter Tryz.func120, Tryz.ntmps120
    go_wp2_with fail
    go_ret
    refine ⟨_, rfl, ⟨w.heap.size, 0, 2, rfl, fun j y hy => ?_⟩, (Below.refl _ _).alloc (Nat.le_refl _) _⟩
    rw [Nat.zero_add, (Blk.new w _ _).cell]
    rcases j with _ | _ | j
    all_goals first | (simp at hy; done) | (simp at hy; subst hy; rfl)
  | false =>
    go_enter Tryz.func120, Tryz.ntmps120
    go_wp2_with fail
    go_ret
    refine ⟨_, rfl, ⟨w.heap.size, 0, 2, rfl, fun j y hy => ?_⟩, (Below.refl _ _).alloc (Nat.le_refl _) _⟩
    rw [Nat.zero_add, (Blk.new w _ _).cell]
    rcases j with _ | _ | j
    all_goals first | (simp at hy; done) | (simp at hy; subst hy; rfl)

set_option maxHeartbeats 1000000 in
theorem inside_seg (h : KP w kb M ob cb qp) (s : Nat) (hs : s < 32) (hk : (M.S s).kind = 3) :
    Calls Tryz.prog 123 #[.pointer (some ⟨ob s, 0, none⟩)] w fun e w' => ∃ v, e = .returned v ∧ Lies w' v (bodyM M s) ∧ Below w.heap.size w w' := by
  have eb : bodyM M s = M.ws s := by unfold bodyM; rw [if_neg (by omega), if_neg (by omega), if_pos hk]
  have hl := h.segs s hs hk
  have HW : Hid (∀ j y, (M.ws s)[j]? = some y → w.cell? ⟨ob s, 3 + j, none⟩ = some (.int .i64 y)) := fun j y hy => h.word hs hk hy
  rw [eb]
  clear h eb hk
  have HL := hide hl
  clear hl
  go_enter Tryz.func123, Tryz.ntmps123
  go_wp2_with fail
  go_ret
  exact ⟨_, rfl, ⟨ob s, 3, 8, by rw [HL.out]; rfl, HW.out⟩, Below.refl _ _⟩

theorem run_mv (f : Operand → Value) (W : World) (d : Option Nat) (x : Operand) (ty : Nat) (ps : String) (af : Array Edge) :
    (execOp f { dst := d, op := Op.move x, type := ty, pos := ps, after := af, guard := none }).run Tryz.prog W = .ok (.value (f x)) W := by
  simp [execOp, go_sem]
theorem run_as (f : Operand → Value) (W : World) (d : Option Nat) (x : Operand) (ty : Nat) (ps : String) (af : Array Edge) :
    (execOp f { dst := d, op := Op.assign x, type := ty, pos := ps, after := af, guard := none }).run Tryz.prog W = .ok (.value (f x)) W := by
  simp [execOp, go_sem]
theorem run_nc (f : Operand → Value) (W : World) (d : Option Nat) (x : Operand) (g ty : Nat) (ps : String) (af : Array Edge) (hx : f x = .pointer (some ⟨g, 0, none⟩)) :
    (execOp f { dst := d, op := Op.nilCheck x, type := ty, pos := ps, after := af, guard := none }).run Tryz.prog W = .ok (.value (.pointer (some ⟨g, 0, none⟩))) W := by
  simp [execOp, go_sem, hx]
theorem run_fa (f : Operand → Value) (W : World) (d : Option Nat) (x : Operand) (g ty : Nat) (ps : String) (af : Array Edge) (hx : f x = .pointer (some ⟨g, 0, none⟩)) :
    (execOp f { dst := d, op := Op.fieldAddr 148 x 1, type := ty, pos := ps, after := af, guard := none }).run Tryz.prog W = .ok (.value (.pointer (some ⟨g, 3, none⟩))) W := by
  simp [execOp, go_sem, hx]
theorem run_lc (f : Operand → Value) (W : World) (d : Option Nat) (x : Operand) (g c ty : Nat) (ps : String) (af : Array Edge) (hx : f x = .pointer (some ⟨g, 3, none⟩)) (hc : W.cell? ⟨g, 3, none⟩ = some (.chan (some c))) :
    (execOp f { dst := d, op := Op.load 146 x, type := ty, pos := ps, after := af, guard := none }).run Tryz.prog W = .ok (.value (.chan (some c))) W := by
  simp [execOp, go_sem, hx, hc]
theorem run_rv (f : Operand → Value) (W : World) (d : Option Nat) (x : Operand) (c ty : Nat) (ps : String) (af : Array Edge) (hx : f x = .chan (some c)) :
    (execOp f { dst := d, op := Op.recv 146 x false, type := ty, pos := ps, after := af, guard := none }).run Tryz.prog W = .ok (.comm #[rcase c (.int .i64 0)] true (.recv false)) W := by
  simp [execOp, go_sem, hx, rcase]
theorem run_sd (f : Operand → Value) (W : World) (d : Option Nat) (x y : Operand) (c ty : Nat) (v : Value) (ps : String) (af : Array Edge) (hx : f x = .chan (some c)) (hy : f y = v) :
    (execOp f { dst := d, op := Op.send x y, type := ty, pos := ps, after := af, guard := none }).run Tryz.prog W = .ok (.comm #[scase c v (.tuple #[])] true .send) W := by
  simp [execOp, go_sem, hx, hy, scase]

section
variable {P : Program} {ops : Array Oper} {Q : Exit → Act → World → Prop} {a : Act} {w : World} {i : Nat} {rest : List Nat} {o : Oper} {d : Nat} {c cap s r : Nat} {buf : Array Value} {z v : Value} {tm closed : Bool}
theorem sv_value (ho : ops[i]? = some o) (hw : Region.wanted o (yielded ops a.tmps) = true) (hd : o.dst = some d) {w' : World} (hr : (execOp a.eval o).run P w = .ok (.value v) w') (h : SemOps P ops Q rest (a.put (some d) v) w') : SemOps P ops Q (i :: rest) a w :=
  sem_value ho hw hr (by rw [hd]; exact h)
theorem sv_recv (ho : ops[i]? = some o) (hw : Region.wanted o (yielded ops a.tmps) = true) (hd : o.dst = some d) (hr : (execOp a.eval o).run P w = .ok (.comm #[rcase c z] true (.recv false)) w)
    (hc : w.heap[c]? = some (.chan cap buf closed s r tm)) (hsome : 0 < buf.size) (h : SemOps P ops Q rest (a.put (some d) (buf.getD 0 undef)) (w.setChan c cap (buf.extract 1 buf.size) closed s (r + 1) tm)) : SemOps P ops Q (i :: rest) a w :=
  sem_recv ho hw hr hc hsome (by rw [hd]; exact h)
theorem sv_send (ho : ops[i]? = some o) (hw : Region.wanted o (yielded ops a.tmps) = true) (hd : o.dst = none) (hr : (execOp a.eval o).run P w = .ok (.comm #[scase c v z] true .send) w)
    (hc : w.heap[c]? = some (.chan cap buf false s r tm)) (hroom : buf.size < cap) (h : SemOps P ops Q rest a (w.setChan c cap (buf.push v) false (s + 1) r tm)) : SemOps P ops Q (i :: rest) a w :=
  sem_send ho hw hr hc hroom (by rw [hd]; exact h)
end

/-- The words of a port behind j rounds. -/
def turned (ws : List Int) (j : Nat) : List Int := ws.drop j ++ ws.take j
theorem turned_zero (ws : List Int) : turned ws 0 = ws := by simp [turned]
theorem turned_all (ws : List Int) : turned ws ws.length = ws := by simp [turned]
theorem turned_cons {ws : List Int} {j : Nat} (h : j < ws.length) : turned ws j = ws.getD j 0 :: (ws.drop (j + 1) ++ ws.take j) := by
  unfold turned
  rw [List.drop_eq_getElem_cons h, List.getD_eq_getElem?_getD, List.getElem?_eq_getElem h]
  rfl
theorem turned_succ {ws : List Int} {j : Nat} (h : j < ws.length) : (ws.drop (j + 1) ++ ws.take j) ++ [ws.getD j 0] = turned ws (j + 1) := by
  unfold turned
  rw [List.append_assoc, List.take_add_one, List.getD_eq_getElem?_getD, List.getElem?_eq_getElem h]
  rfl
theorem take_succ' {ws : List Int} {j : Nat} (h : j < ws.length) : ws.take j ++ [ws.getD j 0] = ws.take (j + 1) := by
  rw [List.take_add_one, List.getD_eq_getElem?_getD, List.getElem?_eq_getElem h]
  rfl

theorem Outs.lies {w : World} {B : Nat} {v : Value} {xs : List Int} (h : Outs w B v xs) (hne : xs ≠ []) : Lies w v xs := by
  rcases h.2 with ⟨_, h2⟩ | ⟨g, cap, cur, h1, h2, h3, h4, h5, h6, h7⟩
  · exact absurd (List.length_eq_zero_iff.1 h2) hne
  · refine ⟨g, 0, cap, h1, fun j y hy => ?_⟩
    have hB : Blk w g cur := ⟨_, h3⟩
    rw [Nat.zero_add, hB.cell, ← Array.getElem?_toList]
    have hj : j < xs.length := (List.getElem?_eq_some_iff.1 hy).1
    have e := congrArg (fun l => l[j]?) h7
    simp only [Nat.mul_one, List.getElem?_map, hy] at e
    rw [List.getElem?_take_of_lt hj] at e
    exact e

set_option maxRecDepth 100000 in
set_option maxHeartbeats 4000000 in
theorem inside_port (h : KP w kb M ob cb qp) (s : Nat) (hs : s < 32) (hk : (M.S s).kind = 4) :
    Calls Tryz.prog 124 #[.pointer (some ⟨ob s, 0, none⟩)] w fun e w' => ∃ v, e = .returned v ∧ Lies w' v (bodyM M s) ∧ ChanAt w' (cb s) (M.ws s) ∧ Fr (fun k => k = cb s) w w' := by
  have eb : bodyM M s = ((M.ws s).length : Int) :: M.ws s := by unfold bodyM; rw [if_neg (by omega), if_neg (by omega), if_neg (by omega), if_pos hk]
  have c3 := h.chan hs hk
  obtain ⟨sn, rn, hch⟩ := h.chans s hs hk
  have HL := hide (h.ports s hs hk)
  have hne : ob s ≠ cb s := ((h.chans s hs hk).ne (h.obs s hs (by omega))).symm
  have hlo := h.oblt hs (by omega)
  have hlc := (h.chans s hs hk).lt
  rw [eb]
  clear h eb hk
  generalize M.ws s = ws at *
  have hlen := fun ty => run_len_chan (P := Tryz.prog) 146 ty Tryz.underlying146 hch
  rw [ints_size] at hlen
  have HCH := hide hch
  clear hch
  go_enter Tryz.func124, Tryz.ntmps124
  generalize hR5 : Code.region 5 _ _ = R5
  generalize hR6 : Code.region 6 _ _ = R6
  go_wp2_with fail
  have hO : Outs (w.alloc (.cells #[.int .i64 (ws.length : Int)] 3)) w.heap.size (.slice (some ⟨w.heap.size, 0, none⟩) 1 1) [(ws.length : Int)] :=
    ⟨rfl, Or.inr ⟨w.heap.size, 1, _, rfl, Nat.le_refl _, heap_alloc_new w _, Nat.le_refl _, by unfold maxLen; omega, rfl, rfl⟩⟩
  have HO := hide hO
  have hc0 : ChanAt (w.alloc (.cells #[.int .i64 (ws.length : Int)] 3)) (cb s) ws := ⟨sn, rn, (Below.heap_alloc _ _ _ hlc).trans HCH.out⟩
  have HC0 := hide hc0
  clear hO hc0
  subst hR5 hR6
  go_loopw [4, 5, 14, 16, 17, 18, 19, 20, 21, 22, 23, 24, 25] (fun nv _ i _ _ _ _ _ _ _ _ _ _ w' => ∃ j : Nat, j ≤ ws.length ∧ i = .int .i64 j ∧ Outs w' w.heap.size nv ((ws.length : Int) :: ws.take j) ∧ ChanAt w' (cb s) (turned ws j) ∧ Fr (fun k => k = cb s) w w') (fun _ _ i _ _ _ _ _ _ _ _ _ _ _ => ws.length - (intOf i).toNat)
  case atStart => exact ⟨0, by omega, rfl, HO.out, by rw [turned_zero]; exact HC0.out, (Fr.refl _ _).alloc _⟩
  case round =>
    obtain ⟨j, hj, rfl, hout, hchan, hfr⟩ := hrel
    have HFR := hide hfr
    have HOUT := hide hout
    have HJ := hide hj
    have hsz := hfr.size
    by_cases hjn : j < ws.length
    · have hji : (j : Int) < (ws.length : Int) := by omega
      have d3 : wr.cell? ⟨ob s, 3, none⟩ = some (.chan (some (cb s))) := (cell_same' (hfr.block _ hlo hne) 3).trans c3
      rw [turned_cons hjn] at hchan
      obtain ⟨sn1, rn1, hch1⟩ := hchan
      have HX : Hid ((ws.drop (j + 1) ++ ws.take j) ++ [ws.getD j 0] = turned ws (j + 1)) := turned_succ hjn
      have HTK : Hid (ws.take j ++ [ws.getD j 0] = ws.take (j + 1)) := take_succ' hjn
      have HLT : Hid ((ws.drop (j + 1) ++ ws.take j).length < 4) := by have := HL.out; unfold Hid; simp; omega
      generalize ws.getD j 0 = x at *
      generalize ws.drop (j + 1) ++ ws.take j = rest at *
      have hlc1 : cb s < wr.heap.size := by omega
      have hlo1 : ob s < wr.heap.size := by omega
      clear hout hfr hlen HCH HO HC0
      obtain ⟨na, nn, nc, hnv⟩ := HOUT.out.form
      subst hnv
      generalize hR5 : Code.region 5 _ _ = R5
      generalize hR6 : Code.region 6 _ _ = R6
      go_wp2_with fail
      subst hR5
      refine wp_region_sem ?_
      show SemOps _ _ _ [0, 1, 2, 3, 4, 5] _ _
      refine sv_value rfl rfl rfl (run_mv _ _ _ _ _ _ _) ?_
      simp only [Act.put, List.setIfInBounds_toArray, List.set_cons_zero, List.set_cons_succ]
      refine sv_value rfl rfl rfl (run_nc _ _ _ _ (ob s) _ _ _ rfl) ?_
      simp only [Act.put, List.setIfInBounds_toArray, List.set_cons_zero, List.set_cons_succ]
      refine sv_value rfl rfl rfl (run_fa _ _ _ _ (ob s) _ _ _ rfl) ?_
      simp only [Act.put, List.setIfInBounds_toArray, List.set_cons_zero, List.set_cons_succ]
      refine sv_value rfl rfl rfl (run_lc _ _ _ _ (ob s) (cb s) _ _ _ rfl d3) ?_
      simp only [Act.put, List.setIfInBounds_toArray, List.set_cons_zero, List.set_cons_succ]
      refine sv_recv rfl rfl rfl (run_rv _ _ _ _ (cb s) _ _ _ rfl) hch1 (by rw [ints_size]; simp) ?_
      rw [ints_tail, ints_head]
      simp only [Act.put, List.setIfInBounds_toArray, List.set_cons_zero, List.set_cons_succ]
      refine sv_value rfl rfl rfl (v := .int .i64 x) (run_as _ _ _ _ _ _ _) ?_
      simp only [Act.put, List.setIfInBounds_toArray, List.set_cons_zero, List.set_cons_succ]
      refine sem_nil ?_
      have hch2 := heap_setChan wr (cb s) 4 (ints (x :: rest).tail).toArray false sn1 (rn1 + 1) false hlc1
      have e3 : (wr.setChan (cb s) 4 (ints (x :: rest).tail).toArray false sn1 (rn1 + 1) false).cell? ⟨ob s, 3, none⟩ = some (.chan (some (cb s))) := (cell_same' (chan_other _ _ _ _ _ _ _ hne) 3).trans d3
      have FR2 : Hid (Fr (fun k => k = cb s) w (wr.setChan (cb s) 4 (ints (x :: rest).tail).toArray false sn1 (rn1 + 1) false)) := HFR.out.trans ⟨rfl, rfl, rfl, by simp [World.setChan], fun k _ hk => chan_other _ _ _ _ _ _ _ hk⟩
      have OUT2 : Hid (Outs (wr.setChan (cb s) 4 (ints (x :: rest).tail).toArray false sn1 (rn1 + 1) false) w.heap.size (.slice na nn nc) ((ws.length : Int) :: ws.take j)) := HOUT.out.same (fun k hk => chan_other _ _ _ _ _ _ _ (by have := (HOUT.out.row hk).1; omega))
      have hsz2 : (wr.setChan (cb s) 4 (ints (x :: rest).tail).toArray false sn1 (rn1 + 1) false).heap.size = wr.heap.size := size_setChan _ _ _ _ _ _ _ _
      generalize wr.setChan (cb s) 4 (ints (x :: rest).tail).toArray false sn1 (rn1 + 1) false = W2 at *
      clear hch1 d3 HOUT HFR
      go_wp2_with fail
      subst hR6
      refine wp_region_sem ?_
      show SemOps _ _ _ [0, 1, 2, 3, 4, 5] _ _
      refine sv_value rfl rfl rfl (run_mv _ _ _ _ _ _ _) ?_
      simp only [Act.put, List.setIfInBounds_toArray, List.set_cons_zero, List.set_cons_succ]
      refine sv_value rfl rfl rfl (run_nc _ _ _ _ (ob s) _ _ _ rfl) ?_
      simp only [Act.put, List.setIfInBounds_toArray, List.set_cons_zero, List.set_cons_succ]
      refine sv_value rfl rfl rfl (run_fa _ _ _ _ (ob s) _ _ _ rfl) ?_
      simp only [Act.put, List.setIfInBounds_toArray, List.set_cons_zero, List.set_cons_succ]
      refine sv_value rfl rfl rfl (run_lc _ _ _ _ (ob s) (cb s) _ _ _ rfl e3) ?_
      simp only [Act.put, List.setIfInBounds_toArray, List.set_cons_zero, List.set_cons_succ]
      refine sv_value rfl rfl rfl (v := .int .i64 x) (run_mv _ _ _ _ _ _ _) ?_
      simp only [Act.put, List.setIfInBounds_toArray, List.set_cons_zero, List.set_cons_succ]
      refine sv_send rfl rfl rfl (run_sd _ _ _ _ _ (cb s) _ (.int .i64 x) _ _ rfl rfl) hch2 (by rw [ints_size]; exact HLT.out) ?_
      rw [ints_push]
      refine sem_nil ?_
      have eT : (x :: rest).tail ++ [x] = turned ws (j + 1) := HX.out
      rw [eT]
      have hlc2 : cb s < W2.heap.size := by omega
      have CH3 : Hid (ChanAt (W2.setChan (cb s) 4 (ints (turned ws (j + 1))).toArray false (sn1 + 1) (rn1 + 1) false) (cb s) (turned ws (j + 1))) := ⟨_, _, heap_setChan _ _ _ _ _ _ _ _ hlc2⟩
      have FR3 : Hid (Fr (fun k => k = cb s) w (W2.setChan (cb s) 4 (ints (turned ws (j + 1))).toArray false (sn1 + 1) (rn1 + 1) false)) := FR2.out.trans ⟨rfl, rfl, rfl, by simp [World.setChan], fun k _ hk => chan_other _ _ _ _ _ _ _ hk⟩
      have OUT3 : Hid (Outs (W2.setChan (cb s) 4 (ints (turned ws (j + 1))).toArray false (sn1 + 1) (rn1 + 1) false) w.heap.size (.slice na nn nc) ((ws.length : Int) :: ws.take j)) := OUT2.out.same (fun k hk => chan_other _ _ _ _ _ _ _ (by have := (OUT2.out.row hk).1; omega))
      have hsz3 : (W2.setChan (cb s) 4 (ints (turned ws (j + 1))).toArray false (sn1 + 1) (rn1 + 1) false).heap.size = wr.heap.size := (size_setChan _ _ _ _ _ _ _ _).trans hsz2
      generalize W2.setChan (cb s) 4 (ints (turned ws (j + 1))).toArray false (sn1 + 1) (rn1 + 1) false = W3 at *
      have hle3 : w.heap.size ≤ W3.heap.size := by omega
      clear hch2 e3 FR2 OUT2 eT hsz3 hsz2 hlc2
      have hle : ((ws.length : Int) :: ws.take j).length + 1 ≤ 1000000 := by have := HL.out; simp; omega
      have HLE := hide hle
      clear hle
      go_wp2_with (at_builtin; refine wpList_out_new W3 (by rfl) _ _ (by rfl) w.heap.size _ ((ws.length : Int) :: ws.take j) (by rfl) OUT3.out _ 1 [x] W3.heap.size (by rfl) (by rfl) (by rfl) (by rfl) HLE.out (by omega) ?_; intro v1 w1 h1 h2 h3; have O1 := hide h1; have F1 : Hid (Fr (fun k => k = cb s) w w1) := (Fr.trans' FR3.out (S' := fun k => w.heap.size ≤ k) ⟨h2.os, h2.tape, h2.output, h2.size, fun k _ hk => h2.block k (by omega)⟩ (fun i hi h => by omega)); have C1 := hide (CH3.out.same (h2.block _ hlc)); obtain ⟨a1, n1, m1, hs1⟩ := h1.form; subst hs1; clear h1 h2 h3)
      have e := O1.out
      rw [List.cons_append, HTK.out] at e
      have REL := hide e
      clear e
      have hL := HL.out
      have hwr : wrap64 ((j : Int) + 1) = ((j + 1 : Nat) : Int) := by unfold wrap64; omega
      rw [hwr]
      refine ⟨⟨j + 1, by omega, rfl, REL.out, C1.out, F1.out⟩, ?_⟩
      simp only [intOf]
      omega
    · have : j = ws.length := by omega
      subst this
      rw [turned_all] at hchan
      have HC := hide hchan
      obtain ⟨na, nn, nc, hnv⟩ := HOUT.out.form
      subst hnv
      clear hout hchan hfr hlen HCH HO HC0
      go_wp2_with fail
      go_ret
      refine ⟨_, rfl, ?_, HC.out, HFR.out⟩
      have e := HOUT.out
      rw [List.take_length] at e
      exact e.lies (by simp)
end

end Go.Proofs.YtloppmepfkkblaaGreat
end

section
/- What the program tells of a slot and of a quantum: 'tellSlot', 'tellQuantum'. -/
open Go Go.Proofs Go.RowKit
namespace Go.Proofs.YtloppmepfkkblaaGreat

section
variable {w w' : World} {B vb kb : Nat} {M : MS} {ob cb : Nat → Nat} {qp : Nat → Option Nat} {l : Nat} {v : Value} {xs : List Int}

/-- A channel was turned round. -/
theorem KP.turned (h : KP w kb M ob cb qp) {s : Nat} (hs : s < 32) (hk : (M.S s).kind = 4) (hc : ChanAt w' (cb s) (M.ws s)) (f : Fr (fun k => k = cb s) w w') : KP w' kb M ob cb qp := by
  have hC := h.chans s hs hk
  have hb : ∀ k, k < w.heap.size → k ≠ cb s → w'.heap[k]? = w.heap[k]? := fun k hk hn => f.block k hk hn
  obtain ⟨cs, h1, h2⟩ := h.kern
  refine ⟨⟨cs, h1.same (hb _ h1.lt (hC.ne h1).symm), h2⟩, fun j hj hkj => (h.obs j hj hkj).same (hb _ (h.obs j hj hkj).lt (hC.ne (h.obs j hj hkj)).symm), fun j hj hkj => ?_, h.kinds, h.inj, h.cinj, h.off, fun q hq => (h.quanta q hq).same fun g hg => hb _ (h.foot_lt (Or.inr (Or.inr (Or.inr ⟨q, hq, hg⟩)))) (h.qcne hq hg hs hk), h.ph8, h.segs, h.ports, h.wf⟩
  by_cases e : j = s
  · subst e; exact hc
  · exact (h.chans j hj hkj).same (hb _ (h.chans j hj hkj).lt (fun eq => e (h.cinj j s hj hs hkj hk eq)))

theorem VK.turned (h : VK w B vb kb M ob cb qp l v xs) {s : Nat} (hs : s < 32) (hk : (M.S s).kind = 4) (hc : ChanAt w' (cb s) (M.ws s)) (f : Fr (fun k => k = cb s) w w') : VK w' B vb kb M ob cb qp l v xs ∧ VGo M cb vb w v w' v := by
  have hcB : cb s < B := h.cfB ⟨s, hs, hk, rfl⟩
  refine ⟨⟨h.kp.turned hs hk hc f, h.inv, h.old, h.vbB, h.blk.fr f (fun e => by have := h.vbB; omega), h.outs.same (fun k hk' => f.block k (h.outs.row hk').2 (fun e => by have := (h.outs.row hk').1; omega)), h.ne, h.l8⟩, ⟨f.os, f.tape, f.output, f.size, fun X hX hn _ _ => f.block X hX (fun e => hn ⟨s, hs, hk, e⟩), fun X _ h => h⟩⟩

theorem cf_in1 : ∀ args w, (callFunc 122 args).run Tryz.prog w = .ok (.enter 122 args) w := fun args w => by
  simp [callFunc, go_sem, Tryz.func122, Tryz.f122]
theorem cf_in2 : ∀ args w, (callFunc 120 args).run Tryz.prog w = .ok (.enter 120 args) w := fun args w => by
  simp [callFunc, go_sem, Tryz.func120, Tryz.f120]
theorem cf_in3 : ∀ args w, (callFunc 123 args).run Tryz.prog w = .ok (.enter 123 args) w := fun args w => by
  simp [callFunc, go_sem, Tryz.func123, Tryz.f123]
theorem cf_in4 : ∀ args w, (callFunc 124 args).run Tryz.prog w = .ok (.enter 124 args) w := fun args w => by
  simp [callFunc, go_sem, Tryz.func124, Tryz.f124]

/-- What an object tells of itself. -/
theorem inside_all (h : VK w B vb kb M ob cb qp l v xs) (i : Nat) (hi : i < 32) (hk : (M.S i).kind ≠ 0) :
    ∃ fid, (∀ w' : World, (method 272 (tyOf (M.S i).kind) (.pointer (some ⟨ob i, 0, none⟩)) "cloister/cloister.inside").run Tryz.prog w' = .ok (fid, .pointer (some ⟨ob i, 0, none⟩)) w') ∧ (∀ args w, (callFunc fid args).run Tryz.prog w = .ok (.enter fid args) w) ∧
      Calls Tryz.prog fid #[.pointer (some ⟨ob i, 0, none⟩)] w fun e w' => ∃ v', e = .returned v' ∧ Lies w' v' (bodyM M i) ∧ VK w' B vb kb M ob cb qp l v xs ∧ VGo M cb vb w v w' v := by
  rcases h.kp.kind14 hi hk with e | e | e | e
  · refine ⟨122, fun w' => by rw [e]; exact method_inside_container w' _, cf_in1, (inside_cont h.kp i hi e).mono ?_⟩
    rintro x w' ⟨v', rfl, h1, h2⟩
    exact ⟨v', rfl, h1, h.below h2, VGo.of_below h2⟩
  · refine ⟨120, fun w' => by rw [e]; exact method_inside_thread w' _, cf_in2, (inside_thread h.kp i hi e).mono ?_⟩
    rintro x w' ⟨v', rfl, h1, h2⟩
    exact ⟨v', rfl, h1, h.below h2, VGo.of_below h2⟩
  · refine ⟨123, fun w' => by rw [e]; exact method_inside_segment w' _, cf_in3, (inside_seg h.kp i hi e).mono ?_⟩
    rintro x w' ⟨v', rfl, h1, h2⟩
    exact ⟨v', rfl, h1, h.below h2, VGo.of_below h2⟩
  · refine ⟨124, fun w' => by rw [e]; exact method_inside_port w' _, cf_in4, (inside_port h.kp i hi e).mono ?_⟩
    rintro x w' ⟨v', rfl, h1, h2, h3⟩
    exact ⟨v', rfl, h1, h.turned hi e h2 h3⟩

set_option maxHeartbeats 4000000 in
theorem tellSlot_nil (h : VK w B vb kb M ob cb qp l v xs) (i : Nat) (hi : i < 32) (hk : (M.S i).kind = 0) (hlen : xs.length + 11 ≤ 1000000) :
    Calls Tryz.prog 94 #[.pointer (some ⟨vb, 0, none⟩), .int .i64 i] w fun e w' => e = .returned (.tuple #[]) ∧ ∃ v', VK w' B vb kb M ob cb qp l v' (xs ++ thingM M l i) ∧ VGo M cb vb w v w' v' := by
  have et : thingM M l i = [(i : Int), 0] := by unfold thingM; rw [if_pos hk, hk]
  obtain ⟨c0, -, -, -⟩ := h.cells
  have hlt := h.lt
  have hii : (i : Int) < 32 := by omega
  have KI := hide (kindIn_any h.kp i hi)
  rw [hk] at KI
  rw [et]
  have H := hide h
  clear h et
  go_enter Tryz.func94, Tryz.ntmps94
  go_wp2_with fail
  refine KI.out.mono ?_
  clear KI
  rintro e w1 ⟨rfl, hb1⟩
  have H1 := hide (H.out.below hb1)
  have G1 : Hid (VGo M cb vb w v w1 v) := VGo.of_below hb1
  have hlt1 := H1.out.lt
  clear hb1 H
  go_wp2_with fail
  refine (tell_new H1.out #[.int .i64 i, .int .i64 0] 2 [(i : Int), 0] rfl rfl (by omega)).mono ?_
  rintro e w2 ⟨rfl, v2, h2, g2⟩
  obtain ⟨d0, -, -, -⟩ := h2.cells
  have s0 := h2.kp.slot_nil hi hk
  have hlt2 := h2.lt
  have hkl2 := h2.kp.lt
  have G2 := hide (G1.out.trans g2)
  have H2 := hide h2
  clear h2 g2 H1 G1
  go_wp2_with fail
  (try simp only [Exit.inBlock, Exit.then]); refine bodyPost_ret (results_none rfl _ _ _) rfl ?_
  exact ⟨rfl, v2, H2.out, G2.out⟩

set_option maxHeartbeats 4000000 in
theorem tellSlot_ob (h : VK w B vb kb M ob cb qp l v xs) (i : Nat) (hi : i < 32) (hk : (M.S i).kind ≠ 0) (hlen : xs.length + 11 ≤ 1000000) :
    Calls Tryz.prog 94 #[.pointer (some ⟨vb, 0, none⟩), .int .i64 i] w fun e w' => e = .returned (.tuple #[]) ∧ ∃ v', VK w' B vb kb M ob cb qp l v' (xs ++ thingM M l i) ∧ VGo M cb vb w v w' v' := by
  have et : xs ++ thingM M l i = ((xs ++ [(i : Int), (M.S i).kind]) ++ [((M.S i).label : Int)]) ++ (if sub (M.S i).label l = true then bodyM M i else []) := by
    unfold thingM; rw [if_neg hk]; simp
  obtain ⟨c0, -, -, -⟩ := h.cells
  have hlt := h.lt
  have hii : (i : Int) < 32 := by omega
  have KI := hide (kindIn_any h.kp i hi)
  have hbl := body_len h.inv i
  rw [et]
  have H := hide h
  clear h et
  go_enter Tryz.func94, Tryz.ntmps94
  go_wp2_with fail
  refine KI.out.mono ?_
  clear KI
  rintro e w1 ⟨rfl, hb1⟩
  have H1 := hide (H.out.below hb1)
  have G1 : Hid (VGo M cb vb w v w1 v) := VGo.of_below hb1
  have hlt1 := H1.out.lt
  clear hb1 H
  go_wp2_with fail
  refine (tell_new H1.out #[.int .i64 i, .int .i64 (M.S i).kind] 2 [(i : Int), (M.S i).kind] rfl rfl (by omega)).mono ?_
  rintro e w2 ⟨rfl, v2, h2, g2⟩
  obtain ⟨d0, -, -, -⟩ := h2.cells
  have s0 := h2.kp.slot_ob hi hk
  obtain ⟨b0, b1, b2⟩ := h2.kp.base hi hk
  have hm := method_labelOf w2 _ _ _ _ (h2.kp.kind14 hi hk) b0 b1 b2
  have hlt2 := h2.lt
  have hkl2 := h2.kp.lt
  have hol2 := h2.kp.oblt hi hk
  have G2 := hide (G1.out.trans g2)
  have H2 := hide h2
  have KK : Hid (∀ (w3 : World) (v3 : Value) (ys : List Int), VK w3 B vb kb M ob cb qp l v3 ys → Calls Tryz.prog 61 #[.pointer (some ⟨vb, 0, none⟩), .iface (tyOf (M.S i).kind) (.pointer (some ⟨ob i, 0, none⟩))] w3 fun e w' => e = .returned (.bool (sub (M.S i).label l)) ∧ Below w3.heap.size w3 w') := fun w3 v3 ys h3 => knows_any h3 i hi hk
  have II : Hid (∀ (w3 : World) (v3 : Value) (ys : List Int), VK w3 B vb kb M ob cb qp l v3 ys → ∃ fid, (∀ w' : World, (method 272 (tyOf (M.S i).kind) (.pointer (some ⟨ob i, 0, none⟩)) "cloister/cloister.inside").run Tryz.prog w' = .ok (fid, .pointer (some ⟨ob i, 0, none⟩)) w') ∧ (∀ args w, (callFunc fid args).run Tryz.prog w = .ok (.enter fid args) w) ∧
      Calls Tryz.prog fid #[.pointer (some ⟨ob i, 0, none⟩)] w3 fun e w' => ∃ v', e = .returned v' ∧ Lies w' v' (bodyM M i) ∧ VK w' B vb kb M ob cb qp l v3 ys ∧ VGo M cb vb w3 v3 w' v3) := fun w3 v3 ys h3 => inside_all h3 i hi hk
  clear h2 g2 H1 G1 b0 b1 b2 hk
  generalize tyOf (M.S i).kind = T at *
  go_wp2_with fail
  refine (labelOf_any w2 _ _ _).mono ?_
  rintro e w3 ⟨rfl, hb3⟩
  have H3 := hide (H2.out.below hb3)
  have G3 := hide (G2.out.trans (VGo.of_below (v := v2) hb3))
  have hlt3 := H3.out.lt
  clear hb3 H2 G2 hm d0 s0
  go_wp2_with fail
  refine (tell_new H3.out #[.int .i64 (M.S i).label] 1 [((M.S i).label : Int)] rfl rfl (by simp; omega)).mono ?_
  rintro e w4 ⟨rfl, v4, h4, g4⟩
  have H4 := hide h4
  have G4 := hide (G3.out.trans g4)
  have hlt4 := h4.lt
  clear h4 g4 H3 G3
  go_wp2_with fail
  refine (KK.out w4 v4 _ H4.out).mono ?_
  rintro e w5 ⟨rfl, hb5⟩
  have H5 := hide (H4.out.below hb5)
  have G5 := hide (G4.out.trans (VGo.of_below (v := v4) hb5))
  have hlt5 := H5.out.lt
  clear hb5 H4 G4 KK
  cases hsub : sub (M.S i).label l with
  | false =>
    go_wp2_with fail
    all_goals go_end0
    all_goals exact ⟨rfl, v4, by simpa using H5.out, G5.out⟩
  | true =>
    obtain ⟨fid, hm5, hcf, hc5⟩ := II.out w5 v4 _ H5.out
    clear II
    have HC := hide hc5
    clear hc5
    go_wp2_with fail
    refine HC.out.mono ?_
    clear HC
    rintro e w6 ⟨v6, rfl, ⟨lb, lo, c, rfl, hlies⟩, h6, g6⟩
    have G6 := hide (G5.out.trans g6)
    have T6 := tell_any h6 lb lo (bodyM M i).length c (bodyM M i) rfl (by simp; omega) hlies
    have HT := hide T6
    clear h6 g6 hlies T6 H5 G5
    go_wp2_with fail
    refine HT.out.mono ?_
    clear HT
    rintro e w7 ⟨rfl, v7, h7, g7⟩
    have H7 := hide h7
    have G7 := hide (G6.out.trans g7)
    clear h7 g7 G6
    go_wp2_with fail
    go_end0
    exact ⟨rfl, v7, by simpa using H7.out, G7.out⟩

theorem tellSlot_any (h : VK w B vb kb M ob cb qp l v xs) (i : Nat) (hi : i < 32) (hlen : xs.length + 11 ≤ 1000000) :
    Calls Tryz.prog 94 #[.pointer (some ⟨vb, 0, none⟩), .int .i64 i] w fun e w' => e = .returned (.tuple #[]) ∧ ∃ v', VK w' B vb kb M ob cb qp l v' (xs ++ thingM M l i) ∧ VGo M cb vb w v w' v' := by
  by_cases hk : (M.S i).kind = 0
  · exact tellSlot_nil h i hi hk hlen
  · exact tellSlot_ob h i hi hk hlen

set_option maxHeartbeats 4000000 in
theorem tellQuantum_any (h : VK w B vb kb M ob cb qp l v xs) (q : Nat) (hq : q < 8) (hlen : xs.length + 11 ≤ 1000000) :
    Calls Tryz.prog 96 #[.pointer (some ⟨vb, 0, none⟩), .int .i64 q] w fun e w' => e = .returned (.tuple #[]) ∧ ∃ v', VK w' B vb kb M ob cb qp l v' (xs ++ [(q : Int), whoM M l q]) ∧ VGo M cb vb w v w' v' := by
  obtain ⟨c0, -, -, -⟩ := h.cells
  have hlt := h.lt
  have TO := hide (threadOf_any h.kp hq)
  have H := hide h
  cases hl : M.lq q with
  | none =>
    have ew : whoM M l q = -1 := by unfold whoM; rw [hl]
    rw [ew]
    rw [hl] at TO
    clear h ew
    go_enter Tryz.func96, Tryz.ntmps96
    go_wp2_with fail
    refine TO.out.mono ?_
    clear TO
    rintro e w1 ⟨rfl, hb1⟩
    have H1 := hide (H.out.below hb1)
    have G1 : Hid (VGo M cb vb w v w1 v) := VGo.of_below hb1
    have hlt1 := H1.out.lt
    clear hb1 H
    simp only [Option.map_none, ptrV]
    go_wp2_with fail
    refine (tell_new H1.out #[.int .i64 q, .int .i64 (-1)] 2 [(q : Int), -1] rfl rfl (by omega)).mono ?_
    rintro e w2 ⟨rfl, v2, h2, g2⟩
    have G2 := hide (G1.out.trans g2)
    have H2 := hide h2
    clear h2 g2 H1 G1
    go_wp2_with fail
    (try simp only [Exit.inBlock, Exit.then]); refine bodyPost_ret (results_none rfl _ _ _) rfl ?_
    exact ⟨rfl, v2, H2.out, G2.out⟩
  | some t =>
    obtain ⟨ht, hk, -⟩ := h.kp.live hq hl
    have ew : whoM M l q = if sub (M.S t).label l = true then (t : Int) else -1 := by unfold whoM; rw [hl]
    rw [ew]
    rw [hl] at TO
    have KK : Hid (∀ (w3 : World), VK w3 B vb kb M ob cb qp l v xs → Calls Tryz.prog 61 #[.pointer (some ⟨vb, 0, none⟩), .iface 57 (.pointer (some ⟨ob t, 0, none⟩))] w3 fun e w' => e = .returned (.bool (sub (M.S t).label l)) ∧ Below w3.heap.size w3 w') := fun w3 h3 => by
      have := knows_any h3 t ht (by omega)
      rw [hk, tyOf2] at this
      exact this
    clear h ew
    go_enter Tryz.func96, Tryz.ntmps96
    go_wp2_with fail
    refine TO.out.mono ?_
    clear TO
    rintro e w1 ⟨rfl, hb1⟩
    have H1 := hide (H.out.below hb1)
    have G1 : Hid (VGo M cb vb w v w1 v) := VGo.of_below hb1
    have hlt1 := H1.out.lt
    clear hb1 H
    simp only [Option.map_some, ptrV]
    go_wp2_with fail
    refine (KK.out w1 H1.out).mono ?_
    clear KK
    rintro e w3 ⟨rfl, hb3⟩
    have H3 := hide (H1.out.below hb3)
    have G3 := hide (G1.out.trans (VGo.of_below (v := v) hb3))
    have hlt3 := H3.out.lt
    obtain ⟨b0, b1, b2⟩ := H3.out.kp.base ht (by omega)
    have hol3 := H3.out.kp.oblt ht (by omega)
    clear hb3 H1 G1
    cases hsub : sub (M.S t).label l with
    | false =>
      go_wp2_with fail
      refine (tell_new H3.out #[.int .i64 q, .int .i64 (-1)] 2 [(q : Int), -1] rfl rfl (by omega)).mono ?_
      rintro e w2 ⟨rfl, v2, h2, g2⟩
      have G2 := hide (G3.out.trans g2)
      have H2 := hide h2
      clear h2 g2 H3 G3
      go_wp2_with fail
      all_goals ((try simp only [Exit.inBlock, Exit.then]); refine bodyPost_ret (results_none rfl _ _ _) rfl ?_)
      all_goals exact ⟨rfl, v2, by simpa using H2.out, G2.out⟩
    | true =>
      go_wp2_with fail
      refine (place_any w3 _ _ _).mono ?_
      rintro e w4 ⟨rfl, hb4⟩
      have H4 := hide (H3.out.below hb4)
      have G4 := hide (G3.out.trans (VGo.of_below (v := v) hb4))
      have hlt4 := H4.out.lt
      clear hb4 H3 G3
      go_wp2_with fail
      refine (tell_new H4.out #[.int .i64 q, .int .i64 t] 2 [(q : Int), (t : Int)] rfl rfl (by omega)).mono ?_
      rintro e w2 ⟨rfl, v2, h2, g2⟩
      have G2 := hide (G4.out.trans g2)
      have H2 := hide h2
      clear h2 g2 H4 G4
      go_wp2_with fail
      go_end0
      exact ⟨rfl, v2, by simpa using H2.out, G2.out⟩
end

end Go.Proofs.YtloppmepfkkblaaGreat
end

section
/- The slots of a container, as the program lists them: 'slotsIn'. -/
open Go Go.Proofs Go.RowKit
namespace Go.Proofs.YtloppmepfkkblaaGreat

/-- Slots ahead of k that lie in c. -/
def slotsL (M : MS) (c : Nat) : Nat → List Int
  | 0 => []
  | k + 1 => slotsL M c k ++ (if lies M.S k = some c then [(k : Int)] else [])

theorem slotsL_len (M : MS) (c : Nat) : ∀ k, (slotsL M c k).length ≤ k
  | 0 => Nat.le_refl _
  | k + 1 => by
    have := slotsL_len M c k
    unfold slotsL
    rw [List.length_append]
    split <;> simp <;> omega
theorem slotsL_mem {M : MS} {c : Nat} : ∀ {k : Nat} {x : Int}, x ∈ slotsL M c k → ∃ s : Nat, x = s ∧ s < k ∧ lies M.S s = some c
  | 0, x, h => by simp [slotsL] at h
  | k + 1, x, h => by
    unfold slotsL at h
    rcases List.mem_append.1 h with h | h
    · obtain ⟨s, h1, h2, h3⟩ := slotsL_mem h
      exact ⟨s, h1, by omega, h3⟩
    · split at h
      · rename_i hl
        exact ⟨k, List.mem_singleton.1 h, by omega, hl⟩
      · simp at h
/-- Nothing ahead of a. -/
theorem slotsL_lo {M : MS} {c a : Nat} (ha : ∀ s : Nat, lies M.S s = some c → a ≤ s) : ∀ k, k ≤ a → slotsL M c k = []
  | 0, _ => rfl
  | k + 1, h => by
    unfold slotsL
    rw [slotsL_lo ha k (by omega), if_neg (fun e => by have := ha k e; omega)]
    rfl
/-- Nothing from b on. -/
theorem slotsL_hi {M : MS} {c b : Nat} (hb : ∀ s : Nat, lies M.S s = some c → s < b) : ∀ k, b ≤ k → slotsL M c k = slotsL M c b
  | 0, h => by have : b = 0 := by omega
               rw [this]
  | k + 1, h => by
    by_cases e : b = k + 1
    · rw [e]
    · show slotsL M c k ++ (if lies M.S k = some c then [(k : Int)] else []) = slotsL M c b
      rw [if_neg (fun e => by have := hb k e; omega), List.append_nil]
      exact slotsL_hi hb k (by omega)

section
variable {w w' : World} {B vb kb : Nat} {M : MS} {ob cb : Nat → Nat} {qp : Nat → Option Nat} {l : Nat} {v : Value} {xs : List Int}

theorem eql_home (h : KP w kb M ob cb qp) (o : Option Nat) (ho : ∀ d, o = some d → d < 32 ∧ (M.S d).kind = 1) (c : Nat) (hc : c < 32) (hck : (M.S c).kind = 1) :
    (binOp .eql 81 (ptrV (o.map ob)) (.pointer (some ⟨ob c, 0, none⟩))).run Tryz.prog w = .ok (.bool (decide (o = some c))) w := by
  cases o with
  | none => simp only [Option.map, ptrV]; rw [decide_eq_false (by simp)]; exact eql_nil_ptr w (ob c)
  | some d =>
    simp only [Option.map, ptrV]
    obtain ⟨hd, hdk⟩ := ho d rfl
    by_cases e : d = c
    · subst e; rw [decide_eq_true rfl]; exact eql_ptr_same w _
    · rw [decide_eq_false (fun h => e (by injection h))]
      exact eql_ptr_other w (ob d) (ob c) _ _ (fun eq => e (h.inj d c hd hc (by omega) (by omega) eq)) (h.obs d hd (by omega)) (h.obs c hc (by omega))

set_option maxRecDepth 100000 in
set_option maxHeartbeats 4000000 in
theorem slotsIn_any (h : VK w B vb kb M ob cb qp l v xs) (c : Nat) (hc : c < 32) (hck : (M.S c).kind = 1) :
    Calls Tryz.prog 93 #[.pointer (some ⟨vb, 0, none⟩), .pointer (some ⟨ob c, 0, none⟩)] w fun e w' => ∃ sv, e = .returned sv ∧ Outs w' w.heap.size sv (slotsL M c 32) ∧ Below w.heap.size w w' := by
  have hr := h.inv.tree.rng c hc hck
  obtain ⟨a, ha⟩ : ∃ a : Nat, (M.S c).A = a := ⟨(M.S c).A.toNat, by omega⟩
  obtain ⟨b, hb⟩ : ∃ b : Nat, (M.S c).B = b := ⟨(M.S c).B.toNat, by omega⟩
  have hab : a ≤ b ∧ b ≤ 32 := by omega
  have hin : ∀ s : Nat, lies M.S s = some c → a ≤ s ∧ s < b := fun s hs => by
    have := (lies_spec hs).2.2.1
    unfold Th.inR at this
    omega
  have EL : Hid (slotsL M c a = [] ∧ slotsL M c b = slotsL M c 32) := ⟨slotsL_lo (fun s hs => (hin s hs).1) a (Nat.le_refl _), (slotsL_hi (fun s hs => (hin s hs).2) 32 hab.2).symm⟩
  obtain ⟨d3, d4, -, -⟩ := h.kp.cont hc hck
  rw [ha] at d3
  rw [hb] at d4
  have hol := h.kp.oblt hc (by omega)
  have hvl := h.lt
  have HCC : Hid (∀ W, Below w.heap.size w W → W.cell? ⟨ob c, 3, none⟩ = some (.int .i64 a) ∧ W.cell? ⟨ob c, 4, none⟩ = some (.int .i64 b) ∧ W.cell? ⟨vb, 0, none⟩ = some (.pointer (some ⟨kb, 0, none⟩)) ∧ KP W kb M ob cb qp) := fun W hW =>
    ⟨(cell_same' (hW.block _ hol) 3).trans d3, (cell_same' (hW.block _ hol) 4).trans d4, (h.below hW).cells.1, h.kp.below hW⟩
  have HCK := hide hck
  clear h hr ha hb hin hck
  go_enter Tryz.func93, Tryz.ntmps93
  go_wp2_with fail
  clear d3 d4
  go_loopw [5, 6] (fun sv x w' => ∃ k : Nat, a ≤ k ∧ k ≤ b ∧ x = .int .i64 k ∧ Outs w' w.heap.size sv (slotsL M c k) ∧ Below w.heap.size w w') (fun _ x _ => b - (intOf x).toNat)
  case atStart => exact ⟨a, by omega, by omega, rfl, by rw [EL.out.1]; exact Outs.nil _ _, Below.refl _ _⟩
  case round =>
    obtain ⟨k, hk1, hk2, rfl, hout, hW⟩ := hrel
    obtain ⟨d3, d4, d0, hkp⟩ := HCC.out _ hW
    have HKP := hide hkp
    have HW := hide hW
    have HO := hide hout
    have hsz := hW.size
    obtain ⟨sa, sn, sc, hsv⟩ := hout.form
    subst hsv
    have hlen := slotsL_len M c k
    clear hkp hW hout
    have hol' : ob c < wr.heap.size := by omega
    have hvl' : vb < wr.heap.size := by omega
    by_cases hkb : k < b
    · have hki : (k : Int) < (b : Int) := by omega
      go_wp2_with fail
      refine (home_any HKP.out k).mono ?_
      rintro r w4 ⟨rfl, hb4⟩
      have HW4 := hide (HW.out.trans (hb4.mono hsz))
      have HO4 := hide (HO.out.later hb4)
      have hcmp := eql_home (HKP.out.below hb4) (lies M.S k) (fun d hd => lies_kind hd) c hc HCK.out
      have hz4 : w.heap.size ≤ w4.heap.size := HW4.out.size
      clear hb4 d0 d3 d4 HKP HW HO
      rcases ptrV_shape ((lies M.S k).map ob) with hv | ⟨g', hv⟩ <;> rw [hv] at hcmp ⊢
      all_goals
        by_cases hli : lies M.S k = some c
        · have es : Hid (slotsL M c (k + 1) = slotsL M c k ++ [(k : Int)]) := by
            unfold Hid
            show slotsL M c k ++ (if lies M.S k = some c then [(k : Int)] else []) = _
            rw [if_pos hli]
          rw [decide_eq_true hli] at hcmp
          clear hli
          have hle : (slotsL M c k).length + 1 ≤ 1000000 := by omega
          go_wp2_with (at_builtin; refine wpList_out_new w4 (by rfl) _ _ (by rfl) w.heap.size _ (slotsL M c k) (by rfl) HO4.out _ 1 [(k : Int)] w4.heap.size (by rfl) (by rfl) (by rfl) (by rfl) hle hz4 ?_; intro v1 w1 h1 h2 h3; have O1 := hide h1; have F1 : Hid (Below w.heap.size w w1) := HW4.out.trans h2; obtain ⟨a1, n1, m1, hs1⟩ := h1.form; subst hs1; clear h1 h2 h3)
          exact ⟨⟨k + 1, by omega, by omega, by go_num, by rw [es.out]; exact O1.out, F1.out⟩, by simp [intOf]; omega⟩
        · have es : Hid (slotsL M c (k + 1) = slotsL M c k) := by
            unfold Hid
            show slotsL M c k ++ (if lies M.S k = some c then [(k : Int)] else []) = _
            rw [if_neg hli, List.append_nil]
          rw [decide_eq_false hli] at hcmp
          clear hli
          go_wp2_with fail
          exact ⟨⟨k + 1, by omega, by omega, by go_num, by rw [es.out]; exact HO4.out, HW4.out⟩, by simp [intOf]; omega⟩
    · have : k = b := by omega
      subst this
      go_wp2_with fail
      go_ret
      exact ⟨_, rfl, by rw [← EL.out.2]; exact HO.out, HW.out⟩
end

end Go.Proofs.YtloppmepfkkblaaGreat
end

section
/- What the program tells under a label: 'tellContainer', 'tellContainers', 'View'. -/
open Go Go.Proofs Go.RowKit
namespace Go.Proofs.YtloppmepfkkblaaGreat

/-- What is told of the containers among these slots. -/
def kidsF (M : MS) (f : Nat → List Int) (ys : List Int) : List Int := ys.flatMap fun s => if (M.S s.toNat).kind = 1 then f s.toNat else []
def slotsF (M : MS) (l : Nat) (ys : List Int) : List Int := ys.flatMap fun s => thingM M l s.toNat

theorem lies_pos {M : MS} (h : MInv M) {c : Nat} (hl : lies M.S ((0 : Nat) : Int) = some c) : False := by
  obtain ⟨h1, h2, h3, _⟩ := lies_spec hl
  have := h.tree.rng c h1 h2
  unfold Th.inR at h3
  omega

theorem slotsM_eq {M : MS} (h : MInv M) (l c : Nat) : ∀ k, slotsM M l c k = slotsF M l (slotsL M c k)
  | 0 => rfl
  | k + 1 => by
    unfold slotsM slotsL slotsF
    rw [List.flatMap_append, slotsM_eq h l c k]
    congr 1
    by_cases e : lies M.S k = some c
    · have : 1 ≤ k := by
        rcases Nat.eq_zero_or_pos k with h0 | h0
        · subst h0; exact (lies_pos h e).elim
        · exact h0
      rw [if_pos ⟨this, e⟩, if_pos e]
      simp
    · rw [if_neg (fun x => e x.2), if_neg e]
      rfl

theorem kidsM_eq {M : MS} (h : MInv M) (c : Nat) (f : Nat → List Int) : ∀ k, kidsM M c f k = kidsF M f (slotsL M c k)
  | 0 => rfl
  | k + 1 => by
    unfold kidsM slotsL kidsF
    rw [List.flatMap_append, kidsM_eq h c f k]
    congr 1
    by_cases e : lies M.S k = some c
    · have : 1 ≤ k := by
        rcases Nat.eq_zero_or_pos k with h0 | h0
        · subst h0; exact (lies_pos h e).elim
        · exact h0
      rw [if_pos e]
      by_cases e1 : (M.S k).kind = 1
      · rw [if_pos ⟨this, e1, e⟩]
        simp [e1]
      · rw [if_neg (fun x => e1 x.2.1)]
        simp [e1]
    · rw [if_neg (fun x => e x.2.2), if_neg e]
      rfl

theorem flat_take {f : Int → List Int} {ys : List Int} {j : Nat} {y : Int} (h : ys[j]? = some y) : (ys.take (j + 1)).flatMap f = (ys.take j).flatMap f ++ f y := by
  rw [List.take_add_one, h, List.flatMap_append]
  simp
theorem flat_le {f : Int → List Int} {ys : List Int} (j : Nat) : ((ys.take j).flatMap f).length ≤ (ys.flatMap f).length := by
  conv => rhs; rw [← List.take_append_drop j ys, List.flatMap_append, List.length_append]
  omega

theorem Arg.same {w w' : World} {lb lo : Nat} {ys : List Int} (h : Arg w lb lo ys) (e : w'.heap[lb]? = w.heap[lb]?) (hs : w.heap.size ≤ w'.heap.size) : Arg w' lb lo ys :=
  ⟨Nat.lt_of_lt_of_le h.lt hs, fun i x hx => (cell_same e _).trans (h.cell i x hx)⟩

section
variable {B vb kb : Nat} {M : MS} {ob cb : Nat → Nat} {qp : Nat → Option Nat} {l : Nat}

/-- 'tellContainer' tells what it should, of all containers that are not greater than n. -/
def TC (B vb kb : Nat) (M : MS) (ob cb : Nat → Nat) (qp : Nat → Option Nat) (l n : Nat) : Prop :=
  ∀ c, c < 32 → (M.S c).kind = 1 → sub (M.S c).label l = true → (M.S c).len < n → ∀ (w : World) (v : Value) (xs : List Int), VK w B vb kb M ob cb qp l v xs → xs.length + (tellsM M l n c).length + 11 ≤ 1000000 →
    Calls Tryz.prog 62 #[.pointer (some ⟨vb, 0, none⟩), .pointer (some ⟨ob c, 0, none⟩)] w fun e w' => e = .returned (.tuple #[]) ∧ ∃ v', VK w' B vb kb M ob cb qp l v' (xs ++ tellsM M l n c) ∧ VGo M cb vb w v w' v'

/-- Where a row of the caller's own lies. -/
structure Aside (w : World) (cb : Nat → Nat) (M : MS) (vb : Nat) (v : Value) (lb : Nat) : Prop where
  cf : ¬ CF M cb lb
  vb : lb ≠ vb
  own : v.ownBlock ≠ some lb
theorem Aside.go {w w' : World} {v v' : Value} {lb : Nat} (h : Aside w cb M vb v lb) (hl : lb < w.heap.size) (g : VGo M cb vb w v w' v') : Aside w' cb M vb v' lb ∧ w'.heap[lb]? = w.heap[lb]? :=
  ⟨⟨h.cf, h.vb, g.own lb hl h.own⟩, g.block lb hl h.cf h.vb h.own⟩

set_option maxRecDepth 100000 in
set_option maxHeartbeats 4000000 in
theorem tellContainers_any (n : Nat) (tc : TC B vb kb M ob cb qp l n) (w : World) (v : Value) (xs ys : List Int) (h : VK w B vb kb M ob cb qp l v xs) (lb lo sc : Nat) (ha : ys = [] ∨ Arg w lb lo ys ∧ Aside w cb M vb v lb) (hlen : xs.length + (kidsF M (tellsM M l n) ys).length + 11 ≤ 1000000) (hy1 : ys.length ≤ 1000)
    (hys : ∀ y ∈ ys, ∃ s : Nat, y = s ∧ s < 32 ∧ ((M.S s).kind = 1 → (M.S s).len < n)) (sa : Option Addr) (hsa : sa = some ⟨lb, lo, none⟩ ∨ ys = []) :
    Calls Tryz.prog 36 #[.pointer (some ⟨vb, 0, none⟩), .slice sa ys.length sc] w fun e w' => e = .returned (.tuple #[]) ∧ ∃ v', VK w' B vb kb M ob cb qp l v' (xs ++ kidsF M (tellsM M l n) ys) ∧ VGo M cb vb w v w' v' := by
  have H := hide h
  have HA := hide ha
  have HYS := hide hys
  have HLEN := hide hlen
  have HTC := hide tc
  clear h ha hys hlen tc
  go_enter Tryz.func36, Tryz.ntmps36
  go_wp2_with fail
  go_loopw [10] (fun x w' => ∃ (j : Nat) (v' : Value), j ≤ ys.length ∧ x = .int .i64 j ∧ VK w' B vb kb M ob cb qp l v' (xs ++ kidsF M (tellsM M l n) (ys.take j)) ∧ VGo M cb vb w v w' v' ∧ (ys = [] ∨ Arg w' lb lo ys ∧ Aside w' cb M vb v' lb)) (fun x _ => ys.length - (intOf x).toNat)
  case atStart => exact ⟨0, v, by omega, rfl, by simpa [kidsF] using H.out, VGo.of_below (Below.refl _ _), HA.out⟩
  case round =>
    obtain ⟨j, v1, hj, rfl, h1, g1, a1⟩ := hrel
    have H1 := hide h1
    have G1 := hide g1
    have A1 := hide a1
    have hvl := h1.lt
    have hkl := h1.kp.lt
    obtain ⟨c0, -, -, -⟩ := h1.cells
    by_cases hjn : j < ys.length
    · have hji : (j : Int) < (ys.length : Int) := by omega
      obtain ⟨y, hy⟩ : ∃ y, ys[j]? = some y := ⟨_, List.getElem?_eq_getElem hjn⟩
      obtain ⟨s, rfl, hs, hsl⟩ := HYS.out y (List.mem_of_getElem? hy)
      have hne : ys ≠ [] := fun e => by rw [e] at hjn; simp at hjn
      obtain ⟨aA, aS⟩ := a1.resolve_left hne
      have hsa' : sa = some ⟨lb, lo, none⟩ := hsa.resolve_right hne
      subst hsa'
      have hcell := aA.cell j _ hy
      have hll := aA.lt
      have hsi : (s : Int) < 32 := by omega
      have s0 := h1.kp.slot hs
      have EK : Hid (kidsF M (tellsM M l n) (ys.take (j + 1)) = kidsF M (tellsM M l n) (ys.take j) ++ (if (M.S s).kind = 1 then tellsM M l n s else [])) := flat_take (f := fun s => if (M.S s.toNat).kind = 1 then tellsM M l n s.toNat else []) hy
      have LE : Hid (xs.length + (kidsF M (tellsM M l n) (ys.take j)).length + (if (M.S s).kind = 1 then tellsM M l n s else []).length + 11 ≤ 1000000) := by
        have e1 := flat_le (f := fun s => if (M.S s.toNat).kind = 1 then tellsM M l n s.toNat else []) (ys := ys) (j + 1)
        have e2 := congrArg List.length EK.out
        rw [List.length_append] at e2
        have e3 : (kidsF M (tellsM M l n) (ys.take (j + 1))).length ≤ (kidsF M (tellsM M l n) ys).length := e1
        have := HLEN.out
        unfold Hid
        omega
      have AA := hide aA
      have AS := hide aS
      clear h1 g1 a1 aA aS hy hsa hne
      by_cases hk : (M.S s).kind = 1
      · rw [if_pos hk] at EK LE
        rw [obV_ob (by omega), hk, tyOf1] at s0
        have KK : Hid (∀ (w3 : World), VK w3 B vb kb M ob cb qp l v1 (xs ++ kidsF M (tellsM M l n) (ys.take j)) → Calls Tryz.prog 61 #[.pointer (some ⟨vb, 0, none⟩), .iface 81 (.pointer (some ⟨ob s, 0, none⟩))] w3 fun e w' => e = .returned (.bool (sub (M.S s).label l)) ∧ Below w3.heap.size w3 w') := fun w3 h3 => by
          have := knows_any h3 s hs (by omega)
          rw [hk, tyOf1] at this
          exact this
        have ta := fun w => ta_container_container w (ob s)
        have HK := hide hk
        clear hk
        go_wp2_with fail
        refine (KK.out wr H1.out).mono ?_
        clear KK
        rintro e w3 ⟨rfl, hb3⟩
        have H3 := hide (H1.out.below hb3)
        have g3 : VGo M cb vb wr v1 w3 v1 := VGo.of_below hb3
        have G3 := hide (G1.out.trans g3)
        have A3 := hide (AS.out.go hll g3)
        have AA3 := hide (AA.out.same (AS.out.go hll g3).2 g3.size)
        have hvl3 := H3.out.lt
        clear hb3 g3 H1 G1 AA AS c0 s0 hcell
        cases hsub : sub (M.S s).label l with
        | false =>
          have et : tellsM M l n s = [] := by
            cases n with
            | zero => rfl
            | succ m =>
              unfold tellsM
              rw [if_neg (by rw [hsub]; decide)]
          rw [et, List.append_nil] at EK
          clear et hsub
          go_wp2_with fail
          exact ⟨⟨j + 1, v1, by omega, by go_num, by rw [EK.out]; exact H3.out, G3.out, Or.inr ⟨AA3.out, A3.out.1⟩⟩, by simp [intOf]; omega⟩
        | true =>
          have T3 := hide (HTC.out s hs HK.out hsub (hsl HK.out) w3 v1 _ H3.out (by rw [List.length_append]; exact LE.out))
          clear hsub
          go_wp2_with fail
          refine T3.out.mono ?_
          clear T3
          rintro e w4 ⟨rfl, v4, h4, g4⟩
          have H4 := hide h4
          have G4 := hide (G3.out.trans g4)
          have A4 := hide (A3.out.1.go AA3.out.lt g4)
          have AA4 := hide (AA3.out.same (A3.out.1.go AA3.out.lt g4).2 g4.size)
          clear h4 g4 H3 G3 A3 AA3
          go_wp2_with fail
          exact ⟨⟨j + 1, v4, by omega, by go_num, by rw [EK.out, ← List.append_assoc]; exact H4.out, G4.out, Or.inr ⟨AA4.out, A4.out.1⟩⟩, by simp [intOf]; omega⟩
      · rw [if_neg hk, List.append_nil] at EK
        have ta : ∀ w : World, (Instr.typeAssert (obV (M.S s) (ob s)) 60 81 true).run Tryz.prog w = .ok (.tuple #[.pointer none, .bool false]) w := fun w => by
          by_cases e0 : (M.S s).kind = 0
          · rw [obV_nil e0]; exact ta_container_nil w
          · rw [obV_ob e0]
            rcases H1.out.kp.kind14 hs e0 with e | e | e | e
            · exact absurd e hk
            · rw [e, tyOf2]; exact ta_container_thread w _
            · rw [e, tyOf3]; exact ta_container_segment w _
            · rw [e, tyOf4]; exact ta_container_port w _
        generalize obV (M.S s) (ob s) = sv at *
        clear hk
        go_wp2_with fail
        exact ⟨⟨j + 1, v1, by omega, by go_num, by rw [EK.out]; exact H1.out, G1.out, Or.inr ⟨AA.out, AS.out⟩⟩, by simp [intOf]; omega⟩
    · have : j = ys.length := by omega
      subst this
      clear h1 g1 a1
      go_wp2_with fail
      go_end0
      exact ⟨rfl, v1, by have := H1.out; rwa [List.take_length] at this, G1.out⟩

theorem Outs.arg {w : World} {B' : Nat} {sv : Value} {ys : List Int} (h : Outs w B' sv ys) : ys = [] ∨ ∃ g c, sv = .slice (some ⟨g, 0, none⟩) ys.length c ∧ B' ≤ g ∧ Arg w g 0 ys := by
  rcases h.2 with ⟨h1, h2⟩ | ⟨g, cap, cur, h1, h2, h3, h4, h5, h6, h7⟩
  · exact Or.inl (List.length_eq_zero_iff.1 h2)
  · by_cases hne : ys = []
    · exact Or.inl hne
    · refine Or.inr ⟨g, cap, h1, h2, (Array.getElem?_eq_some_iff.1 h3).1, fun j y hy => ?_⟩
      have hB : Blk w g cur := ⟨_, h3⟩
      rw [Nat.zero_add, hB.cell, ← Array.getElem?_toList]
      have hj : j < ys.length := (List.getElem?_eq_some_iff.1 hy).1
      have e := congrArg (fun l => l[j]?) h7
      simp only [Nat.mul_one, List.getElem?_map, hy] at e
      rw [List.getElem?_take_of_lt hj] at e
      exact e
theorem Outs.form' {w : World} {B' : Nat} {sv : Value} {ys : List Int} (h : Outs w B' sv ys) : ∃ a c, sv = .slice a ys.length c := by
  rcases h.2 with ⟨h1, h2⟩ | ⟨g, cap, cur, h1, _⟩
  · exact ⟨none, 0, by rw [h1]; rw [h2]⟩
  · exact ⟨_, _, h1⟩

theorem quanta_mono {M : MS} {c : Nat} (k : Nat) : ∀ n, k ≤ n → (quantaM M l c k).length ≤ (quantaM M l c n).length
  | 0, h => by have : k = 0 := by omega
               rw [this]; exact Nat.le_refl _
  | n + 1, h => by
    by_cases e : k = n + 1
    · rw [e]; exact Nat.le_refl _
    · have := quanta_mono (M := M) (c := c) k n (by omega)
      conv => rhs; unfold quantaM
      rw [List.length_append]
      omega
theorem quanta_lo {M : MS} {c a : Nat} (ha : ∀ s : Nat, has M.S s = some c → a ≤ s) : ∀ k, k ≤ a → quantaM M l c k = []
  | 0, _ => rfl
  | k + 1, h => by
    unfold quantaM
    rw [quanta_lo ha k (by omega), if_neg (fun e => by have := ha k e; omega)]
    rfl
theorem quanta_hi {M : MS} {c b : Nat} (hb : ∀ s : Nat, has M.S s = some c → s < b) : ∀ k, b ≤ k → quantaM M l c k = quantaM M l c b
  | 0, h => by have : b = 0 := by omega
               rw [this]
  | k + 1, h => by
    by_cases e : b = k + 1
    · rw [e]
    · show quantaM M l c k ++ (if has M.S k = some c then [(k : Int), whoM M l k] else []) = quantaM M l c b
      rw [if_neg (fun e => by have := hb k e; omega), List.append_nil]
      exact quanta_hi hb k (by omega)

set_option maxRecDepth 100000 in
set_option maxHeartbeats 8000000 in
theorem tc_step (m : Nat) (tc : TC B vb kb M ob cb qp l m) : TC B vb kb M ob cb qp l (m + 1) := by
  intro c hc hck hsub hcl w v xs h hlen
  have et : tellsM M l (m + 1) c = slotsF M l (slotsL M c 32) ++ quantaM M l c 8 ++ kidsF M (tellsM M l m) (slotsL M c 32) := by
    unfold tellsM
    rw [if_pos hsub, slotsM_eq h.inv, kidsM_eq h.inv]
  rw [et] at hlen ⊢
  rw [List.length_append, List.length_append] at hlen
  have hr := h.inv.tree.rng c hc hck
  obtain ⟨g, hg⟩ : ∃ a : Nat, (M.S c).G = a := ⟨(M.S c).G.toNat, by omega⟩
  obtain ⟨hh, hhh⟩ : ∃ b : Nat, (M.S c).H = b := ⟨(M.S c).H.toNat, by omega⟩
  have hgh : g ≤ hh ∧ hh ≤ 8 := by omega
  have hin : ∀ s : Nat, has M.S s = some c → g ≤ s ∧ s < hh := fun s hs => by
    have := (has_spec hs).2.2.1
    unfold Th.inQ at this
    omega
  have EQ : Hid (quantaM M l c g = [] ∧ quantaM M l c hh = quantaM M l c 8) := ⟨quanta_lo (fun s hs => (hin s hs).1) g (Nat.le_refl _), (quanta_hi (fun s hs => (hin s hs).2) 8 hgh.2).symm⟩
  have EQL : Hid (∀ k n, k ≤ n → (quantaM M l c k).length ≤ (quantaM M l c n).length) := fun k n hn => quanta_mono k n hn
  have HYS : Hid (∀ y ∈ slotsL M c 32, ∃ s : Nat, y = s ∧ s < 32 ∧ ((M.S s).kind = 1 → (M.S s).len < m)) := fun y hy => by
    obtain ⟨s, rfl, hs, hl⟩ := slotsL_mem hy
    refine ⟨s, rfl, hs, fun hk => ?_⟩
    have := h.inv.tree.len_lt hs hk hc hck (h.inv.tree.slot_inside hs hk hc hck (lies_spec hl).2.2.1)
    omega
  have HCC : Hid (∀ (W : World) (v' : Value) (zs : List Int), VK W B vb kb M ob cb qp l v' zs → W.cell? ⟨ob c, 5, none⟩ = some (.int .i64 g) ∧ W.cell? ⟨ob c, 6, none⟩ = some (.int .i64 hh) ∧ ob c < W.heap.size) := fun W v' zs hW => by
    obtain ⟨-, -, d5, d6⟩ := hW.kp.cont hc hck
    rw [hg] at d5
    rw [hhh] at d6
    exact ⟨d5, d6, hW.kp.oblt hc (by omega)⟩
  have HS := hide (slotsIn_any h c hc hck)
  have hsl := slotsL_len M c 32
  have HTC := hide tc
  have HCK := hide hck
  have H := hide h
  have HLEN := hide hlen
  have hBw := h.Blt
  clear h tc hck hsub hcl et hr hg hhh hin hlen
  generalize slotsL M c 32 = ys at *
  go_enter Tryz.func62, Tryz.ntmps62
  go_wp2_with fail
  refine HS.out.mono ?_
  clear HS
  rintro e w1 ⟨sv, rfl, o1, b1⟩
  have H1 := hide (H.out.below b1)
  have G1 : Hid (VGo M cb vb w v w1 v) := VGo.of_below b1
  obtain ⟨sa, sc, hsv⟩ := o1.form'
  have harg : Hid (ys = [] ∨ ∃ lb, sa = some ⟨lb, 0, none⟩ ∧ Arg w1 lb 0 ys ∧ Aside w1 cb M vb v lb) := by
    rcases o1.arg with h0 | ⟨lb, cc, e1, e2, e3⟩
    · exact Or.inl h0
    · rw [hsv] at e1
      injection e1 with e1
      refine Or.inr ⟨lb, e1, e3, ⟨fun hcf => ?_, fun e => ?_, fun e => ?_⟩⟩
      · have := H.out.cfB hcf; omega
      · have := H.out.lt; omega
      · have := (H.out.outs.row e).2; omega
  subst hsv
  clear o1 b1 H
  go_wp2_with fail
  go_loopw [13] (fun x w' => ∃ (j : Nat) (v' : Value), j ≤ ys.length ∧ x = .int .i64 j ∧ VK w' B vb kb M ob cb qp l v' (xs ++ slotsF M l (ys.take j)) ∧ VGo M cb vb w v w' v' ∧ (ys = [] ∨ ∃ lb, sa = some ⟨lb, 0, none⟩ ∧ Arg w' lb 0 ys ∧ Aside w' cb M vb v' lb)) (fun x _ => ys.length - (intOf x).toNat)
  case atStart => exact ⟨0, v, by omega, rfl, by simpa [slotsF] using H1.out, G1.out, harg.out⟩
  case round =>
    obtain ⟨j, v1, hj, rfl, h2, g2, a2⟩ := hrel
    clear H1 G1 harg
    have H2 := hide h2
    have G2 := hide g2
    have hvl := h2.lt
    by_cases hjn : j < ys.length
    · have hji : (j : Int) < (ys.length : Int) := by omega
      obtain ⟨y, hy⟩ : ∃ y, ys[j]? = some y := ⟨_, List.getElem?_eq_getElem hjn⟩
      obtain ⟨s, rfl, hs, -⟩ := HYS.out y (List.mem_of_getElem? hy)
      have hne : ys ≠ [] := fun e => by rw [e] at hjn; simp at hjn
      obtain ⟨lb, rfl, aA, aS⟩ := a2.resolve_left hne
      have hcell := aA.cell j _ hy
      rw [Nat.zero_add] at hcell
      have hll := aA.lt
      have EK : Hid (slotsF M l (ys.take (j + 1)) = slotsF M l (ys.take j) ++ thingM M l s) := flat_take (f := fun s => thingM M l s.toNat) hy
      have LE : (xs ++ slotsF M l (ys.take j)).length + 11 ≤ 1000000 := by
        have e1 : (slotsF M l (ys.take j)).length ≤ (slotsF M l ys).length := flat_le (f := fun s => thingM M l s.toNat) (ys := ys) j
        have := HLEN.out
        rw [List.length_append]
        omega
      have AA := hide aA
      have AS := hide aS
      have TS := hide (tellSlot_any h2 s hs LE)
      clear h2 g2 a2 aA aS hy hne LE
      go_wp2_with fail
      refine TS.out.mono ?_
      clear TS
      rintro e w4 ⟨rfl, v4, h4, g4⟩
      have H4 := hide h4
      have G4 := hide (G2.out.trans g4)
      have A4 := hide (AS.out.go hll g4)
      have AA4 := hide (AA.out.same (AS.out.go hll g4).2 g4.size)
      clear h4 g4 H2 G2 AA AS
      go_wp2_with fail
      exact ⟨⟨j + 1, v4, by omega, by go_num, by rw [EK.out, ← List.append_assoc]; exact H4.out, G4.out, Or.inr ⟨lb, rfl, AA4.out, A4.out.1⟩⟩, by simp [intOf]; omega⟩
    · have : j = ys.length := by omega
      subst this
      rw [List.take_length] at h2 H2
      have A2 := hide a2
      obtain ⟨d5, d6, hol⟩ := HCC.out _ _ _ h2
      clear h2 g2 a2
      go_wp2_with fail
      clear d5 d6
      go_loopw [7] (fun x w' => ∃ (k : Nat) (v' : Value), g ≤ k ∧ k ≤ hh ∧ x = .int .i64 k ∧ VK w' B vb kb M ob cb qp l v' (xs ++ slotsF M l ys ++ quantaM M l c k) ∧ VGo M cb vb w v w' v' ∧ (ys = [] ∨ ∃ lb, sa = some ⟨lb, 0, none⟩ ∧ Arg w' lb 0 ys ∧ Aside w' cb M vb v' lb)) (fun x _ => hh - (intOf x).toNat)
      case atStart => exact ⟨g, v1, by omega, by omega, rfl, by rw [EQ.out.1, List.append_nil]; exact H2.out, G2.out, A2.out⟩
      case round =>
        obtain ⟨k, v3, hk1, hk2, rfl, h3, g3, a3⟩ := hrel
        clear H2 G2 A2
        have H3 := hide h3
        have G3 := hide g3
        have A3 := hide a3
        have hvl3 := h3.lt
        obtain ⟨d5, d6, hol3⟩ := HCC.out _ _ _ h3
        obtain ⟨d0, -, -, -⟩ := h3.cells
        clear h3 g3 a3
        by_cases hkh : k < hh
        · have hki : (k : Int) < (hh : Int) := by omega
          go_wp2_with fail
          refine (quantumHome_any H3.out.kp k).mono ?_
          rintro r w4 ⟨rfl, hb4⟩
          have H4 := hide (H3.out.below hb4)
          have g4 : VGo M cb vb _ v3 w4 v3 := VGo.of_below hb4
          have G4 := hide (G3.out.trans g4)
          have A4 : Hid (ys = [] ∨ ∃ lb, sa = some ⟨lb, 0, none⟩ ∧ Arg w4 lb 0 ys ∧ Aside w4 cb M vb v3 lb) := A3.out.imp id (fun ⟨lb, e1, e2, e3⟩ => ⟨lb, e1, e2.same (e3.go e2.lt g4).2 g4.size, (e3.go e2.lt g4).1⟩)
          have hcmp := eql_home H4.out.kp (has M.S k) (fun d hd => has_kind hd) c hc HCK.out
          have hvl4 := H4.out.lt
          clear hb4 g4 d0 d5 d6 H3 G3 A3
          rcases ptrV_shape ((has M.S k).map ob) with hv | ⟨g', hv⟩ <;> rw [hv] at hcmp ⊢
          all_goals
            by_cases hli : has M.S k = some c
            · have es : Hid (quantaM M l c (k + 1) = quantaM M l c k ++ [(k : Int), whoM M l k]) := by
                unfold Hid
                show quantaM M l c k ++ (if has M.S k = some c then [(k : Int), whoM M l k] else []) = _
                rw [if_pos hli]
              rw [decide_eq_true hli] at hcmp
              clear hli
              have LE : (xs ++ slotsF M l ys ++ quantaM M l c k).length + 11 ≤ 1000000 := by
                have e1 := EQL.out k 8 (by omega)
                have e3 := HLEN.out
                rw [List.length_append, List.length_append]
                omega
              have TQ := hide (tellQuantum_any H4.out k (by omega) LE)
              clear LE
              go_wp2_with fail
              refine TQ.out.mono ?_
              clear TQ
              rintro e w5 ⟨rfl, v5, h5, g5⟩
              have H5 := hide h5
              have G5 := hide (G4.out.trans g5)
              have A5 : Hid (ys = [] ∨ ∃ lb, sa = some ⟨lb, 0, none⟩ ∧ Arg w5 lb 0 ys ∧ Aside w5 cb M vb v5 lb) := A4.out.imp id (fun ⟨lb, e1, e2, e3⟩ => ⟨lb, e1, e2.same (e3.go e2.lt g5).2 g5.size, (e3.go e2.lt g5).1⟩)
              clear h5 g5 H4 G4 A4
              go_wp2_with fail
              exact ⟨⟨k + 1, v5, by omega, by omega, by go_num, by rw [es.out, ← List.append_assoc]; exact H5.out, G5.out, A5.out⟩, by simp [intOf]; omega⟩
            · have es : Hid (quantaM M l c (k + 1) = quantaM M l c k) := by
                unfold Hid
                show quantaM M l c k ++ (if has M.S k = some c then [(k : Int), whoM M l k] else []) = _
                rw [if_neg hli, List.append_nil]
              rw [decide_eq_false hli] at hcmp
              clear hli
              go_wp2_with fail
              exact ⟨⟨k + 1, v3, by omega, by omega, by go_num, by rw [es.out]; exact H4.out, G4.out, A4.out⟩, by simp [intOf]; omega⟩
        · have : k = hh := by omega
          subst this
          have E8 := EQ.out.2
          rw [E8] at H3
          have TT : Hid (Calls Tryz.prog 36 #[.pointer (some ⟨vb, 0, none⟩), .slice sa ys.length sc] wr fun e w' => e = .returned (.tuple #[]) ∧ ∃ v', VK w' B vb kb M ob cb qp l v' (xs ++ slotsF M l ys ++ quantaM M l c 8 ++ kidsF M (tellsM M l m) ys) ∧ VGo M cb vb wr v3 w' v') := by
            have hle : (xs ++ slotsF M l ys ++ quantaM M l c 8).length + (kidsF M (tellsM M l m) ys).length + 11 ≤ 1000000 := by
              have := HLEN.out
              rw [List.length_append, List.length_append]
              omega
            rcases A3.out with h0 | ⟨lb, e1, e2, e3⟩
            · exact tellContainers_any m HTC.out wr v3 _ ys H3.out 0 0 sc (Or.inl h0) hle (by omega) HYS.out sa (Or.inr h0)
            · exact tellContainers_any m HTC.out wr v3 _ ys H3.out lb 0 sc (Or.inr ⟨e2, e3⟩) hle (by omega) HYS.out sa (Or.inl e1)
          clear H3 A3 E8
          go_wp2_with fail
          refine TT.out.mono ?_
          clear TT
          rintro e w5 ⟨rfl, v5, h5, g5⟩
          have H5 := hide h5
          have G5 := hide (G3.out.trans g5)
          clear h5 g5
          go_wp2_with fail
          go_end0
          exact ⟨rfl, v5, by have := H5.out; simpa [List.append_assoc] using this, G5.out⟩

theorem tc_all : ∀ n, TC B vb kb M ob cb qp l n
  | 0 => fun c hc hck _ hcl w v xs h _ => by
    have := (h.inv.tree.len_pos hc hck).1
    omega
  | n + 1 => tc_step n (tc_all n)
end

section
variable {w : World} {kb : Nat} {M : MS} {ob cb : Nat → Nat} {qp : Nat → Option Nat}

set_option maxHeartbeats 2000000 in
theorem view_no (lab : Int) (hl : lab < 0 ∨ 255 < lab) : Calls Tryz.prog 20 #[.pointer (some ⟨kb, 0, none⟩), .int .i64 lab] w fun e w' => e = .returned (.slice none 0 0) ∧ w' = w := by
  rcases hl with hl | hl
  · go_enter Tryz.func20, Tryz.ntmps20
    go_wp2_with fail
    go_ret
    exact ⟨rfl, rfl⟩
  · have hl2 : ¬ lab < 0 := by omega
    go_enter Tryz.func20, Tryz.ntmps20
    go_wp2_with fail
    go_ret
    exact ⟨rfl, rfl⟩

set_option maxHeartbeats 4000000 in
theorem view_yes (h : KP w kb M ob cb qp) (hI : MInv M) (l : Nat) (hl : l < 256) :
    Calls Tryz.prog 20 #[.pointer (some ⟨kb, 0, none⟩), .int .i64 l] w fun e w' => ∃ v, e = .returned v ∧ Outs w' w.heap.size v (viewM M l) ∧ KP w' kb M ob cb qp ∧ Fr (Foot kb M ob cb qp) w w' := by
  have ev : viewM M l = [(M.ph : Int)] ++ tellsM M l DEEP 0 := by
    unfold viewM
    rw [if_neg (by omega), Int.toNat_natCast]
    rfl
  rw [ev]
  have l1 : ¬ (l : Int) < 0 := by omega
  have l2 : ¬ (255 : Int) < (l : Int) := by omega
  have p0 := h.phase
  have hkl := h.lt
  have hbel : Below w.heap.size w (w.alloc (.cells #[.pointer (some ⟨kb, 0, none⟩), .int .i64 l, .slice none 0 0] 99)) := (Below.refl _ _).alloc (Nat.le_refl _) _
  have V0 : VK (w.alloc (.cells #[.pointer (some ⟨kb, 0, none⟩), .int .i64 l, .slice none 0 0] 99)) w.heap.size w.heap.size kb M ob cb qp l (.slice none 0 0) [] :=
    ⟨h.below hbel, hI, fun k hk => h.foot_lt hk, Nat.le_refl _, Blk.new _ _ _, Outs.nil _ _, by simp [Value.ownBlock], hl⟩
  have p1 := V0.kp.phase
  have HV := hide V0
  have HB := hide hbel
  have hT := tells_len hI l DEEP 0 (by omega) hI.tree.root.1
  have hL := hI.tree.len_pos (c := 0) (by omega) hI.tree.root.1
  have HR := hide hI.tree.root.1
  have HL := hide hL
  have hs1 : (w.alloc (.cells #[.pointer (some ⟨kb, 0, none⟩), .int .i64 l, .slice none 0 0] 99)).heap.size = w.heap.size + 1 := by simp
  clear h hI ev V0 hbel p0
  go_enter Tryz.func20, Tryz.ntmps20
  go_wp2_with fail
  generalize (w.alloc (.cells #[.pointer (some ⟨kb, 0, none⟩), .int .i64 l, .slice none 0 0] 99)) = w1 at *
  have TN := tell_new HV.out #[.int .i64 M.ph] 1 [(M.ph : Int)] rfl rfl (by simp)
  rw [hs1] at TN
  refine TN.mono ?_
  clear TN
  rintro e w2 ⟨rfl, v2, h2, g2⟩
  have H2 := hide h2
  have G2 := hide g2
  have hvl2 := h2.lt
  have TT : Hid (Calls Tryz.prog 36 #[.pointer (some ⟨w.heap.size, 0, none⟩), .slice (some ⟨w2.heap.size, 0, none⟩) 1 1] (w2.alloc (.cells #[.int .i64 0] 3)) fun e w' => e = .returned (.tuple #[]) ∧ ∃ v', VK w' w.heap.size w.heap.size kb M ob cb qp l v' ([(M.ph : Int)] ++ tellsM M l DEEP 0) ∧ VGo M cb w.heap.size w2 v2 w' v') := by
    have hb : Below w2.heap.size w2 (w2.alloc (.cells #[.int .i64 0] 3)) := (Below.refl _ _).alloc (Nat.le_refl _) _
    have ek : kidsF M (tellsM M l DEEP) [0] = tellsM M l DEEP 0 := by
      unfold kidsF
      simp [HR.out]
    have := tellContainers_any DEEP (tc_all DEEP) (w2.alloc (.cells #[.int .i64 0] 3)) v2 _ [0] (h2.below hb) w2.heap.size 0 1 (Or.inr ⟨⟨by simp, fun i x hx => ?_⟩, ⟨fun hcf => ?_, fun e => ?_, fun e => ?_⟩⟩) (by rw [ek]; simp; omega) (by simp) (fun y hy => ⟨0, by simpa using hy, by omega, fun _ => Int.lt_of_le_of_lt HL.out.2 (by decide)⟩) (some ⟨w2.heap.size, 0, none⟩) (Or.inl rfl)
    · rw [ek] at this
      refine this.mono ?_
      rintro e w' ⟨rfl, v', h3, g3⟩
      exact ⟨rfl, v', by simpa using h3, (VGo.of_below hb).trans g3⟩
    · rw [Nat.zero_add, (Blk.new w2 #[.int .i64 0] 3).cell]
      rcases i with _ | i
      · simp at hx; subst hx; rfl
      · simp at hx
    · have := h2.cfB hcf; omega
    · omega
    · have := (h2.outs.row e).2; omega
  clear h2 g2
  go_wp2_with fail
  refine TT.out.mono ?_
  clear TT
  rintro e w3 ⟨rfl, v3, h3, g3⟩
  obtain ⟨-, -, c2, -⟩ := h3.cells
  have H3 := hide h3
  have G3 := hide (G2.out.trans g3)
  have hvl3 := h3.lt
  clear h3 g3 H2 G2
  go_wp2_with fail
  go_ret
  refine ⟨v3, rfl, H3.out.outs, H3.out.kp, ⟨G3.out.os.trans HB.out.os, G3.out.tape.trans HB.out.tape, G3.out.output.trans HB.out.output, by have := G3.out.size; omega, fun k hk hn => ?_⟩⟩
  exact (G3.out.block k (by omega) (fun hc => hn hc.foot) (by omega) (by simp [Value.ownBlock])).trans (HB.out.block k hk)

/-- 'View'. -/
theorem p_view (h : KP w kb M ob cb qp) (hI : MInv M) (lab : Int) :
    Calls Tryz.prog 20 #[.pointer (some ⟨kb, 0, none⟩), .int .i64 lab] w fun e w' => ∃ v, e = .returned v ∧ Outs w' w.heap.size v (viewM M lab) ∧ KP w' kb M ob cb qp ∧ Fr (Foot kb M ob cb qp) w w' := by
  by_cases hl : lab < 0 ∨ 255 < lab
  · refine (view_no lab hl).mono ?_
    rintro e w' ⟨rfl, rfl⟩
    have ev : viewM M lab = [] := by unfold viewM; rw [if_pos hl]
    rw [ev]
    exact ⟨_, rfl, Outs.nil _ _, h, Fr.refl _ _⟩
  · obtain ⟨l, rfl⟩ : ∃ l : Nat, lab = l := ⟨lab.toNat, by omega⟩
    exact view_yes h hI l (by omega)
end

end Go.Proofs.YtloppmepfkkblaaGreat
end
