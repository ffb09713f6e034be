/- What the program tells under a label: 'tellContainer', 'tellContainers', 'View'. -/
import Derived.Test.YtloppmepfkkblaaJKTellToKSlots
open Go Go.Proofs Go.RowKit
namespace Go.Proofs.Ytloppmepfkkblaa

/-- What is told of the containers among these slots. -/
def kidsF (M : MS) (f : Nat → List Int) (ys : List Int) : List Int := ys.flatMap fun s => if (M.S s.toNat).kind = 1 then f s.toNat else []
def slotsF (M : MS) (l : Nat) (ys : List Int) : List Int := ys.flatMap fun s => thingM M l s.toNat

theorem lies_pos {M : MS} (h : MInv M) {c : Nat} (hl : lies M.S ((0 : Nat) : Int) = some c) : False := by
  obtain ⟨h1, h2, h3, _⟩ := lies_spec hl
  have := h.tree.rng c h1 h2
  unfold Th.inR at h3
  omega

theorem slotsM_eq {M : MS} (h : MInv M) (l c : Nat) : ∀ k, slotsM M l c k = slotsF M l (slotsL M c k)
  | 0 => rfl
  | k + 1 => by
    unfold slotsM slotsL slotsF
    rw [List.flatMap_append, slotsM_eq h l c k]
    congr 1
    by_cases e : lies M.S k = some c
    · have : 1 ≤ k := by
        rcases Nat.eq_zero_or_pos k with h0 | h0
        · subst h0; exact (lies_pos h e).elim
        · exact h0
      rw [if_pos ⟨this, e⟩, if_pos e]
      simp
    · rw [if_neg (fun x => e x.2), if_neg e]
      rfl

theorem kidsM_eq {M : MS} (h : MInv M) (c : Nat) (f : Nat → List Int) : ∀ k, kidsM M c f k = kidsF M f (slotsL M c k)
  | 0 => rfl
  | k + 1 => by
    unfold kidsM slotsL kidsF
    rw [List.flatMap_append, kidsM_eq h c f k]
    congr 1
    by_cases e : lies M.S k = some c
    · have : 1 ≤ k := by
        rcases Nat.eq_zero_or_pos k with h0 | h0
        · subst h0; exact (lies_pos h e).elim
        · exact h0
      rw [if_pos e]
      by_cases e1 : (M.S k).kind = 1
      · rw [if_pos ⟨this, e1, e⟩]
        simp [e1]
      · rw [if_neg (fun x => e1 x.2.1)]
        simp [e1]
    · rw [if_neg (fun x => e x.2.2), if_neg e]
      rfl

theorem flat_take {f : Int → List Int} {ys : List Int} {j : Nat} {y : Int} (h : ys[j]? = some y) : (ys.take (j + 1)).flatMap f = (ys.take j).flatMap f ++ f y := by
  rw [List.take_add_one, h, List.flatMap_append]
  simp
theorem flat_le {f : Int → List Int} {ys : List Int} (j : Nat) : ((ys.take j).flatMap f).length ≤ (ys.flatMap f).length := by
  conv => rhs; rw [← List.take_append_drop j ys, List.flatMap_append, List.length_append]
  omega

theorem Arg.same {w w' : World} {lb lo : Nat} {ys : List Int} (h : Arg w lb lo ys) (e : w'.heap[lb]? = w.heap[lb]?) (hs : w.heap.size ≤ w'.heap.size) : Arg w' lb lo ys :=
  ⟨Nat.lt_of_lt_of_le h.lt hs, fun i x hx => (cell_same e _).trans (h.cell i x hx)⟩

section
variable {B vb kb : Nat} {M : MS} {ob cb : Nat → Nat} {qp : Nat → Option Nat} {l : Nat}

/-- 'tellContainer' tells what it should, of all containers that are not greater than n. -/
def TC (B vb kb : Nat) (M : MS) (ob cb : Nat → Nat) (qp : Nat → Option Nat) (l n : Nat) : Prop :=
  ∀ c, c < 32 → (M.S c).kind = 1 → sub (M.S c).label l = true → (M.S c).len < n → ∀ (w : World) (v : Value) (xs : List Int), VK w B vb kb M ob cb qp l v xs → xs.length + (tellsM M l n c).length + 11 ≤ 1000000 →
    Calls Try.prog 31 #[.pointer (some ⟨vb, 0, none⟩), .pointer (some ⟨ob c, 0, none⟩)] w fun e w' => e = .returned (.tuple #[]) ∧ ∃ v', VK w' B vb kb M ob cb qp l v' (xs ++ tellsM M l n c) ∧ VGo M cb vb w v w' v'

/-- Where a row of the caller's own lies. -/
structure Aside (w : World) (cb : Nat → Nat) (M : MS) (vb : Nat) (v : Value) (lb : Nat) : Prop where
  cf : ¬ CF M cb lb
  vb : lb ≠ vb
  own : v.ownBlock ≠ some lb
theorem Aside.go {w w' : World} {v v' : Value} {lb : Nat} (h : Aside w cb M vb v lb) (hl : lb < w.heap.size) (g : VGo M cb vb w v w' v') : Aside w' cb M vb v' lb ∧ w'.heap[lb]? = w.heap[lb]? :=
  ⟨⟨h.cf, h.vb, g.own lb hl h.own⟩, g.block lb hl h.cf h.vb h.own⟩

set_option maxRecDepth 100000 in
set_option maxHeartbeats 4000000 in
theorem tellContainers_any (n : Nat) (tc : TC B vb kb M ob cb qp l n) (w : World) (v : Value) (xs ys : List Int) (h : VK w B vb kb M ob cb qp l v xs) (lb lo sc : Nat) (ha : ys = [] ∨ Arg w lb lo ys ∧ Aside w cb M vb v lb) (hlen : xs.length + (kidsF M (tellsM M l n) ys).length + 11 ≤ 1000000) (hy1 : ys.length ≤ 1000)
    (hys : ∀ y ∈ ys, ∃ s : Nat, y = s ∧ s < 32 ∧ ((M.S s).kind = 1 → (M.S s).len < n)) (sa : Option Addr) (hsa : sa = some ⟨lb, lo, none⟩ ∨ ys = []) :
    Calls Try.prog 23 #[.pointer (some ⟨vb, 0, none⟩), .slice sa ys.length sc] w fun e w' => e = .returned (.tuple #[]) ∧ ∃ v', VK w' B vb kb M ob cb qp l v' (xs ++ kidsF M (tellsM M l n) ys) ∧ VGo M cb vb w v w' v' := by
  have H := hide h
  have HA := hide ha
  have HYS := hide hys
  have HLEN := hide hlen
  have HTC := hide tc
  clear h ha hys hlen tc
  go_enter Try.func23, Try.ntmps23
  go_wp2_with fail
  go_loopw [10] (fun x w' => ∃ (j : Nat) (v' : Value), j ≤ ys.length ∧ x = .int .i64 j ∧ VK w' B vb kb M ob cb qp l v' (xs ++ kidsF M (tellsM M l n) (ys.take j)) ∧ VGo M cb vb w v w' v' ∧ (ys = [] ∨ Arg w' lb lo ys ∧ Aside w' cb M vb v' lb)) (fun x _ => ys.length - (intOf x).toNat)
  case atStart => exact ⟨0, v, by omega, rfl, by simpa [kidsF] using H.out, VGo.of_below (Below.refl _ _), HA.out⟩
  case round =>
    obtain ⟨j, v1, hj, rfl, h1, g1, a1⟩ := hrel
    have H1 := hide h1
    have G1 := hide g1
    have A1 := hide a1
    have hvl := h1.lt
    have hkl := h1.kp.lt
    obtain ⟨c0, -, -, -⟩ := h1.cells
    by_cases hjn : j < ys.length
    · have hji : (j : Int) < (ys.length : Int) := by omega
      obtain ⟨y, hy⟩ : ∃ y, ys[j]? = some y := ⟨_, List.getElem?_eq_getElem hjn⟩
      obtain ⟨s, rfl, hs, hsl⟩ := HYS.out y (List.mem_of_getElem? hy)
      have hne : ys ≠ [] := fun e => by rw [e] at hjn; simp at hjn
      obtain ⟨aA, aS⟩ := a1.resolve_left hne
      have hsa' : sa = some ⟨lb, lo, none⟩ := hsa.resolve_right hne
      subst hsa'
      have hcell := aA.cell j _ hy
      have hll := aA.lt
      have hsi : (s : Int) < 32 := by omega
      have s0 := h1.kp.slot hs
      have EK : Hid (kidsF M (tellsM M l n) (ys.take (j + 1)) = kidsF M (tellsM M l n) (ys.take j) ++ (if (M.S s).kind = 1 then tellsM M l n s else [])) := flat_take (f := fun s => if (M.S s.toNat).kind = 1 then tellsM M l n s.toNat else []) hy
      have LE : Hid (xs.length + (kidsF M (tellsM M l n) (ys.take j)).length + (if (M.S s).kind = 1 then tellsM M l n s else []).length + 11 ≤ 1000000) := by
        have e1 := flat_le (f := fun s => if (M.S s.toNat).kind = 1 then tellsM M l n s.toNat else []) (ys := ys) (j + 1)
        have e2 := congrArg List.length EK.out
        rw [List.length_append] at e2
        have e3 : (kidsF M (tellsM M l n) (ys.take (j + 1))).length ≤ (kidsF M (tellsM M l n) ys).length := e1
        have := HLEN.out
        unfold Hid
        omega
      have AA := hide aA
      have AS := hide aS
      clear h1 g1 a1 aA aS hy hsa hne
      by_cases hk : (M.S s).kind = 1
      · rw [if_pos hk] at EK LE
        rw [obV_ob (by omega), hk, tyOf1] at s0
        have KK : Hid (∀ (w3 : World), VK w3 B vb kb M ob cb qp l v1 (xs ++ kidsF M (tellsM M l n) (ys.take j)) → Calls Try.prog 30 #[.pointer (some ⟨vb, 0, none⟩), .iface 84 (.pointer (some ⟨ob s, 0, none⟩))] w3 fun e w' => e = .returned (.bool (sub (M.S s).label l)) ∧ Below w3.heap.size w3 w') := fun w3 h3 => by
          have := knows_any h3 s hs (by omega)
          rw [hk, tyOf1] at this
          exact this
        have ta := fun w => ta_container_container w (ob s)
        have HK := hide hk
        clear hk
        go_wp2_with fail
        refine (KK.out wr H1.out).mono ?_
        clear KK
        rintro e w3 ⟨rfl, hb3⟩
        have H3 := hide (H1.out.below hb3)
        have g3 : VGo M cb vb wr v1 w3 v1 := VGo.of_below hb3
        have G3 := hide (G1.out.trans g3)
        have A3 := hide (AS.out.go hll g3)
        have AA3 := hide (AA.out.same (AS.out.go hll g3).2 g3.size)
        have hvl3 := H3.out.lt
        clear hb3 g3 H1 G1 AA AS c0 s0 hcell
        cases hsub : sub (M.S s).label l with
        | false =>
          have et : tellsM M l n s = [] := by
            cases n with
            | zero => rfl
            | succ m =>
              unfold tellsM
              rw [if_neg (by rw [hsub]; decide)]
          rw [et, List.append_nil] at EK
          clear et hsub
          go_wp2_with fail
          exact ⟨⟨j + 1, v1, by omega, by go_num, by rw [EK.out]; exact H3.out, G3.out, Or.inr ⟨AA3.out, A3.out.1⟩⟩, by simp [intOf]; omega⟩
        | true =>
          have T3 := hide (HTC.out s hs HK.out hsub (hsl HK.out) w3 v1 _ H3.out (by rw [List.length_append]; exact LE.out))
          clear hsub
          go_wp2_with fail
          refine T3.out.mono ?_
          clear T3
          rintro e w4 ⟨rfl, v4, h4, g4⟩
          have H4 := hide h4
          have G4 := hide (G3.out.trans g4)
          have A4 := hide (A3.out.1.go AA3.out.lt g4)
          have AA4 := hide (AA3.out.same (A3.out.1.go AA3.out.lt g4).2 g4.size)
          clear h4 g4 H3 G3 A3 AA3
          go_wp2_with fail
          exact ⟨⟨j + 1, v4, by omega, by go_num, by rw [EK.out, ← List.append_assoc]; exact H4.out, G4.out, Or.inr ⟨AA4.out, A4.out.1⟩⟩, by simp [intOf]; omega⟩
      · rw [if_neg hk, List.append_nil] at EK
        have ta : ∀ w : World, (Instr.typeAssert (obV (M.S s) (ob s)) 61 84 true).run Try.prog w = .ok (.tuple #[.pointer none, .bool false]) w := fun w => by
          by_cases e0 : (M.S s).kind = 0
          · rw [obV_nil e0]; exact ta_container_nil w
          · rw [obV_ob e0]
            rcases H1.out.kp.kind14 hs e0 with e | e | e | e
            · exact absurd e hk
            · rw [e, tyOf2]; exact ta_container_thread w _
            · rw [e, tyOf3]; exact ta_container_segment w _
            · rw [e, tyOf4]; exact ta_container_port w _
        generalize obV (M.S s) (ob s) = sv at *
        clear hk
        go_wp2_with fail
        exact ⟨⟨j + 1, v1, by omega, by go_num, by rw [EK.out]; exact H1.out, G1.out, Or.inr ⟨AA.out, AS.out⟩⟩, by simp [intOf]; omega⟩
    · have : j = ys.length := by omega
      subst this
      clear h1 g1 a1
      go_wp2_with fail
      go_end0
      exact ⟨rfl, v1, by have := H1.out; rwa [List.take_length] at this, G1.out⟩

theorem Outs.arg {w : World} {B' : Nat} {sv : Value} {ys : List Int} (h : Outs w B' sv ys) : ys = [] ∨ ∃ g c, sv = .slice (some ⟨g, 0, none⟩) ys.length c ∧ B' ≤ g ∧ Arg w g 0 ys := by
  rcases h.2 with ⟨h1, h2⟩ | ⟨g, cap, cur, h1, h2, h3, h4, h5, h6, h7⟩
  · exact Or.inl (List.length_eq_zero_iff.1 h2)
  · by_cases hne : ys = []
    · exact Or.inl hne
    · refine Or.inr ⟨g, cap, h1, h2, (Array.getElem?_eq_some_iff.1 h3).1, fun j y hy => ?_⟩
      have hB : Blk w g cur := ⟨_, h3⟩
      rw [Nat.zero_add, hB.cell, ← Array.getElem?_toList]
      have hj : j < ys.length := (List.getElem?_eq_some_iff.1 hy).1
      have e := congrArg (fun l => l[j]?) h7
      simp only [Nat.mul_one, List.getElem?_map, hy] at e
      rw [List.getElem?_take_of_lt hj] at e
      exact e
theorem Outs.form' {w : World} {B' : Nat} {sv : Value} {ys : List Int} (h : Outs w B' sv ys) : ∃ a c, sv = .slice a ys.length c := by
  rcases h.2 with ⟨h1, h2⟩ | ⟨g, cap, cur, h1, _⟩
  · exact ⟨none, 0, by rw [h1]; rw [h2]⟩
  · exact ⟨_, _, h1⟩

theorem quanta_mono {M : MS} {c : Nat} (k : Nat) : ∀ n, k ≤ n → (quantaM M l c k).length ≤ (quantaM M l c n).length
  | 0, h => by have : k = 0 := by omega
               rw [this]; exact Nat.le_refl _
  | n + 1, h => by
    by_cases e : k = n + 1
    · rw [e]; exact Nat.le_refl _
    · have := quanta_mono (M := M) (c := c) k n (by omega)
      conv => rhs; unfold quantaM
      rw [List.length_append]
      omega
theorem quanta_lo {M : MS} {c a : Nat} (ha : ∀ s : Nat, has M.S s = some c → a ≤ s) : ∀ k, k ≤ a → quantaM M l c k = []
  | 0, _ => rfl
  | k + 1, h => by
    unfold quantaM
    rw [quanta_lo ha k (by omega), if_neg (fun e => by have := ha k e; omega)]
    rfl
theorem quanta_hi {M : MS} {c b : Nat} (hb : ∀ s : Nat, has M.S s = some c → s < b) : ∀ k, b ≤ k → quantaM M l c k = quantaM M l c b
  | 0, h => by have : b = 0 := by omega
               rw [this]
  | k + 1, h => by
    by_cases e : b = k + 1
    · rw [e]
    · show quantaM M l c k ++ (if has M.S k = some c then [(k : Int), whoM M l k] else []) = quantaM M l c b
      rw [if_neg (fun e => by have := hb k e; omega), List.append_nil]
      exact quanta_hi hb k (by omega)

set_option maxRecDepth 100000 in
set_option maxHeartbeats 8000000 in
theorem tc_step (m : Nat) (tc : TC B vb kb M ob cb qp l m) : TC B vb kb M ob cb qp l (m + 1) := by
  intro c hc hck hsub hcl w v xs h hlen
  have et : tellsM M l (m + 1) c = slotsF M l (slotsL M c 32) ++ quantaM M l c 8 ++ kidsF M (tellsM M l m) (slotsL M c 32) := by
    unfold tellsM
    rw [if_pos hsub, slotsM_eq h.inv, kidsM_eq h.inv]
  rw [et] at hlen ⊢
  rw [List.length_append, List.length_append] at hlen
  have hr := h.inv.tree.rng c hc hck
  obtain ⟨g, hg⟩ : ∃ a : Nat, (M.S c).G = a := ⟨(M.S c).G.toNat, by omega⟩
  obtain ⟨hh, hhh⟩ : ∃ b : Nat, (M.S c).H = b := ⟨(M.S c).H.toNat, by omega⟩
  have hgh : g ≤ hh ∧ hh ≤ 8 := by omega
  have hin : ∀ s : Nat, has M.S s = some c → g ≤ s ∧ s < hh := fun s hs => by
    have := (has_spec hs).2.2.1
    unfold Th.inQ at this
    omega
  have EQ : Hid (quantaM M l c g = [] ∧ quantaM M l c hh = quantaM M l c 8) := ⟨quanta_lo (fun s hs => (hin s hs).1) g (Nat.le_refl _), (quanta_hi (fun s hs => (hin s hs).2) 8 hgh.2).symm⟩
  have EQL : Hid (∀ k n, k ≤ n → (quantaM M l c k).length ≤ (quantaM M l c n).length) := fun k n hn => quanta_mono k n hn
  have HYS : Hid (∀ y ∈ slotsL M c 32, ∃ s : Nat, y = s ∧ s < 32 ∧ ((M.S s).kind = 1 → (M.S s).len < m)) := fun y hy => by
    obtain ⟨s, rfl, hs, hl⟩ := slotsL_mem hy
    refine ⟨s, rfl, hs, fun hk => ?_⟩
    have := h.inv.tree.len_lt hs hk hc hck (h.inv.tree.slot_inside hs hk hc hck (lies_spec hl).2.2.1)
    omega
  have HCC : Hid (∀ (W : World) (v' : Value) (zs : List Int), VK W B vb kb M ob cb qp l v' zs → W.cell? ⟨ob c, 5, none⟩ = some (.int .i64 g) ∧ W.cell? ⟨ob c, 6, none⟩ = some (.int .i64 hh) ∧ ob c < W.heap.size) := fun W v' zs hW => by
    obtain ⟨-, -, d5, d6⟩ := hW.kp.cont hc hck
    rw [hg] at d5
    rw [hhh] at d6
    exact ⟨d5, d6, hW.kp.oblt hc (by omega)⟩
  have HS := hide (slotsIn_any h c hc hck)
  have hsl := slotsL_len M c 32
  have HTC := hide tc
  have HCK := hide hck
  have H := hide h
  have HLEN := hide hlen
  have hBw := h.Blt
  clear h tc hck hsub hcl et hr hg hhh hin hlen
  generalize slotsL M c 32 = ys at *
  go_enter Try.func31, Try.ntmps31
  go_wp2_with fail
  refine HS.out.mono ?_
  clear HS
  rintro e w1 ⟨sv, rfl, o1, b1⟩
  have H1 := hide (H.out.below b1)
  have G1 : Hid (VGo M cb vb w v w1 v) := VGo.of_below b1
  obtain ⟨sa, sc, hsv⟩ := o1.form'
  have harg : Hid (ys = [] ∨ ∃ lb, sa = some ⟨lb, 0, none⟩ ∧ Arg w1 lb 0 ys ∧ Aside w1 cb M vb v lb) := by
    rcases o1.arg with h0 | ⟨lb, cc, e1, e2, e3⟩
    · exact Or.inl h0
    · rw [hsv] at e1
      injection e1 with e1
      refine Or.inr ⟨lb, e1, e3, ⟨fun hcf => ?_, fun e => ?_, fun e => ?_⟩⟩
      · have := H.out.cfB hcf; omega
      · have := H.out.lt; omega
      · have := (H.out.outs.row e).2; omega
  subst hsv
  clear o1 b1 H
  go_wp2_with fail
  go_loopw [13] (fun x w' => ∃ (j : Nat) (v' : Value), j ≤ ys.length ∧ x = .int .i64 j ∧ VK w' B vb kb M ob cb qp l v' (xs ++ slotsF M l (ys.take j)) ∧ VGo M cb vb w v w' v' ∧ (ys = [] ∨ ∃ lb, sa = some ⟨lb, 0, none⟩ ∧ Arg w' lb 0 ys ∧ Aside w' cb M vb v' lb)) (fun x _ => ys.length - (intOf x).toNat)
  case atStart => exact ⟨0, v, by omega, rfl, by simpa [slotsF] using H1.out, G1.out, harg.out⟩
  case round =>
    obtain ⟨j, v1, hj, rfl, h2, g2, a2⟩ := hrel
    clear H1 G1 harg
    have H2 := hide h2
    have G2 := hide g2
    have hvl := h2.lt
    by_cases hjn : j < ys.length
    · have hji : (j : Int) < (ys.length : Int) := by omega
      obtain ⟨y, hy⟩ : ∃ y, ys[j]? = some y := ⟨_, List.getElem?_eq_getElem hjn⟩
      obtain ⟨s, rfl, hs, -⟩ := HYS.out y (List.mem_of_getElem? hy)
      have hne : ys ≠ [] := fun e => by rw [e] at hjn; simp at hjn
      obtain ⟨lb, rfl, aA, aS⟩ := a2.resolve_left hne
      have hcell := aA.cell j _ hy
      rw [Nat.zero_add] at hcell
      have hll := aA.lt
      have EK : Hid (slotsF M l (ys.take (j + 1)) = slotsF M l (ys.take j) ++ thingM M l s) := flat_take (f := fun s => thingM M l s.toNat) hy
      have LE : (xs ++ slotsF M l (ys.take j)).length + 11 ≤ 1000000 := by
        have e1 : (slotsF M l (ys.take j)).length ≤ (slotsF M l ys).length := flat_le (f := fun s => thingM M l s.toNat) (ys := ys) j
        have := HLEN.out
        rw [List.length_append]
        omega
      have AA := hide aA
      have AS := hide aS
      have TS := hide (tellSlot_any h2 s hs LE)
      clear h2 g2 a2 aA aS hy hne LE
      go_wp2_with fail
      refine TS.out.mono ?_
      clear TS
      rintro e w4 ⟨rfl, v4, h4, g4⟩
      have H4 := hide h4
      have G4 := hide (G2.out.trans g4)
      have A4 := hide (AS.out.go hll g4)
      have AA4 := hide (AA.out.same (AS.out.go hll g4).2 g4.size)
      clear h4 g4 H2 G2 AA AS
      go_wp2_with fail
      exact ⟨⟨j + 1, v4, by omega, by go_num, by rw [EK.out, ← List.append_assoc]; exact H4.out, G4.out, Or.inr ⟨lb, rfl, AA4.out, A4.out.1⟩⟩, by simp [intOf]; omega⟩
    · have : j = ys.length := by omega
      subst this
      rw [List.take_length] at h2 H2
      have A2 := hide a2
      obtain ⟨d5, d6, hol⟩ := HCC.out _ _ _ h2
      clear h2 g2 a2
      go_wp2_with fail
      clear d5 d6
      go_loopw [7] (fun x w' => ∃ (k : Nat) (v' : Value), g ≤ k ∧ k ≤ hh ∧ x = .int .i64 k ∧ VK w' B vb kb M ob cb qp l v' (xs ++ slotsF M l ys ++ quantaM M l c k) ∧ VGo M cb vb w v w' v' ∧ (ys = [] ∨ ∃ lb, sa = some ⟨lb, 0, none⟩ ∧ Arg w' lb 0 ys ∧ Aside w' cb M vb v' lb)) (fun x _ => hh - (intOf x).toNat)
      case atStart => exact ⟨g, v1, by omega, by omega, rfl, by rw [EQ.out.1, List.append_nil]; exact H2.out, G2.out, A2.out⟩
      case round =>
        obtain ⟨k, v3, hk1, hk2, rfl, h3, g3, a3⟩ := hrel
        clear H2 G2 A2
        have H3 := hide h3
        have G3 := hide g3
        have A3 := hide a3
        have hvl3 := h3.lt
        obtain ⟨d5, d6, hol3⟩ := HCC.out _ _ _ h3
        obtain ⟨d0, -, -, -⟩ := h3.cells
        clear h3 g3 a3
        by_cases hkh : k < hh
        · have hki : (k : Int) < (hh : Int) := by omega
          go_wp2_with fail
          refine (quantumHome_any H3.out.kp k).mono ?_
          rintro r w4 ⟨rfl, hb4⟩
          have H4 := hide (H3.out.below hb4)
          have g4 : VGo M cb vb _ v3 w4 v3 := VGo.of_below hb4
          have G4 := hide (G3.out.trans g4)
          have A4 : Hid (ys = [] ∨ ∃ lb, sa = some ⟨lb, 0, none⟩ ∧ Arg w4 lb 0 ys ∧ Aside w4 cb M vb v3 lb) := A3.out.imp id (fun ⟨lb, e1, e2, e3⟩ => ⟨lb, e1, e2.same (e3.go e2.lt g4).2 g4.size, (e3.go e2.lt g4).1⟩)
          have hcmp := eql_home H4.out.kp (has M.S k) (fun d hd => has_kind hd) c hc HCK.out
          have hvl4 := H4.out.lt
          clear hb4 g4 d0 d5 d6 H3 G3 A3
          rcases ptrV_shape ((has M.S k).map ob) with hv | ⟨g', hv⟩ <;> rw [hv] at hcmp ⊢
          all_goals
            by_cases hli : has M.S k = some c
            · have es : Hid (quantaM M l c (k + 1) = quantaM M l c k ++ [(k : Int), whoM M l k]) := by
                unfold Hid
                show quantaM M l c k ++ (if has M.S k = some c then [(k : Int), whoM M l k] else []) = _
                rw [if_pos hli]
              rw [decide_eq_true hli] at hcmp
              clear hli
              have LE : (xs ++ slotsF M l ys ++ quantaM M l c k).length + 11 ≤ 1000000 := by
                have e1 := EQL.out k 8 (by omega)
                have e3 := HLEN.out
                rw [List.length_append, List.length_append]
                omega
              have TQ := hide (tellQuantum_any H4.out k (by omega) LE)
              clear LE
              go_wp2_with fail
              refine TQ.out.mono ?_
              clear TQ
              rintro e w5 ⟨rfl, v5, h5, g5⟩
              have H5 := hide h5
              have G5 := hide (G4.out.trans g5)
              have A5 : Hid (ys = [] ∨ ∃ lb, sa = some ⟨lb, 0, none⟩ ∧ Arg w5 lb 0 ys ∧ Aside w5 cb M vb v5 lb) := A4.out.imp id (fun ⟨lb, e1, e2, e3⟩ => ⟨lb, e1, e2.same (e3.go e2.lt g5).2 g5.size, (e3.go e2.lt g5).1⟩)
              clear h5 g5 H4 G4 A4
              go_wp2_with fail
              exact ⟨⟨k + 1, v5, by omega, by omega, by go_num, by rw [es.out, ← List.append_assoc]; exact H5.out, G5.out, A5.out⟩, by simp [intOf]; omega⟩
            · have es : Hid (quantaM M l c (k + 1) = quantaM M l c k) := by
                unfold Hid
                show quantaM M l c k ++ (if has M.S k = some c then [(k : Int), whoM M l k] else []) = _
                rw [if_neg hli, List.append_nil]
              rw [decide_eq_false hli] at hcmp
              clear hli
              go_wp2_with fail
              exact ⟨⟨k + 1, v3, by omega, by omega, by go_num, by rw [es.out]; exact H4.out, G4.out, A4.out⟩, by simp [intOf]; omega⟩
        · have : k = hh := by omega
          subst this
          have E8 := EQ.out.2
          rw [E8] at H3
          have TT : Hid (Calls Try.prog 23 #[.pointer (some ⟨vb, 0, none⟩), .slice sa ys.length sc] wr fun e w' => e = .returned (.tuple #[]) ∧ ∃ v', VK w' B vb kb M ob cb qp l v' (xs ++ slotsF M l ys ++ quantaM M l c 8 ++ kidsF M (tellsM M l m) ys) ∧ VGo M cb vb wr v3 w' v') := by
            have hle : (xs ++ slotsF M l ys ++ quantaM M l c 8).length + (kidsF M (tellsM M l m) ys).length + 11 ≤ 1000000 := by
              have := HLEN.out
              rw [List.length_append, List.length_append]
              omega
            rcases A3.out with h0 | ⟨lb, e1, e2, e3⟩
            · exact tellContainers_any m HTC.out wr v3 _ ys H3.out 0 0 sc (Or.inl h0) hle (by omega) HYS.out sa (Or.inr h0)
            · exact tellContainers_any m HTC.out wr v3 _ ys H3.out lb 0 sc (Or.inr ⟨e2, e3⟩) hle (by omega) HYS.out sa (Or.inl e1)
          clear H3 A3 E8
          go_wp2_with fail
          refine TT.out.mono ?_
          clear TT
          rintro e w5 ⟨rfl, v5, h5, g5⟩
          have H5 := hide h5
          have G5 := hide (G3.out.trans g5)
          clear h5 g5
          go_wp2_with fail
          go_end0
          exact ⟨rfl, v5, by have := H5.out; simpa [List.append_assoc] using this, G5.out⟩

theorem tc_all : ∀ n, TC B vb kb M ob cb qp l n
  | 0 => fun c hc hck _ hcl w v xs h _ => by
    have := (h.inv.tree.len_pos hc hck).1
    omega
  | n + 1 => tc_step n (tc_all n)
end

section
variable {w : World} {kb : Nat} {M : MS} {ob cb : Nat → Nat} {qp : Nat → Option Nat}

set_option maxHeartbeats 2000000 in
theorem view_no (lab : Int) (hl : lab < 0 ∨ 255 < lab) : Calls Try.prog 12 #[.pointer (some ⟨kb, 0, none⟩), .int .i64 lab] w fun e w' => e = .returned (.slice none 0 0) ∧ w' = w := by
  rcases hl with hl | hl
  · go_enter Try.func12, Try.ntmps12
    go_wp2_with fail
    go_ret
    exact ⟨rfl, rfl⟩
  · have hl2 : ¬ lab < 0 := by omega
    go_enter Try.func12, Try.ntmps12
    go_wp2_with fail
    go_ret
    exact ⟨rfl, rfl⟩

set_option maxHeartbeats 4000000 in
theorem view_yes (h : KP w kb M ob cb qp) (hI : MInv M) (l : Nat) (hl : l < 256) :
    Calls Try.prog 12 #[.pointer (some ⟨kb, 0, none⟩), .int .i64 l] w fun e w' => ∃ v, e = .returned v ∧ Outs w' w.heap.size v (viewM M l) ∧ KP w' kb M ob cb qp ∧ Fr (Foot kb M ob cb qp) w w' := by
  have ev : viewM M l = [(M.ph : Int)] ++ tellsM M l DEEP 0 := by
    unfold viewM
    rw [if_neg (by omega), Int.toNat_natCast]
    rfl
  rw [ev]
  have l1 : ¬ (l : Int) < 0 := by omega
  have l2 : ¬ (255 : Int) < (l : Int) := by omega
  have p0 := h.phase
  have hkl := h.lt
  have hbel : Below w.heap.size w (w.alloc (.cells #[.pointer (some ⟨kb, 0, none⟩), .int .i64 l, .slice none 0 0] 58)) := (Below.refl _ _).alloc (Nat.le_refl _) _
  have V0 : VK (w.alloc (.cells #[.pointer (some ⟨kb, 0, none⟩), .int .i64 l, .slice none 0 0] 58)) w.heap.size w.heap.size kb M ob cb qp l (.slice none 0 0) [] :=
    ⟨h.below hbel, hI, fun k hk => h.foot_lt hk, Nat.le_refl _, Blk.new _ _ _, Outs.nil _ _, by simp [Value.ownBlock], hl⟩
  have p1 := V0.kp.phase
  have HV := hide V0
  have HB := hide hbel
  have hT := tells_len hI l DEEP 0 (by omega) hI.tree.root.1
  have hL := hI.tree.len_pos (c := 0) (by omega) hI.tree.root.1
  have HR := hide hI.tree.root.1
  have HL := hide hL
  have hs1 : (w.alloc (.cells #[.pointer (some ⟨kb, 0, none⟩), .int .i64 l, .slice none 0 0] 58)).heap.size = w.heap.size + 1 := by simp
  clear h hI ev V0 hbel p0
  go_enter Try.func12, Try.ntmps12
  go_wp2_with fail
  generalize (w.alloc (.cells #[.pointer (some ⟨kb, 0, none⟩), .int .i64 l, .slice none 0 0] 58)) = w1 at *
  have TN := tell_new HV.out #[.int .i64 M.ph] 1 [(M.ph : Int)] rfl rfl (by simp)
  rw [hs1] at TN
  refine TN.mono ?_
  clear TN
  rintro e w2 ⟨rfl, v2, h2, g2⟩
  have H2 := hide h2
  have G2 := hide g2
  have hvl2 := h2.lt
  have TT : Hid (Calls Try.prog 23 #[.pointer (some ⟨w.heap.size, 0, none⟩), .slice (some ⟨w2.heap.size, 0, none⟩) 1 1] (w2.alloc (.cells #[.int .i64 0] 3)) fun e w' => e = .returned (.tuple #[]) ∧ ∃ v', VK w' w.heap.size w.heap.size kb M ob cb qp l v' ([(M.ph : Int)] ++ tellsM M l DEEP 0) ∧ VGo M cb w.heap.size w2 v2 w' v') := by
    have hb : Below w2.heap.size w2 (w2.alloc (.cells #[.int .i64 0] 3)) := (Below.refl _ _).alloc (Nat.le_refl _) _
    have ek : kidsF M (tellsM M l DEEP) [0] = tellsM M l DEEP 0 := by
      unfold kidsF
      simp [HR.out]
    have := tellContainers_any DEEP (tc_all DEEP) (w2.alloc (.cells #[.int .i64 0] 3)) v2 _ [0] (h2.below hb) w2.heap.size 0 1 (Or.inr ⟨⟨by simp, fun i x hx => ?_⟩, ⟨fun hcf => ?_, fun e => ?_, fun e => ?_⟩⟩) (by rw [ek]; simp; omega) (by simp) (fun y hy => ⟨0, by simpa using hy, by omega, fun _ => Int.lt_of_le_of_lt HL.out.2 (by decide)⟩) (some ⟨w2.heap.size, 0, none⟩) (Or.inl rfl)
    · rw [ek] at this
      refine this.mono ?_
      rintro e w' ⟨rfl, v', h3, g3⟩
      exact ⟨rfl, v', by simpa using h3, (VGo.of_below hb).trans g3⟩
    · rw [Nat.zero_add, (Blk.new w2 #[.int .i64 0] 3).cell]
      rcases i with _ | i
      · simp at hx; subst hx; rfl
      · simp at hx
    · have := h2.cfB hcf; omega
    · omega
    · have := (h2.outs.row e).2; omega
  clear h2 g2
  go_wp2_with fail
  refine TT.out.mono ?_
  clear TT
  rintro e w3 ⟨rfl, v3, h3, g3⟩
  obtain ⟨-, -, c2, -⟩ := h3.cells
  have H3 := hide h3
  have G3 := hide (G2.out.trans g3)
  have hvl3 := h3.lt
  clear h3 g3 H2 G2
  go_wp2_with fail
  go_ret
  refine ⟨v3, rfl, H3.out.outs, H3.out.kp, ⟨G3.out.os.trans HB.out.os, G3.out.tape.trans HB.out.tape, G3.out.output.trans HB.out.output, by have := G3.out.size; omega, fun k hk hn => ?_⟩⟩
  exact (G3.out.block k (by omega) (fun hc => hn hc.foot) (by omega) (by simp [Value.ownBlock])).trans (HB.out.block k hk)

/-- 'View'. -/
theorem p_view (h : KP w kb M ob cb qp) (hI : MInv M) (lab : Int) :
    Calls Try.prog 12 #[.pointer (some ⟨kb, 0, none⟩), .int .i64 lab] w fun e w' => ∃ v, e = .returned v ∧ Outs w' w.heap.size v (viewM M lab) ∧ KP w' kb M ob cb qp ∧ Fr (Foot kb M ob cb qp) w w' := by
  by_cases hl : lab < 0 ∨ 255 < lab
  · refine (view_no lab hl).mono ?_
    rintro e w' ⟨rfl, rfl⟩
    have ev : viewM M lab = [] := by unfold viewM; rw [if_pos hl]
    rw [ev]
    exact ⟨_, rfl, Outs.nil _ _, h, Fr.refl _ _⟩
  · obtain ⟨l, rfl⟩ : ∃ l : Nat, lab = l := ⟨lab.toNat, by omega⟩
    exact view_yes h hI l (by omega)
end

end Go.Proofs.Ytloppmepfkkblaa
