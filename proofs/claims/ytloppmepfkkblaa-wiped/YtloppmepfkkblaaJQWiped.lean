/- 'Wiped' gives true. -/
import Derived.Test.YtloppmepfkkblaaJQOpenToWipeM
open Go Go.Proofs Go.RowKit
namespace Go.Proofs.Ytloppmepfkkblaa

/-- What stands at each step: the kernel, the first view, the block of the last answer. -/
def WipeS (w0 w : World) (kb : Nat) (M : MS) (wv : Value) (ob : Nat) : Prop :=
  ∃ F oc, Kn w kb F M ∧ (∀ k, F k → w0.heap.size ≤ k) ∧ Outs w w0.heap.size wv (viewM MS.boot 255) ∧ (∀ k, wv.ownBlock = some k → ¬ F k ∧ k ≠ ob) ∧ ¬ F ob ∧ w0.heap.size ≤ ob ∧ Blk w ob oc ∧ oc.size = 3 ∧ Below w0.heap.size w0 w
theorem ArgV.form' {w : World} {v : Value} {xs : List Int} (h : ArgV w v xs) : ∃ a c, v = .slice a xs.length c ∧ (xs = [] ∨ ∃ lb lo, a = some ⟨lb, lo, none⟩ ∧ Arg w lb lo xs) := by
  rcases h with ⟨h1, h2⟩ | ⟨la, cap, h1, h2, h3⟩
  · subst h2; exact ⟨none, 0, h1, Or.inl rfl⟩
  · exact ⟨some la, cap, h1, h2.imp id (fun ⟨lb, lo, e, ha⟩ => ⟨lb, lo, by rw [e], ha⟩)⟩
section
variable {w0 w w' : World} {kb : Nat} {M : MS} {wv : Value} {ob : Nat}
theorem WipeS.size (h : WipeS w0 w kb M wv ob) : w0.heap.size ≤ w.heap.size := by
  obtain ⟨F, oc, h1, h2, h3, h4, h5, h6, h7, h8, h9⟩ := h
  exact h9.size
theorem WipeS.old (h : WipeS w0 w kb M wv ob) : Below w0.heap.size w0 w := by
  obtain ⟨F, oc, h1, h2, h3, h4, h5, h6, h7, h8, h9⟩ := h
  exact h9
theorem WipeS.olt (h : WipeS w0 w kb M wv ob) : ob < w.heap.size := by
  obtain ⟨F, oc, h1, h2, h3, h4, h5, h6, h7, h8, h9⟩ := h
  exact h7.lt
theorem WipeS.later (h : WipeS w0 w kb M wv ob) (hb : Below w.heap.size w w') : WipeS w0 w' kb M wv ob := by
  obtain ⟨F, oc, h1, h2, h3, h4, h5, h6, h7, h8, h9⟩ := h
  exact ⟨F, oc, h1.below hb, h2, h3.later hb, h4, h5, h6, h7.below hb h7.lt, h8, h9.trans (hb.mono h9.size)⟩
theorem WipeS.goes {F : Nat → Prop} {oc : Array Value} {M' : MS} (h2 : ∀ k, F k → w0.heap.size ≤ k) (h3 : Outs w w0.heap.size wv (viewM MS.boot 255)) (h4 : ∀ k, wv.ownBlock = some k → ¬ F k ∧ k ≠ ob) (h5 : ¬ F ob) (h6 : w0.heap.size ≤ ob) (h7 : Blk w ob oc) (h8 : oc.size = 3) (h9 : Below w0.heap.size w0 w) (hg : KnGoes w kb F M' w') : WipeS w0 w' kb M' wv ob := by
  obtain ⟨F', g1, g2, g3⟩ := hg
  have hs := h9.size
  have no : ∀ k, k < w.heap.size → ¬ F k → ¬ F' k := fun k hk hn hf => by
    rcases g2 k hf with h | h
    · exact hn h
    · omega
  exact ⟨F', oc, g1, fun k hk => (g2 k hk).elim (h2 k) (fun h => by omega), h3.same (fun k hk => g3.block k (h3.row hk).2 (h4 k hk).1), fun k hk => ⟨no k (h3.row hk).2 (h4 k hk).1, (h4 k hk).2⟩, no ob h7.lt h5, h6, h7.fr g3 h5, h8, h9.trans (Fr.below_lo g3 h2 hs)⟩
theorem WipeS.trapV (h : WipeS w0 w kb M wv ob) (n : Int) {v : Value} {xs : List Int} (ha : ArgV w v xs) :
    Calls Try.prog 19 #[.pointer (some ⟨kb, 0, none⟩), .int .i64 n, v] w fun e w' => e = .returned (M.out n xs) ∧ WipeS w0 w' kb (M.trap n xs).2 wv ob := by
  obtain ⟨F, oc, h1, h2, h3, h4, h5, h6, h7, h8, h9⟩ := h
  exact (kn_trapV h1 n ha).mono (fun e w' ⟨he, hg⟩ => ⟨he, WipeS.goes h2 h3 h4 h5 h6 h7 h8 h9 hg⟩)
/-- .. with a call laid down ahead of it. -/
theorem WipeS.trapC (h : WipeS w0 w kb M wv ob) (C : Array Value) (n : Int) {v : Value} {xs : List Int} (ha : ArgV w v xs) :
    Calls Try.prog 19 #[.pointer (some ⟨kb, 0, none⟩), .int .i64 n, v] (w.alloc (.cells C 39)) fun e w' => e = .returned (M.out n xs) ∧ WipeS w0 w' kb (M.trap n xs).2 wv ob ∧ Blk w' w.heap.size C := by
  have hb : Below w.heap.size w (w.alloc (.cells C 39)) := (Below.refl _ _).alloc (Nat.le_refl _) _
  obtain ⟨F, oc, h1, h2, h3, h4, h5, h6, h7, h8, h9⟩ := h
  refine (kn_trapV (h1.below hb) n (ha.later hb)).mono (fun e w' ⟨he, hg⟩ => ⟨he, WipeS.goes h2 (h3.later hb) h4 h5 h6 (h7.below hb h7.lt) h8 (h9.trans (hb.mono h9.size)) hg, ?_⟩)
  obtain ⟨F', g1, g2, g3⟩ := hg
  exact (Blk.new w C 39).fr g3 (fun hf => by have := h1.lt hf; omega)
theorem WipeS.trap_new (h : WipeS w0 w kb M wv ob) (n : Int) (cs : Array Value) (m : Nat) (xs : List Int) (hcs : cs.toList = xs.map (Value.int .i64)) (hm : xs.length = m) (hf : Fits xs) :
    Calls Try.prog 19 #[.pointer (some ⟨kb, 0, none⟩), .int .i64 n, .slice (some ⟨w.heap.size, 0, none⟩) m m] (w.alloc (.cells cs 3)) fun e w' => e = .returned (M.out n xs) ∧ WipeS w0 w' kb (M.trap n xs).2 wv ob := by
  obtain ⟨F, oc, h1, h2, h3, h4, h5, h6, h7, h8, h9⟩ := h
  exact (kn_trap_new h1 n cs m xs hcs hm hf).mono (fun e w' ⟨he, hg⟩ => ⟨he, WipeS.goes h2 h3 h4 h5 h6 h7 h8 h9 hg⟩)
theorem WipeS.set (h : WipeS w0 w kb M wv ob) (i : Nat) (x : Value) : WipeS w0 (w.setCell ⟨ob, i, none⟩ x) kb M wv ob := by
  obtain ⟨F, oc, h1, h2, h3, h4, h5, h6, h7, h8, h9⟩ := h
  have e : ∀ k, k ≠ ob → (w.setCell ⟨ob, i, none⟩ x).heap[k]? = w.heap[k]? := fun k hk => Below.heap_setCell _ _ _ _ hk
  refine ⟨F, _, ?_, h2, h3.same (fun k hk => e k (h4 k hk).2), h4, h5, h6, h7.set i x, by simpa using h8, h9.setCell h6 _⟩
  obtain ⟨o', cb, qp, q1, q2, q3⟩ := h1
  exact ⟨o', cb, qp, q1.same (fun k hk => e k (fun e => h5 (e ▸ (q3 k).1 hk))), q2, q3⟩
theorem WipeS.ocell (h : WipeS w0 w kb M wv ob) : ∃ x0 x1 x2, w.cell? ⟨ob, 0, none⟩ = some x0 ∧ w.cell? ⟨ob, 1, none⟩ = some x1 ∧ w.cell? ⟨ob, 2, none⟩ = some x2 := by
  obtain ⟨F, oc, h1, h2, h3, h4, h5, h6, h7, h8, h9⟩ := h
  refine ⟨_, _, _, (h7.cell 0).trans (Array.getElem?_eq_getElem (by omega)), (h7.cell 1).trans (Array.getElem?_eq_getElem (by omega)), (h7.cell 2).trans (Array.getElem?_eq_getElem (by omega))⟩
theorem WipeS.frozen (h : WipeS w0 w kb M wv ob) (i : Nat) : w.frozen? ⟨ob, i, none⟩ = false := by
  obtain ⟨F, oc, h1, h2, h3, h4, h5, h6, h7, h8, h9⟩ := h
  exact h7.frozen _
end

set_option maxRecDepth 100000 in
set_option maxHeartbeats 16000000 in
theorem wiped_walk (w : World) (s1 : Option Addr) (n1 p1 : Nat) (c1 : List (Int × List Int)) (e1 : c1.length = n1) (m1 : n1 ≤ 17592186043904) (h1 : CallsAt w s1 c1) (l0 a0 b0 : Int) (hl : -9223372036854775808 ≤ l0 ∧ l0 ≤ 9223372036854775807) (ha : -9223372036854775808 ≤ a0 ∧ a0 ≤ 9223372036854775807) (hb : -9223372036854775808 ≤ b0 ∧ b0 ≤ 9223372036854775807) :
    Calls Try.prog 6 #[.slice s1 n1 p1, .int .i64 l0, .int .i64 a0, .int .i64 b0] w fun e w' => e = .returned (.bool true) ∧ Below w.heap.size w w' := by
  obtain ⟨l', hl0, hl1, hpl⟩ := pick_val l0 256 hl (by omega)
  obtain ⟨a', ha0, ha1, hpa⟩ := pick_val a0 20 ha (by omega)
  obtain ⟨b', hb0, hb1, hpb⟩ := pick_val b0 (33 - (3 + a')) hb (by omega)
  obtain ⟨l, rfl⟩ : ∃ n : Nat, l' = n := ⟨l'.toNat, by omega⟩
  obtain ⟨a, hae⟩ : ∃ n : Nat, 3 + a' = n := ⟨(3 + a').toNat, by omega⟩
  obtain ⟨b, hbe⟩ : ∃ n : Nat, (a : Int) + b' = n := ⟨((a : Int) + b').toNat, by omega⟩
  rw [hae] at hpb
  have hl2 : l < 256 := by omega
  have ha3 : 3 ≤ a := by omega
  have hab : a ≤ b := by omega
  have hb32 : b ≤ 32 := by omega
  have PL := hide hpl
  have PA := hide hpa
  have PB := hide hpb
  have CS := hide h1
  have BT := hide (booted_any w)
  obtain ⟨M1, ht1, hH1⟩ := trap_cont hl2 ha3 hab hb32
  have HT1 := hide ht1
  have HH1 := hide hH1
  have VS := hide (view_short MInv.boot 255)
  clear hl ha hb hpl hpa hpb h1 ht1 hH1
  go_enter Try.func6, Try.ntmps6
  go_wp2_with fail
  refine BT.out.mono ?_
  clear BT
  rintro e w2 ⟨kb, F, rfl, k2, f2, b2⟩
  have K2 := hide k2
  have HF := hide f2
  have LF : Hid (∀ k, F k → k < w2.heap.size) := fun k hk => k2.lt hk
  have B2 := hide b2
  clear k2 f2 b2
  go_wp2_with fail
  refine (PL.out w2).mono ?_
  rintro e w2' ⟨rfl, rfl⟩
  go_wp2_with fail
  refine (PA.out w2').mono ?_
  rintro e w2 ⟨rfl, rfl⟩
  go_wp2_with fail
  refine (PB.out w2).mono ?_
  rintro e w2' ⟨rfl, rfl⟩
  clear PL PA PB
  go_wp2_with fail
  refine (kn_view K2.out 255).mono ?_
  rintro e w3 ⟨v3, rfl, o3, k3, f3⟩
  have z2 := B2.out.size
  have z3 := f3.size
  obtain ⟨o3a, o3n, o3c, hv3⟩ := o3.form
  subst hv3
  have O3 := hide o3
  have K3 := hide k3
  have B3 := hide (B2.out.trans (f3.below_lo HF.out z2))
  clear o3 k3 f3 K2 B2
  have T3 := hide (kn_trap_new K3.out 7 #[.int .i64 0, .int .i64 2, .int .i64 l, .int .i64 a, .int .i64 b, .int .i64 1, .int .i64 5] 7 [0, 2, (l : Int), (a : Int), (b : Int), 1, 5] rfl rfl (fun x hx => by simp at hx; omega))
  have E3 : Hid (MS.boot.out 7 [0, 2, (l : Int), (a : Int), (b : Int), 1, 5] = .agg #[.int .i64 0, .int .i64 0, .int .i64 0]) := by unfold Hid MS.out; rw [HT1.out]; rfl
  rw [E3.out, HT1.out] at T3
  clear E3 HT1
  go_wp2_with fail
  refine T3.out.mono ?_
  clear T3
  rintro e w4 ⟨rfl, F4, k4, g4, f4⟩
  have z4 := f4.size
  have hbA : Below w4.heap.size w4 (w4.alloc (.cells #[.int .i64 0, .int .i64 0, .int .i64 0] 46)) := (Below.refl _ _).alloc (Nat.le_refl _) _
  have WS : Hid (WipeS w (w4.alloc (.cells #[.int .i64 0, .int .i64 0, .int .i64 0] 46)) kb M1 (.slice o3a o3n o3c) w4.heap.size) := by
    have hn : ∀ k, k < w3.heap.size → ¬ F k → ¬ F4 k := fun k hk hn hf => by
      rcases g4 k hf with h | h
      · exact hn h
      · omega
    have hz := B3.out.size
    refine ⟨F4, _, k4.below hbA, fun k hk => (g4 k hk).elim (HF.out k) (fun h => by omega), ?_, fun k hk => ⟨hn k (O3.out.row hk).2 (fun hf => ?_), fun e => ?_⟩, fun hf => ?_, by omega, Blk.new _ _ _, rfl, ?_⟩
    · have o4 := (O3.out.same (fun k hk => f4.block k (O3.out.row hk).2 (fun hf => by have := LF.out k hf; have := (O3.out.row hk).1; omega))).later hbA
      refine ⟨o4.1, ?_⟩
      rcases o4.2 with h | ⟨g, cap, cur, q1, q2, q3⟩
      · exact Or.inl h
      · exact Or.inr ⟨g, cap, cur, q1, by omega, q3⟩
    · have := LF.out k hf; have := (O3.out.row hk).1; omega
    · have := (O3.out.row hk).2; omega
    · have := k4.lt hf; omega
    · exact (B3.out.trans (Fr.below_lo f4 HF.out hz)).trans (hbA.mono (by omega))
  have y0 := ((Blk.new w4 #[.int .i64 0, .int .i64 0, .int .i64 0] 46).cell 0).trans (show _ = some (Value.int .i64 0) from rfl)
  have hl4 := (Blk.new w4 #[.int .i64 0, .int .i64 0, .int .i64 0] 46).lt
  clear hbA k4 g4 f4 K3 O3 B3 HF LF
  go_wp2_with fail
  generalize (w4.alloc (.cells #[.int .i64 0, .int .i64 0, .int .i64 0] 46)) = w5 at *
  go_wp2_with fail
  generalize w4.heap.size = ob at *
  clear y0 hl4
  go_loopw [12] (fun i w' => ∃ (j : Nat) (M : MS), j ≤ n1 ∧ i = .int .i64 j ∧ Held l a b M ∧ WipeS w w' kb M (.slice o3a o3n o3c) ob) (fun i _ => n1 - (intOf i).toNat)
  case atStart => exact ⟨0, M1, by omega, rfl, HH1.out, WS.out⟩
  case round =>
    obtain ⟨j, M, hj, rfl, hh, hws⟩ := hrel
    clear WS HH1
    have HH := hide hh
    have WS := hide hws
    have hz := hws.size
    clear hh
    by_cases hjn : j < n1
    · have hji : (j : Int) < (n1 : Int) := by omega
      obtain ⟨c, hc⟩ : ∃ c, c1[j]? = some c := ⟨_, List.getElem?_eq_getElem (by omega)⟩
      obtain ⟨sb, so, hsa, hsb, hcs⟩ := CS.out.resolve_left (fun e => by rw [e] at hc; simp at hc)
      subst hsa
      obtain ⟨v, c0, c1', hav⟩ := hcs j c hc
      obtain ⟨T, xs⟩ := c
      have b2 := hws.old
      have d0 := (cell_same (b2.block sb hsb) _).trans c0
      have d1 := (cell_same (b2.block sb hsb) _).trans c1'
      have hsb' : sb < wr.heap.size := by omega
      have av := hav.later b2
      obtain ⟨va, vc, hv, hx⟩ := av.form'
      subst hv
      have AV := hide av
      have fa : Hid (Below wr.heap.size wr (wr.alloc (.cells #[.int .i64 T, .slice va xs.length vc] 39))) := (Below.refl _ _).alloc (Nat.le_refl _) _
      dsimp only at d0 d1
      clear c0 c1' hav hcs hc b2 av hws CS
      cases xs with
      | nil =>
        clear hx AV
        by_cases hT : T = 10
        · subst hT
          go_wp2_with fail
          exact ⟨⟨j + 1, M, by omega, by go_num, HH.out, WS.out.later fa.out⟩, by simp [intOf] <;> omega⟩
        · have hT' : (T == 10) = false := by simp [hT]
          go_wp2_with fail
          exact ⟨⟨j + 1, M, by omega, by go_num, HH.out, WS.out.later fa.out⟩, by simp [intOf] <;> omega⟩
      | cons x r =>
        obtain ⟨lb, lo, hva, harg⟩ := hx.resolve_left (by simp)
        subst hva
        have hx0 : wr.cell? ⟨lb, lo, none⟩ = some (.int .i64 x) := by
          have := harg.cell 0 x rfl
          rwa [Nat.add_zero] at this
        have hlb := harg.lt
        have hx1 : (wr.alloc (.cells #[.int .i64 T, .slice (some ⟨lb, lo, none⟩) (x :: r).length vc] 39)).cell? ⟨lb, lo, none⟩ = some (.int .i64 x) := (cell_same (fa.out.block lb hlb) _).trans hx0
        obtain ⟨vn, hvn⟩ : ∃ n, n = (x :: r).length := ⟨_, rfl⟩
        obtain ⟨xs, hxs⟩ : ∃ l, l = x :: r := ⟨_, rfl⟩
        have HX : Hid (xs = x :: r ∧ vn = xs.length) := ⟨hxs, by rw [hvn, hxs]⟩
        rw [← hvn] at d1 fa hx1 AV
        rw [← hxs] at AV
        have hv0 : 0 < vn := by rw [hvn]; simp
        have hvi : (0 : Int) < (vn : Int) := by omega
        clear harg hx hxs hvn hx0
        by_cases hx2 : x = 2
        · subst hx2
          have hxa : ¬ (a : Int) ≤ 2 := by omega
          by_cases hT : T = 4 ∨ T = 7 ∨ T = 9 ∨ T = 14
          · rcases hT with rfl | rfl | rfl | rfl
            · have HN : Hid (inner a b 4 xs) := Or.inl ⟨by omega, by rw [HX.out.1]; simp, by rw [HX.out.1]; exact Or.inl rfl⟩
              go_wp2_with fail
              refine (WS.out.trapC _ 4 AV.out).mono ?_
              rintro e w6 ⟨rfl, h6, c6⟩
              have t0' := (c6.cell 0).trans (show _ = some (Value.int .i64 4) from rfl)
              have t1' := (c6.cell 1).trans (show _ = some (Value.slice (some ⟨lb, lo, none⟩) vn vc) from rfl)
              have tl' := c6.lt
              have W6 := hide h6
              have H6 := hide (HH.out.trap ha3 HN.out)
              generalize M.out 4 xs = ov
              clear c6 h6 WS HH AV fa
              go_wp2_with fail
              exact ⟨⟨j + 1, _, by omega, by go_num, H6.out, W6.out⟩, by simp [intOf] <;> omega⟩
            · have HN : Hid (inner a b 7 xs) := Or.inl ⟨by omega, by rw [HX.out.1]; simp, by rw [HX.out.1]; exact Or.inl rfl⟩
              go_wp2_with fail
              refine (WS.out.trapC _ 7 AV.out).mono ?_
              rintro e w6 ⟨rfl, h6, c6⟩
              have t0' := (c6.cell 0).trans (show _ = some (Value.int .i64 7) from rfl)
              have t1' := (c6.cell 1).trans (show _ = some (Value.slice (some ⟨lb, lo, none⟩) vn vc) from rfl)
              have tl' := c6.lt
              have W6 := hide h6
              have H6 := hide (HH.out.trap ha3 HN.out)
              generalize M.out 7 xs = ov
              clear c6 h6 WS HH AV fa
              go_wp2_with fail
              exact ⟨⟨j + 1, _, by omega, by go_num, H6.out, W6.out⟩, by simp [intOf] <;> omega⟩
            · have HN : Hid (inner a b 9 xs) := Or.inl ⟨by omega, by rw [HX.out.1]; simp, by rw [HX.out.1]; exact Or.inl rfl⟩
              go_wp2_with fail
              refine (WS.out.trapC _ 9 AV.out).mono ?_
              rintro e w6 ⟨rfl, h6, c6⟩
              have t0' := (c6.cell 0).trans (show _ = some (Value.int .i64 9) from rfl)
              have t1' := (c6.cell 1).trans (show _ = some (Value.slice (some ⟨lb, lo, none⟩) vn vc) from rfl)
              have tl' := c6.lt
              have W6 := hide h6
              have H6 := hide (HH.out.trap ha3 HN.out)
              generalize M.out 9 xs = ov
              clear c6 h6 WS HH AV fa
              go_wp2_with fail
              exact ⟨⟨j + 1, _, by omega, by go_num, H6.out, W6.out⟩, by simp [intOf] <;> omega⟩
            · have HN : Hid (inner a b 14 xs) := Or.inl ⟨by omega, by rw [HX.out.1]; simp, by rw [HX.out.1]; exact Or.inl rfl⟩
              go_wp2_with fail
              refine (WS.out.trapC _ 14 AV.out).mono ?_
              rintro e w6 ⟨rfl, h6, c6⟩
              have t0' := (c6.cell 0).trans (show _ = some (Value.int .i64 14) from rfl)
              have t1' := (c6.cell 1).trans (show _ = some (Value.slice (some ⟨lb, lo, none⟩) vn vc) from rfl)
              have tl' := c6.lt
              have W6 := hide h6
              have H6 := hide (HH.out.trap ha3 HN.out)
              generalize M.out 14 xs = ov
              clear c6 h6 WS HH AV fa
              go_wp2_with fail
              exact ⟨⟨j + 1, _, by omega, by go_num, H6.out, W6.out⟩, by simp [intOf] <;> omega⟩
          · by_cases hTT : T = 10
            · subst hTT
              by_cases h2 : vn = 2
              · subst h2
                have HN : Hid (inner a b 10 xs) := Or.inr ⟨rfl, by rw [← HX.out.2], by rw [HX.out.1]; exact ⟨show (1 : Int) ≤ 2 by omega, show (2 : Int) < 5 by omega⟩⟩
                go_wp2_with fail
                refine (WS.out.trapC _ 10 AV.out).mono ?_
                rintro e w6 ⟨rfl, h6, c6⟩
                have t0' := (c6.cell 0).trans (show _ = some (Value.int .i64 10) from rfl)
                have t1' := (c6.cell 1).trans (show _ = some (Value.slice (some ⟨lb, lo, none⟩) 2 vc) from rfl)
                have tl' := c6.lt
                have W6 := hide h6
                have H6 := hide (HH.out.trap ha3 HN.out)
                generalize M.out 10 xs = ov
                clear c6 h6 WS HH AV fa
                go_wp2_with fail
                exact ⟨⟨j + 1, _, by omega, by go_num, H6.out, W6.out⟩, by simp [intOf] <;> omega⟩
              · have h2i : ¬ ((vn : Int) = 2) := by omega
                have h2' : ((vn : Int) == 2) = false := by simp; omega
                go_wp2_with fail
                exact ⟨⟨j + 1, M, by omega, by go_num, HH.out, WS.out.later fa.out⟩, by simp [intOf] <;> omega⟩
            · have e4 : (T == 4) = false := by simp; omega
              have f4 : ¬ T = 4 := by omega
              have e7 : (T == 7) = false := by simp; omega
              have f7 : ¬ T = 7 := by omega
              have e9 : (T == 9) = false := by simp; omega
              have f9 : ¬ T = 9 := by omega
              have e14 : (T == 14) = false := by simp; omega
              have f14 : ¬ T = 14 := by omega
              have e10 : (T == 10) = false := by simp; omega
              have f10 : ¬ T = 10 := by omega
              go_wp2_with fail
              exact ⟨⟨j + 1, M, by omega, by go_num, HH.out, WS.out.later fa.out⟩, by simp [intOf] <;> omega⟩
        · have hx2' : (x == 2) = false := by simp [hx2]
          by_cases hxa : (a : Int) ≤ x
          · by_cases hxb : x < (b : Int)
            · by_cases hT : T = 4 ∨ T = 7 ∨ T = 9 ∨ T = 14
              · rcases hT with rfl | rfl | rfl | rfl
                · have HN : Hid (inner a b 4 xs) := Or.inl ⟨by omega, by rw [HX.out.1]; simp, by rw [HX.out.1]; exact Or.inr ⟨hxa, hxb⟩⟩
                  go_wp2_with fail
                  refine (WS.out.trapC _ 4 AV.out).mono ?_
                  rintro e w6 ⟨rfl, h6, c6⟩
                  have t0' := (c6.cell 0).trans (show _ = some (Value.int .i64 4) from rfl)
                  have t1' := (c6.cell 1).trans (show _ = some (Value.slice (some ⟨lb, lo, none⟩) vn vc) from rfl)
                  have tl' := c6.lt
                  have W6 := hide h6
                  have H6 := hide (HH.out.trap ha3 HN.out)
                  generalize M.out 4 xs = ov
                  clear c6 h6 WS HH AV fa
                  go_wp2_with fail
                  exact ⟨⟨j + 1, _, by omega, by go_num, H6.out, W6.out⟩, by simp [intOf] <;> omega⟩
                · have HN : Hid (inner a b 7 xs) := Or.inl ⟨by omega, by rw [HX.out.1]; simp, by rw [HX.out.1]; exact Or.inr ⟨hxa, hxb⟩⟩
                  go_wp2_with fail
                  refine (WS.out.trapC _ 7 AV.out).mono ?_
                  rintro e w6 ⟨rfl, h6, c6⟩
                  have t0' := (c6.cell 0).trans (show _ = some (Value.int .i64 7) from rfl)
                  have t1' := (c6.cell 1).trans (show _ = some (Value.slice (some ⟨lb, lo, none⟩) vn vc) from rfl)
                  have tl' := c6.lt
                  have W6 := hide h6
                  have H6 := hide (HH.out.trap ha3 HN.out)
                  generalize M.out 7 xs = ov
                  clear c6 h6 WS HH AV fa
                  go_wp2_with fail
                  exact ⟨⟨j + 1, _, by omega, by go_num, H6.out, W6.out⟩, by simp [intOf] <;> omega⟩
                · have HN : Hid (inner a b 9 xs) := Or.inl ⟨by omega, by rw [HX.out.1]; simp, by rw [HX.out.1]; exact Or.inr ⟨hxa, hxb⟩⟩
                  go_wp2_with fail
                  refine (WS.out.trapC _ 9 AV.out).mono ?_
                  rintro e w6 ⟨rfl, h6, c6⟩
                  have t0' := (c6.cell 0).trans (show _ = some (Value.int .i64 9) from rfl)
                  have t1' := (c6.cell 1).trans (show _ = some (Value.slice (some ⟨lb, lo, none⟩) vn vc) from rfl)
                  have tl' := c6.lt
                  have W6 := hide h6
                  have H6 := hide (HH.out.trap ha3 HN.out)
                  generalize M.out 9 xs = ov
                  clear c6 h6 WS HH AV fa
                  go_wp2_with fail
                  exact ⟨⟨j + 1, _, by omega, by go_num, H6.out, W6.out⟩, by simp [intOf] <;> omega⟩
                · have HN : Hid (inner a b 14 xs) := Or.inl ⟨by omega, by rw [HX.out.1]; simp, by rw [HX.out.1]; exact Or.inr ⟨hxa, hxb⟩⟩
                  go_wp2_with fail
                  refine (WS.out.trapC _ 14 AV.out).mono ?_
                  rintro e w6 ⟨rfl, h6, c6⟩
                  have t0' := (c6.cell 0).trans (show _ = some (Value.int .i64 14) from rfl)
                  have t1' := (c6.cell 1).trans (show _ = some (Value.slice (some ⟨lb, lo, none⟩) vn vc) from rfl)
                  have tl' := c6.lt
                  have W6 := hide h6
                  have H6 := hide (HH.out.trap ha3 HN.out)
                  generalize M.out 14 xs = ov
                  clear c6 h6 WS HH AV fa
                  go_wp2_with fail
                  exact ⟨⟨j + 1, _, by omega, by go_num, H6.out, W6.out⟩, by simp [intOf] <;> omega⟩
              · by_cases hTT : T = 10
                · subst hTT
                  by_cases h2 : vn = 2
                  · subst h2
                    have hx1 : (1 : Int) ≤ x := by omega
                    by_cases hx5 : x < 5
                    · have HN : Hid (inner a b 10 xs) := Or.inr ⟨rfl, by rw [← HX.out.2], by rw [HX.out.1]; exact ⟨hx1, hx5⟩⟩
                      go_wp2_with fail
                      refine (WS.out.trapC _ 10 AV.out).mono ?_
                      rintro e w6 ⟨rfl, h6, c6⟩
                      have t0' := (c6.cell 0).trans (show _ = some (Value.int .i64 10) from rfl)
                      have t1' := (c6.cell 1).trans (show _ = some (Value.slice (some ⟨lb, lo, none⟩) 2 vc) from rfl)
                      have tl' := c6.lt
                      have W6 := hide h6
                      have H6 := hide (HH.out.trap ha3 HN.out)
                      generalize M.out 10 xs = ov
                      clear c6 h6 WS HH AV fa
                      go_wp2_with fail
                      exact ⟨⟨j + 1, _, by omega, by go_num, H6.out, W6.out⟩, by simp [intOf] <;> omega⟩
                    · go_wp2_with fail
                      exact ⟨⟨j + 1, M, by omega, by go_num, HH.out, WS.out.later fa.out⟩, by simp [intOf] <;> omega⟩
                  · have h2i : ¬ ((vn : Int) = 2) := by omega
                    have h2' : ((vn : Int) == 2) = false := by simp; omega
                    go_wp2_with fail
                    exact ⟨⟨j + 1, M, by omega, by go_num, HH.out, WS.out.later fa.out⟩, by simp [intOf] <;> omega⟩
                · have e4 : (T == 4) = false := by simp; omega
                  have f4 : ¬ T = 4 := by omega
                  have e7 : (T == 7) = false := by simp; omega
                  have f7 : ¬ T = 7 := by omega
                  have e9 : (T == 9) = false := by simp; omega
                  have f9 : ¬ T = 9 := by omega
                  have e14 : (T == 14) = false := by simp; omega
                  have f14 : ¬ T = 14 := by omega
                  have e10 : (T == 10) = false := by simp; omega
                  have f10 : ¬ T = 10 := by omega
                  go_wp2_with fail
                  exact ⟨⟨j + 1, M, by omega, by go_num, HH.out, WS.out.later fa.out⟩, by simp [intOf] <;> omega⟩
            · by_cases hTT : T = 10
              · subst hTT
                by_cases h2 : vn = 2
                · subst h2
                  have hx1' : (1 : Int) ≤ x := by omega
                  by_cases hx5 : x < 5
                  · have HN : Hid (inner a b 10 xs) := Or.inr ⟨rfl, by rw [← HX.out.2], by rw [HX.out.1]; exact ⟨hx1', hx5⟩⟩
                    go_wp2_with fail
                    refine (WS.out.trapC _ 10 AV.out).mono ?_
                    rintro e w6 ⟨rfl, h6, c6⟩
                    have t0' := (c6.cell 0).trans (show _ = some (Value.int .i64 10) from rfl)
                    have t1' := (c6.cell 1).trans (show _ = some (Value.slice (some ⟨lb, lo, none⟩) 2 vc) from rfl)
                    have tl' := c6.lt
                    have W6 := hide h6
                    have H6 := hide (HH.out.trap ha3 HN.out)
                    generalize M.out 10 xs = ov
                    clear c6 h6 WS HH AV fa
                    go_wp2_with fail
                    exact ⟨⟨j + 1, _, by omega, by go_num, H6.out, W6.out⟩, by simp [intOf] <;> omega⟩
                  · go_wp2_with fail
                    exact ⟨⟨j + 1, M, by omega, by go_num, HH.out, WS.out.later fa.out⟩, by simp [intOf] <;> omega⟩
                · have h2i : ¬ ((vn : Int) = 2) := by omega
                  have h2' : ((vn : Int) == 2) = false := by simp; omega
                  go_wp2_with fail
                  exact ⟨⟨j + 1, M, by omega, by go_num, HH.out, WS.out.later fa.out⟩, by simp [intOf] <;> omega⟩
              · have e10 : (T == 10) = false := by simp [hTT]
                go_wp2_with fail
                exact ⟨⟨j + 1, M, by omega, by go_num, HH.out, WS.out.later fa.out⟩, by simp [intOf] <;> omega⟩
          · by_cases hTT : T = 10
            · subst hTT
              by_cases h2 : vn = 2
              · subst h2
                by_cases hx1' : (1 : Int) ≤ x
                · by_cases hx5 : x < 5
                  · have HN : Hid (inner a b 10 xs) := Or.inr ⟨rfl, by rw [← HX.out.2], by rw [HX.out.1]; exact ⟨hx1', hx5⟩⟩
                    go_wp2_with fail
                    refine (WS.out.trapC _ 10 AV.out).mono ?_
                    rintro e w6 ⟨rfl, h6, c6⟩
                    have t0' := (c6.cell 0).trans (show _ = some (Value.int .i64 10) from rfl)
                    have t1' := (c6.cell 1).trans (show _ = some (Value.slice (some ⟨lb, lo, none⟩) 2 vc) from rfl)
                    have tl' := c6.lt
                    have W6 := hide h6
                    have H6 := hide (HH.out.trap ha3 HN.out)
                    generalize M.out 10 xs = ov
                    clear c6 h6 WS HH AV fa
                    go_wp2_with fail
                    exact ⟨⟨j + 1, _, by omega, by go_num, H6.out, W6.out⟩, by simp [intOf] <;> omega⟩
                  · go_wp2_with fail
                    exact ⟨⟨j + 1, M, by omega, by go_num, HH.out, WS.out.later fa.out⟩, by simp [intOf] <;> omega⟩
                · go_wp2_with fail
                  exact ⟨⟨j + 1, M, by omega, by go_num, HH.out, WS.out.later fa.out⟩, by simp [intOf] <;> omega⟩
              · have h2i : ¬ ((vn : Int) = 2) := by omega
                have h2' : ((vn : Int) == 2) = false := by simp; omega
                go_wp2_with fail
                exact ⟨⟨j + 1, M, by omega, by go_num, HH.out, WS.out.later fa.out⟩, by simp [intOf] <;> omega⟩
            · have e10 : (T == 10) = false := by simp [hTT]
              go_wp2_with fail
              exact ⟨⟨j + 1, M, by omega, by go_num, HH.out, WS.out.later fa.out⟩, by simp [intOf] <;> omega⟩
    · have : j = n1 := by omega
      subst this
      clear hws CS
      obtain ⟨u, hfree⟩ := HH.out.free ha3
      have HFR := hide hfree
      clear hfree HH
      go_wp2_with fail
      have T3 := hide (WS.out.trap_new 8 #[.int .i64 2] 1 [2] rfl rfl (fun x hx => by simp at hx; omega))
      have E3 : Hid (M.out 8 [2] = .agg #[.int .i64 0, .int .i64 0, .int .i64 u]) := by unfold Hid MS.out; rw [HFR.out]; rfl
      rw [E3.out, HFR.out] at T3
      refine T3.out.mono ?_
      clear T3 E3 HFR WS
      rintro e w6 ⟨rfl, h6⟩
      have W6 := hide h6
      have fz0 := h6.frozen 0
      have fz1 := h6.frozen 1
      have fz2 := h6.frozen 2
      have ol := h6.olt
      obtain ⟨x0, x1, x2, oc0, oc1, oc2⟩ := h6.ocell
      clear h6
      go_wp2_with fail
      have W7 := hide (((W6.out.set 0 (.int .i64 0)).set 1 (.int .i64 0)).set 2 (.int .i64 u))
      generalize (((w6.setCell ⟨ob, 0, none⟩ (.int .i64 0)).setCell ⟨ob, 1, none⟩ (.int .i64 0)).setCell ⟨ob, 2, none⟩ (.int .i64 u)) = w7 at *
      clear fz0 fz1 fz2 ol oc0 oc1 oc2 W6
      go_loopw [15] (fun i w' => ∃ q : Nat, 1 ≤ q ∧ q ≤ 5 ∧ i = .int .i64 q ∧ WipeS w w' kb (lessM q) (.slice o3a o3n o3c) ob) (fun i _ => 5 - (intOf i).toNat)
      case atStart => exact ⟨1, by omega, by omega, rfl, W7.out⟩
      case round =>
        obtain ⟨q, hq1, hq5, rfl, hw8⟩ := hrel
        clear W7
        have W8 := hide hw8
        have hz8 := hw8.size
        clear hw8
        by_cases hq : q < 5
        · have hqi : (q : Int) < 5 := by omega
          have T8 := hide (W8.out.trap_new 10 #[.int .i64 q, .int .i64 1] 2 [(q : Int), 1] rfl rfl (fun x hx => by simp at hx; omega))
          have E8 : Hid ((lessM q).out 10 [(q : Int), 1] = .agg #[.int .i64 0, .int .i64 0, .int .i64 0]) := by unfold Hid MS.out; rw [give_less hq1 hq]; rfl
          rw [E8.out, give_less hq1 hq] at T8
          go_wp2_with fail
          refine T8.out.mono ?_
          clear T8 E8 W8
          rintro e w9 ⟨rfl, h9⟩
          have W9 := hide (((h9.set 0 (.int .i64 0)).set 1 (.int .i64 0)).set 2 (.int .i64 0))
          have fz0 := h9.frozen 0
          have fz1 := h9.frozen 1
          have fz2 := h9.frozen 2
          have ol := h9.olt
          obtain ⟨x0, x1, x2, oc0, oc1, oc2⟩ := h9.ocell
          clear h9
          go_wp2_with fail
          exact ⟨⟨q + 1, by omega, by omega, by go_num, W9.out⟩, by simp [intOf] <;> omega⟩
        · have : q = 5 := by omega
          subst this
          rw [less_all] at W8
          obtain ⟨F8, oc, q1, q2, q3, q4, q5, q6, q7, q8, q9⟩ := W8.out
          have K8 := hide q1
          have HF8 := hide q2
          have O8 := hide q3
          have N8 : Hid (∀ k, (Value.slice o3a o3n o3c).ownBlock = some k → ¬ F8 k) := fun k hk => (q4 k hk).1
          have B8 := hide q9
          clear q1 q2 q3 q4 q5 q6 q7 q8 q9 W8
          go_wp2_with fail
          refine (kn_view K8.out 255).mono ?_
          rintro e w9 ⟨v9, rfl, o9, k9, f9⟩
          have O9 := hide o9
          have OC := hide (O8.out.same (fun k hk => f9.block k (O8.out.row hk).2 (N8.out k hk)))
          have B9 := hide (B8.out.trans (f9.below_lo HF8.out hz8))
          clear o9 k9 f9 K8 O8 B8
          go_wp2_with fail
          refine (same_any w9 _ _ v9 _ _ _ O9.out OC.out (Nat.le_trans VS.out (by omega))).mono ?_
          rintro e w10 ⟨rfl, b10⟩
          have B10 := hide (B9.out.trans (b10.mono B9.out.size))
          rw [decide_eq_true rfl]
          clear b10 B9 O9 OC
          go_wp2_with fail
          go_ret
          exact ⟨rfl, B10.out⟩

end Go.Proofs.Ytloppmepfkkblaa
