/- The keep's 'both'. -/
import Derived.OwnWalk
import Derived.Test.YtloppmepfkkblaaJQOpenToQSilent0

section
open Go Go.Proofs Go.RowKit
namespace Go.Proofs.Ytloppmepfkkblaa

/-- Two kernels apart from one another, in memory that is new since w0; since ws nothing but the blocks X has changed. -/
structure Duo (w0 ws : World) (X : Nat → Prop) (w : World) (kx ky : Nat) (M N : MS) : Prop where
  two : ∃ F G : Nat → Prop, Kn w kx F M ∧ Kn w ky G N ∧ (∀ k, F k → ¬ G k) ∧ (∀ k, F k ∨ G k → w0.heap.size ≤ k) ∧ (∀ k, F k ∨ G k → X k ∨ ws.heap.size ≤ k)
  old : Below w0.heap.size w0 w
  fr : Fr X ws w

theorem dis_step {F F2 G : Nat → Prop} {B : Nat} (d : ∀ k, F k → ¬ G k) (hG : ∀ k, G k → k < B) (g : ∀ k, F2 k → F k ∨ B ≤ k) : ∀ k, F2 k → ¬ G k := fun k hk hg => by
  rcases g k hk with h | h
  · exact d k h hg
  · have := hG k hg; omega

section
variable {w0 ws w w' : World} {X : Nat → Prop} {kx ky : Nat} {M N : MS}
theorem Duo.later (h : Duo w0 ws X w kx ky M N) (hb : Below w.heap.size w w') : Duo w0 ws X w' kx ky M N := by
  obtain ⟨F, G, h0, h1, d, lo⟩ := h.two
  exact ⟨⟨F, G, h0.below hb, h1.below hb, d, lo⟩, h.old.trans (hb.mono h.old.size), h.fr.trans (Fr.of_below hb)⟩
theorem Duo.swap (h : Duo w0 ws X w kx ky M N) : Duo w0 ws X w ky kx N M := by
  obtain ⟨F, G, h0, h1, d, lo, lx⟩ := h.two
  exact ⟨⟨G, F, h1, h0, fun k hk hf => d k hf hk, fun k hk => lo k hk.symm, fun k hk => lx k hk.symm⟩, h.old, h.fr⟩
theorem Duo.zero (h : Duo w0 ws X w kx ky M N) : ∃ F, Kn w kx F M ∧ (∀ k, F k → w0.heap.size ≤ k) ∧ ∀ w' M', KnGoes w kx F M' w' → Duo w0 ws X w' kx ky M' N := by
  obtain ⟨F, G, h0, h1, d, lo, lx⟩ := h.two
  refine ⟨F, h0, fun k hk => lo k (Or.inl hk), ?_⟩
  rintro w' M' ⟨F', g1, g2, g3⟩
  have hz := h.old.size
  have hy := h.fr.size
  refine ⟨⟨F', G, g1, h1.fr g3 (fun k a b => d k b a), dis_step d (fun k hk => h1.lt hk) g2, fun k hk => ?_, fun k hk => ?_⟩, h.old.trans (g3.below_lo (fun k hk => lo k (Or.inl hk)) hz), h.fr.trans' g3 (fun k hk hf => (lx k (Or.inl hf)).elim id (fun q => by omega))⟩
  · rcases hk with hk | hk
    · rcases g2 k hk with q | q
      · exact lo k (Or.inl q)
      · omega
    · exact lo k (Or.inr hk)
  · rcases hk with hk | hk
    · rcases g2 k hk with q | q
      · exact lx k (Or.inl q)
      · exact Or.inr (by omega)
    · exact lx k (Or.inr hk)
theorem Duo.one (h : Duo w0 ws X w kx ky M N) : ∃ G, Kn w ky G N ∧ (∀ k, G k → w0.heap.size ≤ k) ∧ ∀ w' N', KnGoes w ky G N' w' → Duo w0 ws X w' kx ky M N' := by
  obtain ⟨F, h1, h2, h3⟩ := h.swap.zero
  exact ⟨F, h1, h2, fun w' M' g => (h3 w' M' g).swap⟩
/-- .. since the start. -/
theorem duo_mk (h : ∃ F G : Nat → Prop, Kn w kx F M ∧ Kn w ky G N ∧ (∀ k, F k → ¬ G k) ∧ (∀ k, F k ∨ G k → w0.heap.size ≤ k)) (hb : Below w0.heap.size w0 w) : Duo w0 w0 (fun _ => False) w kx ky M N := by
  obtain ⟨F, G, h0, h1, d, lo⟩ := h
  exact ⟨⟨F, G, h0, h1, d, lo, fun k hk => Or.inr (lo k hk)⟩, hb, Fr.of_below hb⟩
/-- .. from here on. -/
theorem Duo.here (h : Duo w0 ws X w kx ky M N) : ∃ Y, (∀ k, Y k → w0.heap.size ≤ k ∧ k < w.heap.size) ∧ Duo w0 w Y w kx ky M N ∧ ∀ w' M' N', Duo w0 w Y w' kx ky M' N' → Duo w0 ws X w' kx ky M' N' := by
  obtain ⟨F, G, h0, h1, d, lo, lx⟩ := h.two
  have hy := h.fr.size
  refine ⟨fun k => F k ∨ G k, fun k hk => ⟨lo k hk, hk.elim (fun q => h0.lt q) (fun q => h1.lt q)⟩, ⟨⟨F, G, h0, h1, d, lo, fun k hk => Or.inl hk⟩, h.old, Fr.refl _ _⟩, fun w' M' N' g => ?_⟩
  obtain ⟨F', G', g0, g1, gd, glo, glx⟩ := g.two
  refine ⟨⟨F', G', g0, g1, gd, glo, fun k hk => ?_⟩, g.old, h.fr.trans' g.fr (fun k hk hf => (lx k hf).elim id (fun q => by omega))⟩
  rcases glx k hk with q | q
  · exact lx k q
  · exact Or.inr (by omega)
end

/-- Alike, and tight. -/
def Good (l : Nat) (M N : MS) : Prop := Alike l M N ∧ Tight l M ∧ Tight l N
/-- What 'both' leaves. -/
def BothEnd (w0 ws : World) (X : Nat → Prop) (kx ky l : Nat) (e : Ending) (w' : World) : Prop := ∃ o M' N', e = .returned (.tuple #[.bool true, .bool o]) ∧ Duo w0 ws X w' kx ky M' N' ∧ (o = false → Good l M' N')

set_option maxRecDepth 100000 in
set_option maxHeartbeats 16000000 in
theorem both_any {w0 ws w : World} {X : Nat → Prop} {kx ky : Nat} {M N : MS} {l : Nat} (h : Duo w0 ws X w kx ky M N) (hl : l < 256) (hgd : Good l M N) (sa : Option Addr) (n cap : Nat) (cs : List (Int × List Int)) (hn : cs.length = n) (hn4 : n ≤ 17592186043904) (hs : CallsAt w0 sa cs) :
    Calls Try.prog 13 #[.pointer (some ⟨kx, 0, none⟩), .pointer (some ⟨ky, 0, none⟩), .int .i64 l, .slice sa n cap] w fun e w' => BothEnd w0 ws X kx ky l e w' := by
  have HS := hide hs
  have HN := hide hn
  have D0 := hide h
  have G0 := hide hgd
  clear hs hn h hgd
  go_enter Try.func13, Try.ntmps13
  go_wp2_with fail
  go_loopw [10] (fun i w' => ∃ (j : Nat) (M' N' : MS), j ≤ n ∧ i = .int .i64 j ∧ Duo w0 ws X w' kx ky M' N' ∧ Good l M' N') (fun i _ => n - (intOf i).toNat)
  case atStart => exact ⟨0, M, N, by omega, rfl, D0.out, G0.out⟩
  case round =>
    obtain ⟨j, M1, N1, hj, rfl, hd, hg⟩ := hrel
    clear D0 G0
    have DU := hide hd
    have GO := hide hg
    clear hd hg
    by_cases hjn : j < n
    · have hji : (j : Int) < (n : Int) := by omega
      obtain ⟨F, G, kX, kY, dis, lo, lx⟩ := DU.out.two
      have KX := hide kX
      have KY := hide kY
      have DIS := hide dis
      have LO := hide lo
      have LXX := hide lx
      have FRR := hide DU.out.fr
      have hys := DU.out.fr.size
      have IX := hide kX.inv
      have IY := hide kY.inv
      have OLD := hide DU.out.old
      have LX : Hid (∀ k, F k → k < wr.heap.size) := fun k hk => kX.lt hk
      have LY : Hid (∀ k, G k → k < wr.heap.size) := fun k hk => kY.lt hk
      have EQ := hide (heard_alike GO.out.1 IX.out IY.out GO.out.2.1 GO.out.2.2)
      have hz0 := DU.out.old.size
      clear kX kY dis lo lx
      have HX := hide (heard_any KX.out hl)
      cases hh : heardB M1 l with
      | false =>
        rw [hh] at HX
        go_wp2_with fail
        refine HX.out.mono ?_
        rintro e w2 ⟨rfl, b2⟩
        have HY := hide (heard_any (KY.out.below b2) hl)
        rw [← EQ.out.1, hh] at HY
        have D2 := hide (DU.out.later b2)
        clear b2
        go_wp2_with fail
        refine HY.out.mono ?_
        rintro e w3 ⟨rfl, b3⟩
        have D3 := hide (D2.out.later b3)
        clear b3
        go_wp2_with fail
        go_ret2
        exact ⟨false, M1, N1, rfl, D3.out, fun _ => GO.out⟩
      | true =>
        rw [hh] at HX
        have HH := hide hh
        obtain ⟨nt, nl, hnow⟩ := now_form M1
        have NW : Hid (M1.now = .agg #[.int .i64 M1.ph, .int .i64 nt, .int .i64 nl] ∧ N1.now = .agg #[.int .i64 M1.ph, .int .i64 nt, .int .i64 nl]) := ⟨hnow, (EQ.out.2 hh).symm.trans hnow⟩
        clear hnow
        obtain ⟨sb, so, c, v, hsa, hsb, hcj, c0, c1, hav⟩ := HS.out.get (k := j) (by rw [HN.out]; exact hjn) (Below.refl _ _)
        subst hsa
        obtain ⟨T, xs⟩ := c
        obtain ⟨va, vn, vc, hv⟩ := hav.form
        subst hv
        have CW : Hid (∀ W, Below w0.heap.size w0 W → (W.cell? ⟨sb, so + j * 2, none⟩ = some (.int .i64 T) ∧ W.cell? ⟨sb, so + j * 2 + 1, none⟩ = some (.slice va vn vc)) ∧ ArgV W (.slice va vn vc) xs) := fun W hW => ⟨⟨(cell_same (hW.block sb hsb) _).trans c0, (cell_same (hW.block sb hsb) _).trans c1⟩, hav.later hW⟩
        clear hav hcj c0 c1
        go_wp2_with fail
        refine HX.out.mono ?_
        clear HX
        rintro e w2 ⟨rfl, b2⟩
        have B2 := hide b2
        have HY := hide (heard_any (KY.out.below b2) hl)
        rw [← EQ.out.1, hh] at HY
        clear b2 hh
        go_wp2_with fail
        refine HY.out.mono ?_
        clear HY
        rintro e w3 ⟨rfl, b3⟩
        have B3 := hide (B2.out.trans (b3.mono B2.out.size))
        have NX := hide (kn_now (KX.out.below B3.out))
        rw [NW.out.1] at NX
        clear b3 B2
        go_wp2_with fail
        refine NX.out.mono ?_
        clear NX
        rintro e w4 ⟨rfl, b4⟩
        have B4 := hide (B3.out.trans (b4.mono B3.out.size))
        have NY := hide (kn_now (KY.out.below B4.out))
        rw [NW.out.2] at NY
        clear b4 B3
        go_wp2_with fail
        refine NY.out.mono ?_
        clear NY
        rintro e w5 ⟨rfl, b5⟩
        have b5' := B4.out.trans (b5.mono B4.out.size)
        have z5 := b5'.size
        have B5 : Hid (Below wr.heap.size wr w5.drew) := b5'.drew
        have O5 : Hid (Below w0.heap.size w0 w5.drew) := OLD.out.trans (B5.out.mono hz0)
        have K5 := hide (KX.out.below B5.out)
        clear b5 b5' B4
        obtain ⟨e1, v1, u1, M2, hout⟩ : ∃ (e1 v1 : Int) (u1 : Nat) (M2 : MS), M1.trap T xs = ((e1, v1, u1), M2) := ⟨_, _, _, _, rfl⟩
        obtain ⟨e2, v2, u2, N2, hout2⟩ : ∃ (e1 v1 : Int) (u1 : Nat) (M2 : MS), N1.trap T xs = ((e1, v1, u1), M2) := ⟨_, _, _, _, rfl⟩
        have hu1 : u1 < 256 := by have := (trap_range IX.out T xs).2.2.1; rw [hout] at this; exact this
        have hu2 : u2 < 256 := by have := (trap_range IY.out T xs).2.2.1; rw [hout2] at this; exact this
        have OUT := hide hout
        have OUT2 := hide hout2
        clear hout hout2
        have hsF : ¬ F sb := fun hf => by have := LO.out sb (Or.inl hf); omega
        have hsG : ¬ G sb := fun hf => by have := LO.out sb (Or.inr hf); omega
        have hsb5 : sb < w5.drew.heap.size := by show sb < w5.heap.size; omega
        have hS0 := (CW.out _ O5.out).1
        go_wp2_with fail
        refine wp_region_plan2 (fun w' => w'.cell? ⟨sb, so + j * 2, none⟩ = some (.int .i64 T) ∧ w'.cell? ⟨sb, so + j * 2 + 1, none⟩ = some (.slice va vn vc)) 13 11 0 0 (by kernel_rfl) (by kernel_rfl) (by rfl) (fun _ a d v w h => by cases d <;> exact h) hS0 ?_
        simp only [List.take_succ_cons, List.take_zero, List.drop_zero, List.append_nil]
        iterate 11 (
          refine wpPlanL_cons (v := ?_) (by rfl) ?_ ?_
          rotate_left
          · (intro wS hSw; (try dsimp only at hSw); go_simp; try with_reducible rfl)
          simp only [Act.put, List.setIfInBounds_toArray])
        refine wpPlanL_nil ?_
        refine wpAnyT_as (fuel := 3) (listed := LT false false false) (by kernel_rfl) (by kernel_rfl) ?_
        simp only [List.set_cons_succ, List.set_cons_zero]
        refine trap_tail (t0 := 40) (t5 := 45) (t10 := 50) (d1 := 51) (dv := 13) (kb := kx) (F := F) (M := M1) (T := T) (v := .slice va vn vc) (xs := xs) (sb := sb) ?ko K5.out (CW.out _ O5.out).2 rfl rfl rfl (by simp) (by simp) (by decide) OUT.out hsb5 hsF ?s ?q
        case ko => exact ⟨⟨_, rfl, rfl, rfl, rfl⟩, ⟨_, rfl, rfl, rfl, rfl⟩, ⟨_, rfl, rfl, rfl, rfl⟩, by kernel_rfl, by kernel_rfl, by kernel_rfl, by kernel_rfl, by kernel_rfl⟩
        case s => exact fun w' e => ⟨(cell_same e _).trans hS0.1, (cell_same e _).trans hS0.2⟩
        case q =>
          intro ob w6 hlaid
          simp only [Act.put, List.setIfInBounds_toArray, List.set_cons_succ, List.set_cons_zero]
          obtain ⟨F2, k6, g6, f6, hob, nob, bob⟩ := hlaid
          have z6 := f6.size
          have z5' : w5.drew.heap.size = w5.heap.size := rfl
          have O6 : Hid (Below w0.heap.size w0 w6.drew) := (O5.out.trans (f6.below_lo (fun k hk => LO.out k (Or.inl hk)) (by omega))).drew
          have FX6 : Hid (Fr X ws w6.drew) := ((FRR.out.trans (Fr.of_below B5.out)).trans' f6 (fun k hk hf => (LXX.out k (Or.inl hf)).elim id (fun q => by omega))).drew
          have KX6 : Hid (Kn w6.drew kx F2 M2) := k6.below (Below.refl _ _).drew
          have KY6 : Hid (Kn w6.drew ky G N1) := (((KY.out.below B5.out).fr f6 (fun k hg hf => DIS.out k hf hg))).below (Below.refl _ _).drew
          have G6 : Hid (∀ k, F2 k → F k ∨ w5.heap.size ≤ k) := g6
          have L6 : Hid (∀ k, F2 k → k < w6.heap.size) := fun k hk => k6.lt hk
          have D6 : Hid (∀ k, F2 k → ¬ G k) := dis_step DIS.out (fun k hk => by have := LY.out k hk; omega) g6
          have BO : Hid (Blk w6.drew ob #[.int .i64 e1, .int .i64 v1, .int .i64 u1]) := bob.drew
          have hobG : ¬ G ob := fun hg => by have := LY.out ob hg; omega
          have NOB := hide nob
          have hobl := bob.lt
          have hS1 := (CW.out _ O6.out).1
          have hsb6 : sb < w6.drew.heap.size := by show sb < w6.heap.size; omega
          clear k6 g6 f6 bob nob hS0 K5
          go_wp2_with fail
          refine wp_region_plan2 (fun w' => w'.cell? ⟨sb, so + j * 2, none⟩ = some (.int .i64 T) ∧ w'.cell? ⟨sb, so + j * 2 + 1, none⟩ = some (.slice va vn vc)) 13 11 0 0 (by kernel_rfl) (by kernel_rfl) (by rfl) (fun _ a d v w h => by cases d <;> exact h) hS1 ?_
          simp only [List.take_succ_cons, List.take_zero, List.drop_zero, List.append_nil]
          iterate 11 (
            refine wpPlanL_cons (v := ?_) (by rfl) ?_ ?_
            rotate_left
            · (intro wS hSw; (try dsimp only at hSw); go_simp; try with_reducible rfl)
            simp only [Act.put, List.setIfInBounds_toArray])
          refine wpPlanL_nil ?_
          refine wpAnyT_as (fuel := 3) (listed := LT false false false) (by kernel_rfl) (by kernel_rfl) ?_
          simp only [List.set_cons_succ, List.set_cons_zero]
          refine trap_tail (t0 := 52) (t5 := 57) (t10 := 62) (d1 := 63) (dv := 14) (kb := ky) (F := G) (M := N1) (T := T) (v := .slice va vn vc) (xs := xs) (sb := sb) ?ko2 KY6.out (CW.out _ O6.out).2 rfl rfl rfl (by simp) (by simp) (by decide) OUT2.out hsb6 hsG ?s2 ?q2
          case ko2 => exact ⟨⟨_, rfl, rfl, rfl, rfl⟩, ⟨_, rfl, rfl, rfl, rfl⟩, ⟨_, rfl, rfl, rfl, rfl⟩, by kernel_rfl, by kernel_rfl, by kernel_rfl, by kernel_rfl, by kernel_rfl⟩
          case s2 => exact fun w' e => ⟨(cell_same e _).trans hS1.1, (cell_same e _).trans hS1.2⟩
          case q2 =>
            intro pb w7 hlaid
            simp only [Act.put, List.setIfInBounds_toArray, List.set_cons_succ, List.set_cons_zero]
            obtain ⟨G2, k7, g7, f7, hpb, npb, bpb⟩ := hlaid
            have z7 := f7.size
            have z6' : w6.drew.heap.size = w6.heap.size := rfl
            have BO7 := BO.out.fr f7 hobG
            have x0 := (BO7.cell 0).trans (show _ = some (Value.int .i64 e1) from rfl)
            have x1 := (BO7.cell 1).trans (show _ = some (Value.int .i64 v1) from rfl)
            have x2 := (BO7.cell 2).trans (show _ = some (Value.int .i64 u1) from rfl)
            have y0 := (bpb.cell 0).trans (show _ = some (Value.int .i64 e2) from rfl)
            have y1 := (bpb.cell 1).trans (show _ = some (Value.int .i64 v2) from rfl)
            have y2 := (bpb.cell 2).trans (show _ = some (Value.int .i64 u2) from rfl)
            have ol := BO7.lt
            have pl := bpb.lt
            have KX7 := hide (KX6.out.fr f7 (fun k hf hg => D6.out k hf hg))
            have KY7 := hide k7
            have G7 : Hid (∀ k, G2 k → G k ∨ w6.heap.size ≤ k) := g7
            have D7 : Hid (∀ k, F2 k → ¬ G2 k) := fun k hf hg => dis_step (F := G) (F2 := G2) (G := F2) (fun k hg hf => D6.out k hf hg) L6.out g7 k hg hf
            have LO7 : Hid (∀ k, F2 k ∨ G2 k → w0.heap.size ≤ k) := fun k hk => by
              rcases hk with hk | hk
              · exact (G6.out k hk).elim (fun q => LO.out k (Or.inl q)) (fun q => by omega)
              · exact (g7 k hk).elim (fun q => LO.out k (Or.inr q)) (fun q => by omega)
            have OLD7 : Hid (Below w0.heap.size w0 w7) := O6.out.trans (f7.below_lo (fun k hk => LO.out k (Or.inr hk)) (by omega))
            have LX7 : Hid (∀ k, F2 k ∨ G2 k → X k ∨ ws.heap.size ≤ k) := fun k hk => by
              rcases hk with hk | hk
              · exact (G6.out k hk).elim (fun q => LXX.out k (Or.inl q)) (fun q => Or.inr (by omega))
              · exact (g7 k hk).elim (fun q => LXX.out k (Or.inr q)) (fun q => Or.inr (by omega))
            have FX7 : Hid (Fr X ws w7) := FX6.out.trans' f7 (fun k hk hf => (LXX.out k (Or.inr hf)).elim id (fun q => by omega))
            have DU7 : Hid (Duo w0 ws X w7 kx ky M2 N2) := ⟨⟨F2, G2, KX7.out, KY7.out, D7.out, LO7.out, LX7.out⟩, OLD7.out, FX7.out⟩
            have NOB7 : Hid (ob < w7.heap.size ∧ pb < w7.heap.size ∧ ¬ F2 ob ∧ ¬ G2 ob ∧ ¬ F2 pb ∧ ¬ G2 pb) := by
              refine ⟨ol, pl, NOB.out, fun hg => ?_, fun hf => ?_, npb⟩
              · rcases g7 ob hg with q | q
                · exact hobG q
                · omega
              · have := L6.out pb hf; omega
            have BO7H := hide BO7
            have BP7H := hide bpb
            have IV1 := hide (in_val w7 hu1 hl)
            have IV2 := hide (in_val w7 hu2 hl)
            clear k7 g7 f7 bpb npb BO7 hS1 KX6 KY6
            cases hs1 : sub u1 l with
            | false =>
              rw [hs1] at IV1
              clear hs1
              go_wp2_with fail
              refine IV1.out.mono ?_
              rintro e w8 ⟨rfl, rfl⟩
              go_wp2_with fail
              refine IV2.out.mono ?_
              rintro e w9 ⟨rfl, rfl⟩
              go_wp2_with fail
              go_ret2
              exact ⟨true, M2, N2, rfl, DU7.out, fun h => by cases h⟩
            | true =>
              cases hs2 : sub u2 l with
              | false =>
                rw [hs1] at IV1
                rw [hs2] at IV2
                clear hs1 hs2
                go_wp2_with fail
                refine IV1.out.mono ?_
                rintro e w8 ⟨rfl, rfl⟩
                go_wp2_with fail
                refine IV2.out.mono ?_
                rintro e w9 ⟨rfl, rfl⟩
                go_wp2_with fail
                go_ret2
                exact ⟨true, M2, N2, rfl, DU7.out, fun h => by cases h⟩
              | true =>
                have HD := trap_heard GO.out.1 IX.out IY.out GO.out.2.1 HH.out (n := T) (xs := xs) (by rw [OUT.out]; exact hs1) (by rw [OUT2.out]; exact hs2)
                rw [OUT.out, OUT2.out] at HD
                dsimp only at HD
                obtain ⟨he, hv, hA2⟩ := HD
                subst he hv
                have T2 : Hid (Tight l M2) := by
                  have := trap_tight (l := l) IX.out GO.out.2.1 (n := T) (xs := xs) (by rw [OUT.out]; exact hs1)
                  rw [OUT.out] at this
                  exact this
                have T3 : Hid (Tight l N2) := by
                  have := trap_tight (l := l) IY.out GO.out.2.2 (n := T) (xs := xs) (by rw [OUT2.out]; exact hs2)
                  rw [OUT2.out] at this
                  exact this
                have GD2 : Hid (Good l M2 N2) := ⟨hA2, T2.out, T3.out⟩
                have IX2 := hide KX7.out.inv
                have IY2 := hide KY7.out.inv
                have EV := hide (view_alike hA2 IX2.out IY2.out)
                rw [hs1] at IV1
                rw [hs2] at IV2
                clear hs1 hs2 hA2
                go_wp2_with fail
                refine IV1.out.mono ?_
                rintro e w8 ⟨rfl, rfl⟩
                go_wp2_with fail
                refine IV2.out.mono ?_
                rintro e w9 ⟨rfl, rfl⟩
                clear IV1 IV2
                go_wp2_with fail
                refine (kn_view KX7.out l).mono ?_
                rintro e wa ⟨v3, rfl, o3, k3, f3⟩
                have za := f3.size
                have O3 := hide o3
                have R3 : Hid (∀ k, v3.ownBlock = some k → w9.heap.size ≤ k ∧ k < wa.heap.size) := fun k hk => o3.row hk
                have KXa := hide k3
                have KYa := hide (KY7.out.fr f3 (fun k hg hf => D7.out k hf hg))
                have OLDa := hide (OLD7.out.trans (f3.below_lo (fun k hk => LO7.out k (Or.inl hk)) OLD7.out.size))
                have FXa := hide (FX7.out.trans' f3 (fun k hk hf => (LX7.out k (Or.inl hf)).elim id (fun q => by omega)))
                have BOa := hide (BO7H.out.fr f3 NOB7.out.2.2.1)
                have BPa := hide (BP7H.out.fr f3 NOB7.out.2.2.2.2.1)
                have LG : Hid (∀ k, G2 k → k < w9.heap.size) := fun k hk => KY7.out.lt hk
                obtain ⟨o3a, o3n, o3c, hv3⟩ := o3.form
                subst hv3
                clear o3 k3 f3 x0 x1 x2 y0 y1 y2 ol pl
                go_wp2_with fail
                refine (kn_view KYa.out l).mono ?_
                rintro e wb ⟨v4, rfl, o4, k4, f4⟩
                have zb := f4.size
                have O4 := hide o4
                have O3b := hide (O3.out.same (w' := wb) (fun k hk => f4.block k (R3.out k hk).2 (fun hg => by have := LG.out k hg; have := (R3.out k hk).1; omega)))
                have DUb : Hid (Duo w0 ws X wb kx ky M2 N2) := ⟨⟨F2, G2, KXa.out.fr f4 (fun k hf hg => D7.out k hf hg), k4, D7.out, LO7.out, LX7.out⟩, OLDa.out.trans (f4.below_lo (fun k hk => LO7.out k (Or.inr hk)) OLDa.out.size), FXa.out.trans' f4 (fun k hk hf => (LX7.out k (Or.inr hf)).elim id (fun q => by omega))⟩
                have BOb := hide (BOa.out.fr f4 NOB7.out.2.2.2.1)
                have BPb := hide (BPa.out.fr f4 NOB7.out.2.2.2.2.2)
                obtain ⟨o4a, o4n, o4c, hv4⟩ := o4.form
                subst hv4
                clear o4 k4 f4
                go_wp2_with fail
                refine (same_any wb _ _ _ _ _ _ O3b.out O4.out (Nat.le_trans (view_short IX2.out l) (by omega))).mono ?_
                rintro e wc ⟨rfl, bc⟩
                rw [decide_eq_true EV.out]
                have DUc := hide (DUb.out.later bc)
                have BOc := BOb.out.below bc BOb.out.lt
                have BPc := BPb.out.below bc BPb.out.lt
                have x0 := (BOc.cell 0).trans (show _ = some (Value.int .i64 e2) from rfl)
                have x1 := (BOc.cell 1).trans (show _ = some (Value.int .i64 v2) from rfl)
                have y0 := (BPc.cell 0).trans (show _ = some (Value.int .i64 e2) from rfl)
                have y1 := (BPc.cell 1).trans (show _ = some (Value.int .i64 v2) from rfl)
                have ol := BOc.lt
                have pl := BPc.lt
                clear bc BOc BPc
                go_wp2_with fail
                exact ⟨⟨j + 1, M2, N2, by omega, by go_num, DUc.out, GD2.out⟩, by simp [intOf] <;> omega⟩
    · have hji : ¬ (j : Int) < (n : Int) := by omega
      go_wp2_with fail
      go_ret2
      exact ⟨false, M1, N1, rfl, DU.out, fun _ => GO.out⟩

end Go.Proofs.Ytloppmepfkkblaa
end

section
/- The keep's 'quiet'. -/
open Go Go.Proofs Go.RowKit
namespace Go.Proofs.Ytloppmepfkkblaa

/-- What 'quiet' leaves. -/
def QuietEnd (w : World) (l : Nat) (M : MS) (e : Ending) (w' : World) : Prop := ∃ kx ky o, e = .returned (.tuple #[.pointer (some ⟨kx, 0, none⟩), .pointer (some ⟨ky, 0, none⟩), .bool o]) ∧ Duo w w (fun _ => False) w' kx ky M M ∧ (o = false → Tight l M)

set_option maxRecDepth 100000 in
set_option maxHeartbeats 16000000 in
theorem quiet_any (w : World) {l : Nat} (hl : l < 256) (sa : Option Addr) (n cap : Nat) (cs : List (Int × List Int)) (hn : cs.length = n) (hn4 : n ≤ 17592186043904) (hs : CallsAt w sa cs) :
    Calls Try.prog 10 #[.slice sa n cap, .int .i64 l] w fun e w' => QuietEnd w l (MS.boot.plays cs) e w' := by
  have HS := hide hs
  have HN := hide hn
  have HB := hide (booted_any w)
  clear hs hn
  go_enter Try.func10, Try.ntmps10
  go_wp2_with fail
  refine HB.out.mono ?_
  clear HB
  rintro e w1 ⟨kx, F1, rfl, k1, f1, b1⟩
  have KX1 := hide k1
  have HF1 := hide f1
  have B1 := hide b1
  have L1 : Hid (∀ k, F1 k → k < w1.heap.size) := fun k hk => k1.lt hk
  clear k1 f1 b1
  have HB := hide (booted_any w1)
  go_wp2_with fail
  refine HB.out.mono ?_
  clear HB
  rintro e w2 ⟨ky, F2, rfl, k2, f2, b2⟩
  have D2 : Hid (Duo w w (fun _ => False) w2 kx ky (MS.boot.plays (cs.take 0)) (MS.boot.plays (cs.take 0))) := by
    refine duo_mk ⟨F1, F2, KX1.out.below b2, k2, fun k h1 h2 => ?_, fun k hk => ?_⟩ (B1.out.trans (b2.mono B1.out.size))
    · have := L1.out k h1; have := f2 k h2; omega
    · have := B1.out.size
      exact hk.elim (HF1.out k) (fun h => by have := f2 k h; omega)
  have T0 : Hid (Tight l (MS.boot.plays (cs.take 0))) := boot_tight l
  clear k2 f2 b2 KX1 HF1 B1 L1
  go_wp2_with fail
  go_loopw [9, 10] (fun ov i w' => ∃ (j : Nat) (o : Bool), j ≤ n ∧ ov = .bool o ∧ i = .int .i64 j ∧ Duo w w (fun _ => False) w' kx ky (MS.boot.plays (cs.take j)) (MS.boot.plays (cs.take j)) ∧ (o = false → Tight l (MS.boot.plays (cs.take j)))) (fun _ i _ => n - (intOf i).toNat)
  case atStart => exact ⟨0, false, by omega, rfl, rfl, D2.out, fun _ => T0.out⟩
  case round =>
    obtain ⟨j, o, hj, rfl, rfl, hd, ht⟩ := hrel
    clear D2 T0
    have DU := hide hd
    have TI := hide ht
    clear hd ht
    by_cases hjn : j < n
    · have hji : (j : Int) < (n : Int) := by omega
      obtain ⟨sb, so, c, v, hsa, hsb, hcj, c0, c1, hav⟩ := HS.out.get (k := j) (by rw [HN.out]; exact hjn) (Below.refl _ _)
      subst hsa
      obtain ⟨T, xs⟩ := c
      have EP := hide (MS.plays_take (M := MS.boot) hcj)
      obtain ⟨va, vn, vc, hv⟩ := hav.form
      subst hv
      have CW : Hid (∀ W, Below w.heap.size w W → (W.cell? ⟨sb, so + j * 2, none⟩ = some (.int .i64 T) ∧ W.cell? ⟨sb, so + j * 2 + 1, none⟩ = some (.slice va vn vc)) ∧ ArgV W (.slice va vn vc) xs) := fun W hW => ⟨⟨(cell_same (hW.block sb hsb) _).trans c0, (cell_same (hW.block sb hsb) _).trans c1⟩, hav.later hW⟩
      clear hav hcj c0 c1
      have hz0 := DU.out.old.size
      obtain ⟨d0, d1⟩ := (CW.out _ DU.out.old).1
      have hsbr : sb < wr.heap.size := by omega
      generalize MS.boot.plays (cs.take j) = M1 at *
      by_cases hT : T = -1
      · have EC : Hid (M1.call (T, xs) = M1.tick) := if_pos hT
        subst hT
        obtain ⟨F, kX, loX, goX⟩ := DU.out.zero
        have KX := hide kX
        have GX := hide goX
        clear kX goX loX d1
        go_wp2_with fail
        refine (kn_tick KX.out).mono ?_
        rintro e w2 ⟨rfl, hg⟩
        have D3 := hide (GX.out _ _ hg)
        clear hg
        obtain ⟨G, kY, loY, goY⟩ := D3.out.one
        have KY := hide kY
        have GY := hide goY
        clear kY goY loY
        go_wp2_with fail
        refine (kn_tick KY.out).mono ?_
        rintro e w3 ⟨rfl, hg⟩
        have D4 := hide (GY.out _ _ hg)
        clear hg
        go_wp2_with fail
        exact ⟨⟨j + 1, o, by omega, rfl, by go_num, by rw [EP.out, EC.out]; exact D4.out, fun ho => by rw [EP.out, EC.out]; exact tick_tight (TI.out ho)⟩, by simp [intOf] <;> omega⟩
      · have EC0 : Hid (M1.call (T, xs) = (M1.trap T xs).2) := if_neg hT
        have hT' : (T == -1) = false := by simp [hT]
        obtain ⟨F, G, kX, kY, dis, lo, -⟩ := DU.out.two
        have K5 : Hid (Kn wr.drew kx F M1) := kX.below (Below.refl _ _).drew
        have KY5 : Hid (Kn wr.drew ky G M1) := kY.below (Below.refl _ _).drew
        have DIS := hide dis
        have LO := hide lo
        have IX := hide kX.inv
        have LY : Hid (∀ k, G k → k < wr.heap.size) := fun k hk => kY.lt hk
        have O5 : Hid (Below w.heap.size w wr.drew) := DU.out.old.drew
        clear kX kY dis lo
        obtain ⟨e1, v1, u1, M2, hout⟩ : ∃ (e1 v1 : Int) (u1 : Nat) (M2 : MS), M1.trap T xs = ((e1, v1, u1), M2) := ⟨_, _, _, _, rfl⟩
        have hu1 : u1 < 256 := by have := (trap_range IX.out T xs).2.2.1; rw [hout] at this; exact this
        have OUT := hide hout
        have EC : Hid (M1.call (T, xs) = M2) := by have := EC0.out; rw [hout] at this; exact this
        clear hout EC0
        have hsF : ¬ F sb := fun hf => by have := LO.out sb (Or.inl hf); omega
        have hsG : ¬ G sb := fun hf => by have := LO.out sb (Or.inr hf); omega
        have hsb5 : sb < wr.drew.heap.size := by show sb < wr.heap.size; omega
        have hS0 := (CW.out _ O5.out).1
        go_wp2_with fail
        refine wp_region_plan2 (fun w' => w'.cell? ⟨sb, so + j * 2, none⟩ = some (.int .i64 T) ∧ w'.cell? ⟨sb, so + j * 2 + 1, none⟩ = some (.slice va vn vc)) 13 11 0 0 (by kernel_rfl) (by kernel_rfl) (by rfl) (fun _ a d v w h => by cases d <;> exact h) hS0 ?_
        simp only [List.take_succ_cons, List.take_zero, List.drop_zero, List.append_nil]
        iterate 11 (
          refine wpPlanL_cons (v := ?_) (by rfl) ?_ ?_
          rotate_left
          · (intro wS hSw; (try dsimp only at hSw); go_simp; try with_reducible rfl)
          simp only [Act.put, List.setIfInBounds_toArray])
        refine wpPlanL_nil ?_
        refine wpAnyT_as (fuel := 3) (listed := LT false false false) (by kernel_rfl) (by kernel_rfl) ?_
        simp only [List.set_cons_succ, List.set_cons_zero]
        refine trap_tail (t0 := 41) (t5 := 46) (t10 := 51) (d1 := 52) (dv := 11) (kb := kx) (F := F) (M := M1) (T := T) (v := .slice va vn vc) (xs := xs) (sb := sb) ?ko K5.out (CW.out _ O5.out).2 rfl rfl rfl (by simp) (by simp) (by decide) OUT.out hsb5 hsF ?s ?q
        case ko => exact ⟨⟨_, rfl, rfl, rfl, rfl⟩, ⟨_, rfl, rfl, rfl, rfl⟩, ⟨_, rfl, rfl, rfl, rfl⟩, by kernel_rfl, by kernel_rfl, by kernel_rfl, by kernel_rfl, by kernel_rfl⟩
        case s => exact fun w' e => ⟨(cell_same e _).trans hS0.1, (cell_same e _).trans hS0.2⟩
        case q =>
          intro ob w6 hlaid
          simp only [Act.put, List.setIfInBounds_toArray, List.set_cons_succ, List.set_cons_zero]
          obtain ⟨F2, k6, g6, f6, hob, nob, bob⟩ := hlaid
          have z6 := f6.size
          have z5' : wr.drew.heap.size = wr.heap.size := rfl
          have O6 : Hid (Below w.heap.size w w6.drew) := (O5.out.trans (f6.below_lo (fun k hk => LO.out k (Or.inl hk)) (by omega))).drew
          have KX6 : Hid (Kn w6.drew kx F2 M2) := k6.below (Below.refl _ _).drew
          have KY6 : Hid (Kn w6.drew ky G M1) := ((KY5.out.fr f6 (fun k hg hf => DIS.out k hf hg))).below (Below.refl _ _).drew
          have G6 : Hid (∀ k, F2 k → F k ∨ wr.heap.size ≤ k) := g6
          have L6 : Hid (∀ k, F2 k → k < w6.heap.size) := fun k hk => k6.lt hk
          have D6 : Hid (∀ k, F2 k → ¬ G k) := dis_step DIS.out (fun k hk => LY.out k hk) g6
          have BO : Hid (Blk w6.drew ob #[.int .i64 e1, .int .i64 v1, .int .i64 u1]) := bob.drew
          have hobG : ¬ G ob := fun hg => by have := LY.out ob hg; omega
          have hobl := bob.lt
          have hS1 := (CW.out _ O6.out).1
          have hsb6 : sb < w6.drew.heap.size := by show sb < w6.heap.size; omega
          clear k6 g6 f6 bob nob hS0
          go_wp2_with fail
          refine wp_region_plan2 (fun w' => w'.cell? ⟨sb, so + j * 2, none⟩ = some (.int .i64 T) ∧ w'.cell? ⟨sb, so + j * 2 + 1, none⟩ = some (.slice va vn vc)) 13 11 0 0 (by kernel_rfl) (by kernel_rfl) (by rfl) (fun _ a d v w h => by cases d <;> exact h) hS1 ?_
          simp only [List.take_succ_cons, List.take_zero, List.drop_zero, List.append_nil]
          iterate 11 (
            refine wpPlanL_cons (v := ?_) (by rfl) ?_ ?_
            rotate_left
            · (intro wS hSw; (try dsimp only at hSw); go_simp; try with_reducible rfl)
            simp only [Act.put, List.setIfInBounds_toArray])
          refine wpPlanL_nil ?_
          refine wpAnyT_as (fuel := 3) (listed := LT false false false) (by kernel_rfl) (by kernel_rfl) ?_
          simp only [List.set_cons_succ, List.set_cons_zero]
          refine trap_tail (t0 := 53) (t5 := 58) (t10 := 63) (d1 := 64) (dv := 12) (kb := ky) (F := G) (M := M1) (T := T) (v := .slice va vn vc) (xs := xs) (sb := sb) ?ko2 KY6.out (CW.out _ O6.out).2 rfl rfl rfl (by simp) (by simp) (by decide) OUT.out hsb6 hsG ?s2 ?q2
          case ko2 => exact ⟨⟨_, rfl, rfl, rfl, rfl⟩, ⟨_, rfl, rfl, rfl, rfl⟩, ⟨_, rfl, rfl, rfl, rfl⟩, by kernel_rfl, by kernel_rfl, by kernel_rfl, by kernel_rfl, by kernel_rfl⟩
          case s2 => exact fun w' e => ⟨(cell_same e _).trans hS1.1, (cell_same e _).trans hS1.2⟩
          case q2 =>
            intro pb w7 hlaid
            simp only [Act.put, List.setIfInBounds_toArray, List.set_cons_succ, List.set_cons_zero]
            obtain ⟨G2, k7, g7, f7, hpb, npb, bpb⟩ := hlaid
            have z7 := f7.size
            have z6' : w6.drew.heap.size = w6.heap.size := rfl
            have BO7 := BO.out.fr f7 hobG
            have x2 := (BO7.cell 2).trans (show _ = some (Value.int .i64 u1) from rfl)
            have y2 := (bpb.cell 2).trans (show _ = some (Value.int .i64 u1) from rfl)
            have ol := BO7.lt
            have pl := bpb.lt
            have DU7 : Hid (Duo w w (fun _ => False) w7 kx ky M2 M2) := by
              refine duo_mk ⟨F2, G2, KX6.out.fr f7 (fun k hf hg => D6.out k hf hg), k7, fun k hf hg => dis_step (F := G) (F2 := G2) (G := F2) (fun k hg hf => D6.out k hf hg) L6.out g7 k hg hf, fun k hk => ?_⟩ (O6.out.trans (f7.below_lo (fun k hk => LO.out k (Or.inr hk)) (by omega)))
              rcases hk with hk | hk
              · exact (G6.out k hk).elim (fun q => LO.out k (Or.inl q)) (fun q => by omega)
              · exact (g7 k hk).elim (fun q => LO.out k (Or.inr q)) (fun q => by omega)
            have IV1 := hide (fun W => in_val W hu1 hl)
            clear k7 g7 f7 bpb npb BO7 hS1 KX6 KY6
            cases hs1 : sub u1 l with
            | false =>
              rw [hs1] at IV1
              clear hs1
              cases o with
              | true =>
                go_wp2_with fail
                refine (IV1.out w7).mono ?_
                rintro e w8 ⟨rfl, rfl⟩
                go_wp2_with fail
                refine (IV1.out w8).mono ?_
                rintro e w9 ⟨rfl, rfl⟩
                go_wp2_with fail
                exact ⟨⟨j + 1, true, by omega, rfl, by go_num, by rw [EP.out, EC.out]; exact DU7.out, (fun h => by cases h)⟩, by simp [intOf] <;> omega⟩
              | false =>
                go_wp2_with fail
                refine (IV1.out w7).mono ?_
                rintro e w8 ⟨rfl, rfl⟩
                go_wp2_with fail
                refine (IV1.out w8).mono ?_
                rintro e w9 ⟨rfl, rfl⟩
                go_wp2_with fail
                exact ⟨⟨j + 1, true, by omega, rfl, by go_num, by rw [EP.out, EC.out]; exact DU7.out, (fun h => by cases h)⟩, by simp [intOf] <;> omega⟩
            | true =>
              have T2 : Hid (o = false → Tight l M2) := fun ho => by
                have := trap_tight (l := l) IX.out (TI.out ho) (n := T) (xs := xs) (by rw [OUT.out]; exact hs1)
                rw [OUT.out] at this
                exact this
              rw [hs1] at IV1
              clear hs1
              cases o with
              | true =>
                go_wp2_with fail
                refine (IV1.out w7).mono ?_
                rintro e w8 ⟨rfl, rfl⟩
                go_wp2_with fail
                refine (IV1.out w8).mono ?_
                rintro e w9 ⟨rfl, rfl⟩
                go_wp2_with fail
                exact ⟨⟨j + 1, true, by omega, rfl, by go_num, by rw [EP.out, EC.out]; exact DU7.out, (fun h => by cases h)⟩, by simp [intOf] <;> omega⟩
              | false =>
                go_wp2_with fail
                refine (IV1.out w7).mono ?_
                rintro e w8 ⟨rfl, rfl⟩
                go_wp2_with fail
                refine (IV1.out w8).mono ?_
                rintro e w9 ⟨rfl, rfl⟩
                go_wp2_with fail
                exact ⟨⟨j + 1, false, by omega, rfl, by go_num, by rw [EP.out, EC.out]; exact DU7.out, (fun _ => by rw [EP.out, EC.out]; exact T2.out (by trivial))⟩, by simp [intOf] <;> omega⟩
    · have : j = n := by omega
      subst this
      have hji : ¬ (j : Int) < (j : Int) := by omega
      have ef : cs.take j = cs := List.take_of_length_le (by rw [HN.out]; omega)
      rw [ef] at DU TI
      clear ef
      go_wp2_with fail
      go_ret3
      exact ⟨kx, ky, o, rfl, DU.out, TI.out⟩

end Go.Proofs.Ytloppmepfkkblaa
end

section
/- 'Silent' gives true. -/
open Go Go.Proofs Go.RowKit
namespace Go.Proofs.Ytloppmepfkkblaa

/-- A list of calls that came in. -/
def SliceCalls (w : World) (v : Value) : Prop := ∃ a n c cs, v = .slice a n c ∧ (cs : List (Int × List Int)).length = n ∧ n ≤ 17592186043904 ∧ CallsAt w a cs
/-- Quanta that came in. -/
def QuantaAt (w : World) (qa : Option Addr) (n : Nat) : Prop :=
  n = 0 ∨ ∃ qb qo, qa = some ⟨qb, qo, none⟩ ∧ qb < w.heap.size ∧ ∀ i, i < n → ∃ v0 v1 v2 v3, w.cell? ⟨qb, qo + i * 4, none⟩ = some v0 ∧ w.cell? ⟨qb, qo + i * 4 + 1, none⟩ = some v1 ∧ w.cell? ⟨qb, qo + i * 4 + 2, none⟩ = some v2 ∧ w.cell? ⟨qb, qo + i * 4 + 3, none⟩ = some v3 ∧
    SliceCalls w v0 ∧ SliceCalls w v1 ∧ SliceCalls w v2 ∧ SliceCalls w v3

theorem Duo.from_here {w0 ws w wq : World} {X : Nat → Prop} {kx ky : Nat} {M N : MS} (h : Duo w0 ws X w kx ky M N) (hb : Below w.heap.size w wq) : ∃ Y, (∀ k, Y k → w0.heap.size ≤ k ∧ k < w.heap.size) ∧ Duo w0 wq Y wq kx ky M N ∧ ∀ w' M' N', Duo w0 wq Y w' kx ky M' N' → Duo w0 ws X w' kx ky M' N' := by
  obtain ⟨F, G, h0, h1, d, lo, lx⟩ := h.two
  have hy := h.fr.size
  have hz := hb.size
  refine ⟨fun k => F k ∨ G k, fun k hk => ⟨lo k hk, hk.elim (fun q => h0.lt q) (fun q => h1.lt q)⟩, ⟨⟨F, G, h0.below hb, h1.below hb, d, lo, fun k hk => Or.inl hk⟩, h.old.trans (hb.mono h.old.size), Fr.refl _ _⟩, fun w' M' N' g => ?_⟩
  obtain ⟨F', G', g0, g1, gd, glo, glx⟩ := g.two
  refine ⟨⟨F', G', g0, g1, gd, glo, fun k hk => ?_⟩, g.old, (h.fr.trans (Fr.of_below hb)).trans' g.fr (fun k hk hf => (lx k hf).elim id (fun q => by omega))⟩
  rcases glx k hk with q | q
  · exact lx k q
  · exact Or.inr (by omega)

set_option maxRecDepth 100000 in
set_option maxHeartbeats 16000000 in
theorem silent_walk (w : World) (s1 : Option Addr) (n1 p1 : Nat) (c1 : List (Int × List Int)) (e1 : c1.length = n1) (m1 : n1 ≤ 17592186043904) (h1 : CallsAt w s1 c1) (l0 : Int) (hl0 : -9223372036854775808 ≤ l0 ∧ l0 ≤ 9223372036854775807) (qa : Option Addr) (n qc : Nat) (hq : QuantaAt w qa n) (hn4 : n ≤ 17592186043904) :
    Calls Try.prog 3 #[.slice s1 n1 p1, .int .i64 l0, .slice qa n qc] w fun e w' => e = .returned (.bool true) ∧ Below w.heap.size w w' := by
  obtain ⟨p, hp0, hp1, hpick⟩ := pick_val l0 256 hl0 (by omega)
  obtain ⟨l, rfl⟩ : ∃ n : Nat, p = n := ⟨p.toNat, by omega⟩
  have hl : l < 256 := by omega
  have HP := hide hpick
  have QU := hide (quiet_any w hl s1 n1 p1 c1 e1 m1 h1)
  have HQ := hide hq
  clear hpick e1 h1 hq hl0
  generalize MS.boot.plays c1 = M at *
  go_enter Try.func3, Try.ntmps3
  go_wp2_with fail
  refine (HP.out w).mono ?_
  clear HP
  rintro e w1 ⟨rfl, rfl⟩
  go_wp2_with fail
  refine QU.out.mono ?_
  clear QU
  rintro e w2 ⟨kx, ky, o, rfl, hd, ht⟩
  have DU := hide hd
  have TI := hide ht
  clear hd ht
  obtain ⟨F, G, kX, kY, dis, lo, -⟩ := DU.out.two
  have KX := hide kX
  have KY := hide kY
  have DIS := hide dis
  have LO := hide lo
  have IX := hide kX.inv
  have OLD := hide DU.out.old
  have LY : Hid (∀ k, G k → k < w2.heap.size) := fun k hk => kY.lt hk
  clear kX kY dis lo
  go_wp2_with fail
  refine (kn_view KX.out l).mono ?_
  rintro e w3 ⟨v3, rfl, o3, k3, f3⟩
  have z3 := f3.size
  have O3 := hide o3
  have R3 : Hid (∀ k, v3.ownBlock = some k → w2.heap.size ≤ k ∧ k < w3.heap.size) := fun k hk => o3.row hk
  have KX3 := hide k3
  have KY3 := hide (KY.out.fr f3 (fun k hg hf => DIS.out k hf hg))
  have OLD3 := hide (OLD.out.trans (f3.below_lo (fun k hk => LO.out k (Or.inl hk)) OLD.out.size))
  obtain ⟨o3a, o3n, o3c, hv3⟩ := o3.form
  subst hv3
  clear o3 k3 f3
  go_wp2_with fail
  refine (kn_view KY3.out l).mono ?_
  rintro e w4 ⟨v4, rfl, o4, k4, f4⟩
  have O4 := hide o4
  have O34 := hide (O3.out.same (w' := w4) (fun k hk => f4.block k (R3.out k hk).2 (fun hg => by have := LY.out k hg; have := (R3.out k hk).1; omega)))
  have DU4 : Hid (Duo w1 w1 (fun _ => False) w4 kx ky M M) := duo_mk ⟨F, G, KX3.out.fr f4 (fun k hf hg => DIS.out k hf hg), k4, DIS.out, LO.out⟩ (OLD3.out.trans (f4.below_lo (fun k hk => LO.out k (Or.inr hk)) OLD3.out.size))
  obtain ⟨o4a, o4n, o4c, hv4⟩ := o4.form
  subst hv4
  clear o4 k4 f4
  go_wp2_with fail
  refine (same_any w4 _ _ _ _ _ _ O34.out O4.out (Nat.le_trans (view_short IX.out l) (by omega))).mono ?_
  rintro e w5 ⟨rfl, b5⟩
  rw [decide_eq_true rfl]
  have DU5 := hide (DU4.out.later b5)
  clear b5 DU4 O34 O4 O3 KX3 KY3 KX KY R3 OLD OLD3 DU
  cases o with
  | true =>
    go_wp2_with fail
    go_ret
    exact ⟨rfl, DU5.out.old⟩
  | false =>
    have T5 := hide (TI.out rfl)
    clear TI
    go_wp2_with fail
    go_loopw [11] (fun i w' => ∃ (j : Nat) (M' N' : MS), j ≤ n ∧ i = .int .i64 j ∧ Duo w1 w1 (fun _ => False) w' kx ky M' N' ∧ Good l M' N') (fun i _ => n - (intOf i).toNat)
    case atStart => exact ⟨0, M, M, by omega, rfl, DU5.out, Alike.refl _ _, T5.out, T5.out⟩
    case round =>
      obtain ⟨j, M1, N1, hj, rfl, hd, hg⟩ := hrel
      clear DU5 T5
      have DU := hide hd
      have GO := hide hg
      clear hd hg
      by_cases hjn : j < n
      · have hji : (j : Int) < (n : Int) := by omega
        obtain ⟨qb, qo, hqa, hqb, hqs⟩ := HQ.out.resolve_left (by omega)
        subst hqa
        obtain ⟨x0, x1, x2, x3, c0, c1, c2, c3, sc0, sc1, sc2, sc3⟩ := hqs j hjn
        obtain ⟨a0, b0, d0, cs0, rfl, ln0, mx0, ca0⟩ := sc0
        obtain ⟨a1, b1, d1, cs1, rfl, ln1, mx1, ca1⟩ := sc1
        obtain ⟨a2, b2, d2, cs2, rfl, ln2, mx2, ca2⟩ := sc2
        obtain ⟨a3, b3, d3, cs3, rfl, ln3, mx3, ca3⟩ := sc3
        have hold := DU.out.old
        have g0 := (cell_same (hold.block qb hqb) _).trans c0
        have g1 := (cell_same (hold.block qb hqb) _).trans c1
        have g2 := (cell_same (hold.block qb hqb) _).trans c2
        have g3 := (cell_same (hold.block qb hqb) _).trans c3
        have hz := hold.size
        have hqb' : qb < wr.heap.size := by omega
        have hba : Below wr.heap.size wr (wr.alloc (.cells #[.slice a0 b0 d0, .slice a1 b1 d1, .slice a2 b2 d2, .slice a3 b3 d3] 32)) := (Below.refl _ _).alloc (Nat.le_refl _) _
        obtain ⟨Y, hY, hD, hback⟩ := DU.out.from_here hba
        have HD := hide hD
        have BACK := hide hback
        have QB := hide (Blk.new wr #[.slice a0 b0 d0, .slice a1 b1 d1, .slice a2 b2 d2, .slice a3 b3 d3] 32)
        have nY : Hid (¬ Y wr.heap.size) := fun h => by have := (hY _ h).2; omega
        have L0 := hide ln0
        have L1 := hide ln1
        have L2 := hide ln2
        have L3 := hide ln3
        have X0 := hide mx0
        have X1 := hide mx1
        have X2 := hide mx2
        have X3 := hide mx3
        have A0 := hide ca0
        have A1 := hide ca1
        have A2 := hide ca2
        have A3 := hide ca3
        clear c0 c1 c2 c3 ln0 ln1 ln2 ln3 mx0 mx1 mx2 mx3 ca0 ca1 ca2 ca3 hold hba hY hD hback hqs
        go_wp2_with fail
        generalize (wr.alloc (.cells #[.slice a0 b0 d0, .slice a1 b1 d1, .slice a2 b2 d2, .slice a3 b3 d3] 32)) = wq at *
        refine (both_any HD.out hl GO.out a0 b0 d0 cs0 L0.out X0.out A0.out).mono ?_
        rintro e wa ⟨o1, M2, N2, rfl, hd2, hg2⟩
        have D2 := hide hd2
        have G2 := hide hg2
        have Q2 := QB.out.fr hd2.fr nY.out
        have t1 := (Q2.cell 1).trans (show _ = some (Value.slice a1 b1 d1) from rfl)
        have ql := Q2.lt
        clear hd2 hg2 Q2 HD DU
        cases o1 with
        | true =>
          go_wp2_with fail
          go_ret
          exact ⟨rfl, D2.out.old⟩
        | false =>
          have GD2 := hide (G2.out rfl)
          clear G2
          obtain ⟨F, kX, loX, goX⟩ := D2.out.zero
          have AX := hide (alone_any kX hl GD2.out.2.1 loX D2.out.old a1 b1 d1 cs1 L1.out X1.out A1.out)
          have GX := hide goX
          clear kX loX goX
          go_wp2_with fail
          refine AX.out.mono ?_
          clear AX
          rintro e wb ⟨o2, M3, rfl, hg3, hA3⟩
          have D3 := hide (GX.out _ _ hg3)
          have AL3 := hide hA3
          have Q3 := QB.out.fr D3.out.fr nY.out
          have t2 := (Q3.cell 2).trans (show _ = some (Value.slice a2 b2 d2) from rfl)
          have ql3 := Q3.lt
          clear hg3 hA3 Q3 GX D2 t1 ql
          obtain ⟨G, kY, loY, goY⟩ := D3.out.one
          have AY := hide (alone_any kY hl GD2.out.2.2 loY D3.out.old a2 b2 d2 cs2 L2.out X2.out A2.out)
          have GY := hide goY
          clear kY loY goY
          go_wp2_with fail
          refine AY.out.mono ?_
          clear AY
          rintro e wc ⟨o3, N3, rfl, hg4, hA4⟩
          have D4 := hide (GY.out _ _ hg4)
          have AL4 := hide hA4
          have Q4 := QB.out.fr D4.out.fr nY.out
          have t3 := (Q4.cell 3).trans (show _ = some (Value.slice a3 b3 d3) from rfl)
          have ql4 := Q4.lt
          clear hg4 hA4 Q4 GY D3 t2 ql3
          cases o2 with
          | true =>
            go_wp2_with fail
            go_ret
            exact ⟨rfl, D4.out.old⟩
          | false =>
            cases o3 with
            | true =>
              go_wp2_with fail
              go_ret
              exact ⟨rfl, D4.out.old⟩
            | false =>
              have GD4 : Hid (Good l M3 N3) := ⟨((AL3.out rfl).1.symm.trans GD2.out.1).trans (AL4.out rfl).1, (AL3.out rfl).2, (AL4.out rfl).2⟩
              clear AL3 AL4
              have BB := hide (both_any D4.out hl GD4.out a3 b3 d3 cs3 L3.out X3.out A3.out)
              go_wp2_with fail
              refine BB.out.mono ?_
              clear BB
              rintro e wd ⟨o4, M4, N4, rfl, hd5, hg5⟩
              have D5 := hide hd5
              have G5 := hide hg5
              clear hd5 hg5 D4 t3 ql4
              cases o4 with
              | true =>
                go_wp2_with fail
                go_ret
                exact ⟨rfl, D5.out.old⟩
              | false =>
                have GD5 := hide (G5.out rfl)
                clear G5
                obtain ⟨F, kX, loX, goX⟩ := D5.out.zero
                have TX := hide (kn_tick kX)
                have GX := hide goX
                clear kX loX goX
                go_wp2_with fail
                refine TX.out.mono ?_
                clear TX
                rintro e we ⟨rfl, hg6⟩
                have D6 := hide (GX.out _ _ hg6)
                clear hg6 GX D5
                obtain ⟨G, kY, loY, goY⟩ := D6.out.one
                have TY := hide (kn_tick kY)
                have GY := hide goY
                clear kY loY goY
                go_wp2_with fail
                refine TY.out.mono ?_
                clear TY
                rintro e wf ⟨rfl, hg7⟩
                have D7 := hide (BACK.out _ _ _ (GY.out _ _ hg7))
                have GD7 : Hid (Good l M4.tick N4.tick) := ⟨tick_alike GD5.out.1, tick_tight GD5.out.2.1, tick_tight GD5.out.2.2⟩
                clear hg7 GY D6
                generalize M4.tick = M5 at *
                generalize N4.tick = N5 at *
                obtain ⟨F, G, kX, kY, dis, lo, -⟩ := D7.out.two
                have KX := hide kX
                have KY := hide kY
                have DIS := hide dis
                have LO := hide lo
                have IX := hide kX.inv
                have IY := hide kY.inv
                have OLD := hide D7.out.old
                have LY : Hid (∀ k, G k → k < wf.heap.size) := fun k hk => kY.lt hk
                have EV := hide (view_alike GD7.out.1 IX.out IY.out)
                have EH := hide (heard_alike GD7.out.1 IX.out IY.out GD7.out.2.1 GD7.out.2.2).1
                clear kX kY dis lo
                go_wp2_with fail
                refine (kn_view KX.out l).mono ?_
                rintro e wg ⟨v3, rfl, o3, k3, f3⟩
                have z3 := f3.size
                have O3 := hide o3
                have R3 : Hid (∀ k, v3.ownBlock = some k → wf.heap.size ≤ k ∧ k < wg.heap.size) := fun k hk => o3.row hk
                have KX3 := hide k3
                have KY3 := hide (KY.out.fr f3 (fun k hg hf => DIS.out k hf hg))
                have OLD3 := hide (OLD.out.trans (f3.below_lo (fun k hk => LO.out k (Or.inl hk)) OLD.out.size))
                obtain ⟨o3a, o3n, o3c, hv3⟩ := o3.form
                subst hv3
                clear o3 k3 f3
                go_wp2_with fail
                refine (kn_view KY3.out l).mono ?_
                rintro e wh ⟨v4, rfl, o4, k4, f4⟩
                have O4 := hide o4
                have O34 := hide (O3.out.same (w' := wh) (fun k hk => f4.block k (R3.out k hk).2 (fun hg => by have := LY.out k hg; have := (R3.out k hk).1; omega)))
                have DU4 : Hid (Duo w1 w1 (fun _ => False) wh kx ky M5 N5) := duo_mk ⟨F, G, KX3.out.fr f4 (fun k hf hg => DIS.out k hf hg), k4, DIS.out, LO.out⟩ (OLD3.out.trans (f4.below_lo (fun k hk => LO.out k (Or.inr hk)) OLD3.out.size))
                obtain ⟨o4a, o4n, o4c, hv4⟩ := o4.form
                subst hv4
                clear o4 k4 f4 KX KY
                go_wp2_with fail
                refine (same_any wh _ _ _ _ _ _ O34.out O4.out (Nat.le_trans (view_short IX.out l) (by omega))).mono ?_
                rintro e wi ⟨rfl, b5⟩
                rw [decide_eq_true EV.out]
                have DU5 := hide (DU4.out.later b5)
                clear b5 DU4 O34 O4 O3 KX3 KY3 R3 OLD OLD3
                obtain ⟨F', kX, loX, goX⟩ := DU5.out.zero
                have HX := hide (heard_any kX hl)
                clear kX loX goX
                go_wp2_with fail
                refine HX.out.mono ?_
                clear HX
                rintro e wj ⟨rfl, bj⟩
                have DU6 := hide (DU5.out.later bj)
                clear bj DU5
                obtain ⟨G', kY, loY, goY⟩ := DU6.out.one
                have HY := hide (heard_any kY hl)
                rw [← EH.out] at HY
                clear kY loY goY
                go_wp2_with fail
                refine HY.out.mono ?_
                clear HY
                rintro e wk ⟨rfl, bk⟩
                have DU7 := hide (DU6.out.later bk)
                clear bk DU6
                generalize heardB M5 l = hb at *
                go_wp2_with fail
                exact ⟨⟨j + 1, M5, N5, by omega, by go_num, DU7.out, GD7.out⟩, by simp [intOf] <;> omega⟩
      · have hji : ¬ (j : Int) < (n : Int) := by omega
        go_wp2_with fail
        go_ret
        exact ⟨rfl, DU.out.old⟩

end Go.Proofs.Ytloppmepfkkblaa
end

section
/- What comes in to 'Silent': quanta, opened at every index. -/
open Go Go.Proofs Go.RowKit Go.ChangeShapes Go.WideShapes Go.ChangeAt
namespace Go.Proofs.Ytloppmepfkkblaa

theorem bytes_quantum : Try.prog.bytesOf 32 = 96 := by kernel_rfl
theorem cells_quantum : Try.prog.cellsOf 32 = 4 := by kernel_rfl
theorem cells_calls : Try.prog.cellsOf 22 = 1 := by kernel_rfl

theorem trod_four {H : Type} {enc : TypeId × Value → H} {P : Program} {w : World} {base : Nat} {spare : Nat → Bool} {held : Bool} {t : TypeId} {f0 f1 f2 f3 : Field} {fuel : Nat} {cs : List Value} {x : DataW H × List MemPlace} (ht : P.underlying t = some (.struct #[f0, f1, f2, f3])) (h : DataW.trod enc P w base spare held fuel t cs = some x) :
    ∃ y0 y1 y2 y3 n, x.1 = .agg [y0.1, y1.1, y2.1, y3.1] ∧ cs.length = P.cellsOf t ∧ DataW.trod enc P w base spare held n f0.type ((cs.drop f0.offset).take (P.cellsOf f0.type)) = some y0 ∧
      DataW.trod enc P w base spare held n f1.type ((cs.drop f1.offset).take (P.cellsOf f1.type)) = some y1 ∧ DataW.trod enc P w base spare held n f2.type ((cs.drop f2.offset).take (P.cellsOf f2.type)) = some y2 ∧ DataW.trod enc P w base spare held n f3.type ((cs.drop f3.offset).take (P.cellsOf f3.type)) = some y3 := by
  obtain ⟨xs, n, _, rfl, hl, hlen, hf⟩ := DataW.trod_struct ht h
  match xs, hlen with
  | [y0, y1, y2, y3], _ => exact ⟨y0, y1, y2, y3, n, by simp, hl, by simpa using hf 0 f0 rfl, by simpa using hf 1 f1 rfl, by simpa using hf 2 f2 rfl, by simpa using hf 3 f3 rfl⟩

section
variable {H : Type} {enc : TypeId × Value → H} {W : World}

theorem slice_open {fuel : Nat} {v : Value} {y : DataW H × List MemPlace} (h : DataW.trod enc Try.prog W 0 (fun _ => true) true fuel 22 [v] = some y) (hw : ∀ k ∈ y.1.weights Try.prog 22, k ≤ reachBytes) : SliceCalls W v := by
  obtain ⟨a, n, c, rfl⟩ : ∃ a n c, v = .slice a n c := by
    rcases Deep.open_slice Try.underlying22 h with ⟨hcs, _⟩ | ⟨a, len, cap', m, k, D, Pl, hcs, _⟩
    · simp at hcs
      exact ⟨_, _, _, hcs⟩
    · simp at hcs
      exact ⟨_, _, _, hcs⟩
  obtain ⟨cs, h1, h2, h3⟩ := calls_open h hw
  exact ⟨a, n, c, cs, rfl, h1, h2, h3⟩

set_option maxRecDepth 100000 in
theorem quanta_open {fuel : Nat} {sa : Option Addr} {n cap : Nat} {x : DataW H × List MemPlace} (h : DataW.trod enc Try.prog W 0 (fun _ => true) true fuel 23 [.slice sa n cap] = some x) (hw : ∀ k ∈ x.1.weights Try.prog 23, k ≤ reachBytes) :
    n ≤ 17592186043904 ∧ QuantaAt W sa n := by
  rcases Deep.open_slice Try.underlying23 h with ⟨hcs, _⟩ | ⟨a, len, cap', m, k, D, Pl, hcs, _, hl, hm, hmm, hx, hel⟩
  · simp at hcs
    obtain ⟨rfl, rfl, rfl⟩ := hcs
    exact ⟨by omega, Or.inl rfl⟩
  · simp at hcs hmm
    obtain ⟨rfl, rfl, rfl⟩ := hcs
    subst hmm
    have hb := hw ((((List.range n).map D).length + ((List.range (m - n)).map fun j => D (n + j)).length) * Try.prog.bytesOf 32) (by rw [hx]; simp [DataW.weights, Try.underlying23])
    rw [bytes_quantum] at hb
    simp [reachBytes] at hb
    by_cases h0 : n = 0
    · subst h0
      exact ⟨by omega, Or.inl rfl⟩
    · have each : ∀ i, i < n → ∃ v0 v1 v2 v3 y0 y1 y2 y3 q, W.cell? (a.add (i * 4)) = some v0 ∧ W.cell? (a.add (i * 4 + 1)) = some v1 ∧ W.cell? (a.add (i * 4 + 2)) = some v2 ∧ W.cell? (a.add (i * 4 + 3)) = some v3 ∧
          DataW.trod enc Try.prog W 0 (fun _ => true) true q 22 [v0] = some y0 ∧ DataW.trod enc Try.prog W 0 (fun _ => true) true q 22 [v1] = some y1 ∧ DataW.trod enc Try.prog W 0 (fun _ => true) true q 22 [v2] = some y2 ∧ DataW.trod enc Try.prog W 0 (fun _ => true) true q 22 [v3] = some y3 ∧ D i = .agg [y0.1, y1.1, y2.1, y3.1] := by
        intro i hi
        obtain ⟨cs', g1, g2⟩ := hel i (by omega)
        rw [cells_quantum] at g1
        obtain ⟨_, hlen, hcell⟩ := World.cells?_some g1
        obtain ⟨y0, y1, y2, y3, q, hy, _, t0, t1, t2, t3⟩ := trod_four Try.underlying32 g2
        dsimp only at hy
        match cs', hlen with
        | [v0, v1, v2, v3], _ =>
          have e0 := hcell 0 (by omega)
          have e1 := hcell 1 (by omega)
          have e2 := hcell 2 (by omega)
          have e3 := hcell 3 (by omega)
          rw [Deep.add_add] at e0 e1 e2 e3
          simp [cells_calls] at t0 t1 t2 t3
          exact ⟨v0, v1, v2, v3, y0, y1, y2, y3, q, by simpa using e0, by simpa using e1, by simpa using e2, by simpa using e3, t0, t1, t2, t3, hy⟩
      obtain ⟨b, off, spot⟩ := a
      have hspot : spot = none := by
        obtain ⟨v0, _, _, _, _, _, _, _, _, c0, _⟩ := each 0 (by omega)
        simpa [Addr.add] using World.cell?_spot c0
      subst hspot
      have hadd : ∀ j, (⟨b, off, none⟩ : Addr).add j = ⟨b, off + j, none⟩ := fun j => by rw [add_plain]
      have hbl : b < W.heap.size := by
        obtain ⟨v0, _, _, _, _, _, _, _, _, c0, _⟩ := each 0 (by omega)
        rw [hadd] at c0
        exact cell_lt c0
      refine ⟨by omega, Or.inr ⟨b, off, rfl, hbl, fun i hi => ?_⟩⟩
      obtain ⟨v0, v1, v2, v3, y0, y1, y2, y3, q, c0, c1, c2, c3, t0, t1, t2, t3, hD⟩ := each i hi
      rw [hadd] at c0 c1 c2 c3
      have mem : ∀ (j : Nat) (y : DataW H), ([y0.1, y1.1, y2.1, y3.1] : List (DataW H))[j]? = some y → j < 4 → ∀ k ∈ y.weights Try.prog 22, k ≤ reachBytes := fun j y hj hj4 k hk => hw k (by
        rw [hx]
        simp only [DataW.weights, Try.underlying23, List.mem_cons, List.mem_append]
        refine Or.inr (Or.inl (weightsAll_mem (d := D i) (List.mem_map.2 ⟨i, List.mem_range.2 hi, rfl⟩) k ?_))
        rw [hD]
        simp only [DataW.weights, Try.underlying32]
        refine DataW.weights_mem_each (ts := [22, 22, 22, 22]) (j := j) (t := 22) ?_ hj k hk
        match j, hj4 with
        | 0, _ => rfl
        | 1, _ => rfl
        | 2, _ => rfl
        | 3, _ => rfl)
      exact ⟨v0, v1, v2, v3, c0, c1, c2, c3, slice_open t0 (mem 0 _ rfl (by omega)), slice_open t1 (mem 1 _ rfl (by omega)), slice_open t2 (mem 2 _ rfl (by omega)), slice_open t3 (mem 3 _ rfl (by omega))⟩
end

end Go.Proofs.Ytloppmepfkkblaa
end
