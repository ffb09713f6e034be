/- The law's pairs of kernels: 'pick', 'booted', 'looks', 'step'. -/
import Derived.Test.YtflniddofmnkaaaSimStep
open Go Go.Proofs Go.RowKit
namespace Go.Proofs.Ytflniddofmnkaaa

/-- A pair in block pb: a kernel of the program's and the reference's, alike; all its blocks are in F; at most m objects were made. -/
def Pr (w : World) (pb : Nat) (F : Nat → Prop) (m : Int) : Prop :=
  ∃ kb b r ws ob qp, Sim w kb b r ws ob qp ∧ Blk w pb #[.pointer (some ⟨kb, 0, none⟩), .pointer (some ⟨b, 0, none⟩)] ∧ ¬ SFoot kb b r.S ob qp pb ∧ (∀ k, k = pb ∨ SFoot kb b r.S ob qp k ↔ F k) ∧ r.made ≤ m

theorem Pr.lt {w : World} {pb : Nat} {F : Nat → Prop} {m : Int} (h : Pr w pb F m) {k : Nat} (hk : F k) : k < w.heap.size := by
  obtain ⟨kb, b, r, ws, ob, qp, h1, h2, h3, h4, h5⟩ := h
  rcases (h4 k).2 hk with rfl | h
  · exact h2.lt
  · exact h1.lt h

theorem Pr.at {w : World} {pb : Nat} {F : Nat → Prop} {m : Int} (h : Pr w pb F m) : F pb := by
  obtain ⟨kb, b, r, ws, ob, qp, h1, h2, h3, h4, h5⟩ := h
  exact (h4 pb).1 (Or.inl rfl)

theorem Pr.fr {P : Nat → Prop} {w w' : World} {pb : Nat} {F : Nat → Prop} {m : Int} (h : Pr w pb F m) (f : Fr P w w') (hp : ∀ k, F k → ¬ P k) : Pr w' pb F m := by
  obtain ⟨kb, b, r, ws, ob, qp, h1, h2, h3, h4, h5⟩ := h
  exact ⟨kb, b, r, ws, ob, qp, h1.fr f (fun k hk => hp k ((h4 k).1 (Or.inr hk))), h2.fr f (hp pb ((h4 pb).1 (Or.inl rfl))), h3, h4, h5⟩

theorem Pr.below {w w' : World} {pb : Nat} {F : Nat → Prop} {m : Int} (h : Pr w pb F m) (f : Below w.heap.size w w') : Pr w' pb F m :=
  h.fr (P := fun _ => False) (Fr.of_below f) (fun _ _ => id)

theorem Pr.more {w : World} {pb : Nat} {F : Nat → Prop} {m m' : Int} (h : Pr w pb F m) (hm : m ≤ m') : Pr w pb F m' := by
  obtain ⟨kb, b, r, ws, ob, qp, h1, h2, h3, h4, h5⟩ := h
  exact ⟨kb, b, r, ws, ob, qp, h1, h2, h3, h4, by omega⟩

/-- A pair has gone on. -/
def PrGoes (w : World) (pb : Nat) (F : Nat → Prop) (m : Int) (w' : World) : Prop := ∃ F', Pr w' pb F' (m + 1) ∧ (∀ k, F' k → F k ∨ w.heap.size ≤ k) ∧ Fr F w w'

theorem ArgsV.sub {w : World} {F F' : Nat → Prop} {v : Value} (h : ArgsV w F v) (hs : ∀ k, F' k → F k) : ArgsV w F' v := by
  rcases h with h | ⟨la, xs, cap, h1, h2⟩
  · exact Or.inl h
  · refine Or.inr ⟨la, xs, cap, h1, h2.len, ?_, h2.wf⟩
    rcases h2.at' with h | ⟨lb, lo, h3, h4, h5⟩
    · exact Or.inl h
    · exact Or.inr ⟨lb, lo, h3, h4, fun h => h5 (hs _ h)⟩

theorem ArgsV.fr {w w' : World} {F : Nat → Prop} {v : Value} (h : ArgsV w F v) (f : Fr (fun _ => False) w w') : ArgsV w' F v := by
  rcases h with h | ⟨la, xs, cap, h1, h2⟩
  · exact Or.inl h
  · refine Or.inr ⟨la, xs, cap, h1, h2.len, ?_, h2.wf⟩
    rcases h2.at' with h | ⟨lb, lo, h3, h4, h5⟩
    · exact Or.inl h
    · exact Or.inr ⟨lb, lo, h3, h4.fr f id, h5⟩

theorem pr_trap {w : World} {pb : Nat} {F : Nat → Prop} {m : Int} (h : Pr w pb F m) (hm : m < 4611686018427387904) (n : Int) (hn : n ≤ 6 ∨ 17 ≤ n) (v : Value) (ha : ArgsV w F v) :
    Calls Try.prog 26 #[.pointer (some ⟨pb, 0, none⟩), .int .i64 n, v] w fun e w' => e = .returned (.bool true) ∧ PrGoes w pb F m w' := by
  obtain ⟨kb, b, r, ws, ob, qp, h1, h2, h3, h4, h5⟩ := h
  refine (trap_any h1 (by omega) h2 h3 n hn v (ha.sub (fun k hk => (h4 k).1 (Or.inr hk)))).mono ?_
  rintro e w' ⟨rfl, r', ws', ob', g1, g2, g3, g4⟩
  have hlt := h2.lt
  refine ⟨rfl, fun k => k = pb ∨ SFoot kb b r'.S ob' qp k, ⟨kb, b, r', ws', ob', qp, g1, h2.fr g4 h3, fun hk => ?_, fun _ => Iff.rfl, by omega⟩, fun k hk => ?_, g4.mono (fun k _ hk => (h4 k).1 (Or.inr hk))⟩
  · rcases g2 pb hk with h | h
    · exact h3 h
    · omega
  · rcases hk with h | h
    · exact Or.inl ((h4 k).1 (Or.inl h))
    · rcases g2 k h with h | h
      · exact Or.inl ((h4 k).1 (Or.inr h))
      · exact Or.inr h

theorem pick_val (c : Int) (hc : i64 c) : ∃ j : Int, (j = 0 ∨ j = 1) ∧ ∀ w : World, Calls Try.prog 22 #[.int .i64 c, .int .i64 2] w fun e w' => e = .returned (.int .i64 j) ∧ w' = w := by
  unfold i64 at hc
  obtain ⟨h1, h2⟩ := hc
  by_cases h : c < 0
  · refine ⟨-(c + 1).tmod 2, ?_, fun w => ?_⟩
    · rw [← Int.neg_tmod, Int.tmod_eq_emod_of_nonneg (by omega)]; omega
    · go_enter Try.func22, Try.ntmps22
      go_wp2_with fail
      go_ret
      exact ⟨rfl, rfl⟩
  · refine ⟨c % 2, by omega, fun w => ?_⟩
    go_enter Try.func22, Try.ntmps22
    go_wp2_with fail
    go_ret
    exact ⟨rfl, rfl⟩

theorem looks_empty (w : World) (bb : Nat) (h : Blk w bb #[.slice none 0 0]) : Calls Try.prog 24 #[.pointer (some ⟨bb, 0, none⟩)] w fun e w' => e = .returned (.bool true) ∧ w' = w := by
  have c0 : w.cell? ⟨bb, 0, none⟩ = some (.slice none 0 0) := by rw [h.cell]; rfl
  have hlt := h.lt
  clear h
  go_enter Try.func24, Try.ntmps24
  go_wp2_with fail
  go_loop [3] (fun i => ∃ k : Nat, k ≤ 4 ∧ i = .int .i64 k) (fun i => 4 - (intOf i).toNat)
  case atStart => exact ⟨0, by omega, rfl⟩
  case round =>
    obtain ⟨k, hk, rfl⟩ := hrel
    by_cases hk4 : k < 4
    · have hki : (k : Int) < 4 := by omega
      go_wp2_with fail
      refine wp_loop_rounds 1 ?_
      rw [rounds_succ]
      go_wp2_with fail
      go_round
      case rel => exact ⟨k + 1, by omega, by go_num⟩
      case measure => simp [intOf]; omega
    · have hki : ¬ (k : Int) < 4 := by omega
      go_wp2_with fail
      go_ret
      exact ⟨rfl, rfl⟩

/-! ### 'booted' -/

theorem Fr.below_lo {S : Nat → Prop} {w w' : World} {B : Nat} (h : Fr S w w') (hs : ∀ k, S k → B ≤ k) (hB : B ≤ w.heap.size) : Below B w w' :=
  ⟨h.os, h.tape, h.output, h.size, fun k hk => h.block k (by omega) (fun hk' => by have := hs k hk'; omega)⟩

theorem bootS_zero {i : Nat} (h : 2 ≤ i) : bootS i = zeroTh := by
  unfold bootS
  rw [upd_ne _ _ (by omega), upd_ne _ _ (by omega)]
theorem bootS_wb {i g : Nat} (h : (bootS i).wb g) : False := by
  obtain ⟨o, s, h⟩ := h
  rcases Nat.lt_or_ge i 2 with h2 | h2
  · have : i = 0 ∨ i = 1 := by omega
    rcases this with rfl | rfl
    · cases h
    · cases h
  · rw [bootS_zero h2] at h; cases h

theorem inv_boot : Inv1 rboot := by
  refine ⟨Alike.refl _, Alike.refl _, rfl, fun i h2 hi => ?_, fun i hi hk => ?_, fun q hq => ?_, fun q hq => ?_, by decide, by decide⟩
  · left
    show (bootS i).kind = 0
    rw [bootS_zero h2]; rfl
  · exfalso
    change (bootS i).kind = 3 at hk
    rcases Nat.lt_or_ge i 2 with h2 | h2
    · have : i = 0 ∨ i = 1 := by omega
      rcases this with rfl | rfl
      · simp [bootS, upd, rootTh] at hk
      · simp [bootS, upd, firstTh] at hk
    · rw [bootS_zero h2] at hk; simp [zeroTh] at hk
  · show (if q < 8 then 1 else 0) = 1
    rw [if_pos hq]
  · show (if q < 8 then (2 : Int) else 0) = 2
    rw [if_pos hq]

theorem sim_boot {w : World} {kb b : Nat} {ob : Nat → Nat} {qp : Nat → Option Nat} (hp : PK w kb bootS (fun _ => []) (fun q => if q < 8 then some 1 else none) 0 ob qp) (hr : RK w b rboot) (hd : ∀ k, Foot kb bootS ob qp k → k ≠ b) : Sim w kb b rboot (fun _ => []) ob qp := by
  refine ⟨hp, hr, ⟨fun i hi => ?_, fun i j g hi hj h1 _ => (bootS_wb h1).elim, fun i g hi h1 => (bootS_wb h1).elim⟩, inv_boot, fun k hk => ?_⟩
  · show Words w (bootS i) []
    rcases Nat.lt_or_ge i 2 with h2 | h2
    · have : i = 0 ∨ i = 1 := by omega
      rcases this with rfl | rfl
      · exact ⟨rfl, Nat.le_refl _, Or.inl ⟨rfl, rfl⟩⟩
      · exact ⟨rfl, Nat.le_refl _, Or.inl ⟨rfl, rfl⟩⟩
    · rw [bootS_zero h2]
      exact ⟨rfl, Nat.le_refl _, Or.inl ⟨rfl, rfl⟩⟩
  · rintro (h | ⟨i, hi, h⟩)
    · exact hd k hk h
    · exact bootS_wb h

set_option maxHeartbeats 2000000 in
theorem booted_any (w : World) : Calls Try.prog 21 #[] w fun e w' => ∃ pb F, e = .returned (.pointer (some ⟨pb, 0, none⟩)) ∧ Pr w' pb F 3 ∧ (∀ k, F k → w.heap.size ≤ k) ∧ Below w.heap.size w w' := by
  have PB := hide (pboot_any w)
  go_enter Try.func21, Try.ntmps21
  go_wp2_with fail
  refine PB.out.mono ?_
  clear PB
  rintro e w1 ⟨rfl, ⟨ob, qp, hpk, hft⟩, hb1⟩
  have HP := hide hpk
  have HF := hide hft
  have HB1 := hide hb1
  have HL1 : Hid (∀ k, Foot w.heap.size bootS ob qp k → k < w1.heap.size) := fun k hk => hpk.foot_lt hk
  have hl1 := hpk.lt
  clear hpk hft hb1
  go_wp2_with fail
  refine (rboot_any w1).mono ?_
  rintro e w2 ⟨rfl, hrk, hb2⟩
  have HP2 := hide (HP.out.below hb2)
  have HR2 := hide hrk
  have HB2 := hide hb2
  have hl2 := hrk.lt
  clear hrk hb2 HP
  go_wp2_with fail
  have fa : Fr (fun _ => False) w2 (w2.alloc (.cells #[.pointer (some ⟨w.heap.size, 0, none⟩), .pointer (some ⟨w1.heap.size, 0, none⟩)] 69)) := (Fr.refl _ _).alloc _
  have S3 := (sim_boot HP2.out HR2.out (fun k hk e => by have := HL1.out k hk; omega)).still fa
  have B3 := Blk.new w2 #[.pointer (some ⟨w.heap.size, 0, none⟩), .pointer (some ⟨w1.heap.size, 0, none⟩)] 69
  have HN : Hid (∀ k, SFoot w.heap.size w1.heap.size rboot.S ob qp k → w.heap.size ≤ k ∧ k < w2.heap.size) := fun k hk => by
    rcases hk with h | h | ⟨i, hi, h⟩
    · have := HF.out k h
      have := HL1.out k h
      omega
    · subst h; exact ⟨by omega, hl2⟩
    · exact (bootS_wb h).elim
  have F3 : Hid (Below w.heap.size w (w2.alloc (.cells #[.pointer (some ⟨w.heap.size, 0, none⟩), .pointer (some ⟨w1.heap.size, 0, none⟩)] 69))) := (HB1.out.trans (HB2.out.mono (by omega))).alloc (by omega) _
  have BN := hide B3
  have TR := hide (one_nil S3 B3)
  have hl3 : (w2.alloc (.cells #[.pointer (some ⟨w.heap.size, 0, none⟩), .pointer (some ⟨w1.heap.size, 0, none⟩)] 69)).heap.size = w2.heap.size + 1 := by simp
  clear fa S3 B3 HP2 HR2
  generalize (w2.alloc (.cells #[.pointer (some ⟨w.heap.size, 0, none⟩), .pointer (some ⟨w1.heap.size, 0, none⟩)] 69)) = w3 at *
  refine TR.out.mono ?_
  clear TR
  rintro e w4 ⟨rfl, r', ws', ob', g1, g2, g3, g4⟩
  have hn3 : ¬ SFoot w.heap.size w1.heap.size rboot.S ob qp w2.heap.size := fun h => by have := (HN.out _ h).2; omega
  have BN4 := hide (BN.out.fr g4 hn3)
  have F4 : Hid (Below w.heap.size w w4) := F3.out.trans (Fr.below_lo g4 (fun k hk => (HN.out k hk).1) (by omega))
  have TS := hide (pa_1 g1.pk g1.curP none 0)
  have G1 := hide g1
  have G2 := hide g2
  have hl4 := g4.size
  have hm : r'.made ≤ 3 := by
    have : rboot.made = 2 := rfl
    omega
  clear g1 g2 g3 g4 BN F3
  go_wp2_with fail
  refine TS.out.mono ?_
  clear TS
  rintro e w5 ⟨rfl, f5⟩
  have G5 := hide (G1.out.still f5)
  have BN5 := hide (BN4.out.fr f5 id)
  have F5 : Hid (Below w.heap.size w w5) := F4.out.trans (f5.below.mono (by omega))
  have hl5 := f5.size
  clear f5 G1 BN4 F4
  simp only [outV]
  have fa : Fr (fun _ => False) w5 (w5.alloc (.cells #[.int .i64 0, .int .i64 ((1 : Nat) : Int), .int .i64 ((0 : Nat) : Int)] 49)) := (Fr.refl _ _).alloc _
  have G6 := hide (G5.out.still fa)
  have BN6 := hide (BN5.out.fr fa id)
  have F6 := hide (F5.out.alloc (by omega) (.cells #[.int .i64 0, .int .i64 ((1 : Nat) : Int), .int .i64 ((0 : Nat) : Int)] 49))
  clear fa G5 BN5 F5
  go_wp2_with fail
  go_ret
  refine ⟨w2.heap.size, fun k => k = w2.heap.size ∨ SFoot w.heap.size w1.heap.size r'.S ob' qp k, rfl, ⟨_, _, r', ws', ob', qp, G6.out, BN6.out, fun h => ?_, fun _ => Iff.rfl, hm⟩, fun k hk => ?_, F6.out⟩
  · rcases G2.out _ h with h | h
    · exact hn3 h
    · omega
  · rcases hk with h | h
    · omega
    · rcases G2.out _ h with h | h
      · exact (HN.out k h).1
      · omega

/-! ### 'step' -/

theorem Sim.now {w : World} {kb b : Nat} {r : RSt} {ws : Nat → List Int} {ob : Nat → Nat} {qp : Nat → Option Nat} (h : Sim w kb b r ws ob qp) : nowF r = nowV r.phase 1 0 := by
  unfold nowF
  rw [h.curF]
  show nowV r.phase 1 (r.S 1).label = _
  rw [h.inv.first.label]; rfl

theorem Sim.pnow {w : World} {kb b : Nat} {r : RSt} {ws : Nat → List Int} {ob : Nat → Nat} {qp : Nat → Option Nat} (h : Sim w kb b r ws ob qp) :
    Calls Try.prog 18 #[.pointer (some ⟨kb, 0, none⟩)] w fun e w' => e = .returned (nowV r.phase 1 0) ∧ Below w.heap.size w w' := by
  have := pnow_yes h.pk h.curP
  rw [h.inv.first.label] at this
  exact this

theorem Sim.rnow {w : World} {kb b : Nat} {r : RSt} {ws : Nat → List Int} {ob : Nat → Nat} {qp : Nat → Option Nat} (h : Sim w kb b r ws ob qp) :
    Calls Try.prog 25 #[.pointer (some ⟨b, 0, none⟩)] w fun e w' => e = .returned (nowV r.phase 1 0) ∧ Below w.heap.size w w' := by
  have := rnow_any w b r h.rk h.wq
  rw [h.now] at this
  exact this

theorem Sim.tick {w w1 w2 : World} {kb b : Nat} {r : RSt} {ws : Nat → List Int} {ob : Nat → Nat} {qp : Nat → Option Nat} (h : Sim w kb b r ws ob qp) (hp : PK w1 kb r.S ws lq1 ((r.phase + 1) % 8) ob qp) (f1 : Fr (fun k => k = kb) w w1)
    (hr : RK w2 b { r with phase := (r.phase + 1) % 8 }) (f2 : Fr (fun k => k = b) w1 w2) : Sim w2 kb b { r with phase := (r.phase + 1) % 8 } ws ob qp := by
  refine ⟨hp.fr f2 (fun k hk e => h.dis k hk (Or.inl e)), hr, ?_, ⟨h.inv.root, h.inv.first, h.inv.id1, h.inv.others, h.inv.segs, h.inv.qs, h.inv.qi, h.inv.made, by show (r.phase + 1) % 8 < 8; omega⟩, h.dis⟩
  exact (h.wsx.fr f1 (fun i g hi hg e => h.dis kb (Or.inl rfl) (e ▸ Or.inr ⟨i, hi, hg⟩))).fr f2 (fun i g hi hg => h.wsx.off i g hi hg)

set_option maxHeartbeats 2000000 in
theorem step_any {w : World} {pb : Nat} {F : Nat → Prop} {m : Int} (h : Pr w pb F m) (hm : m < 4611686018427387904) (K n : Int) (v : Value) (bv : Value) (hn : n ≠ -3 ∧ (n ≤ 6 ∨ 17 ≤ n)) (ha : ArgsV w F v) :
    Calls Try.prog 23 #[.pointer (some ⟨pb, 0, none⟩), .agg #[.int .i64 K, .int .i64 n, v], bv] w fun e w' => e = .returned (.bool true) ∧ PrGoes w pb F m w' := by
  obtain ⟨hn3, hn6⟩ := hn
  by_cases h1 : n = -1
  · subst h1
    obtain ⟨kb, b, r, ws, ob, qp, h1, h2, h3, h4, h5⟩ := h
    have c0 : w.cell? ⟨pb, 0, none⟩ = some (.pointer (some ⟨kb, 0, none⟩)) := by rw [h2.cell]; rfl
    have hlt := h2.lt
    have H1 := hide h1
    have H2 := hide h2
    have H4 := hide h4
    clear h1 h2 h4
    have fa : Fr (fun _ => False) w (w.alloc (.cells #[.int .i64 K, .int .i64 (-1), v] 64)) := (Fr.refl _ _).alloc _
    have S1 := hide (H1.out.still fa)
    have B1 := hide (H2.out.fr fa id)
    have FA := hide fa
    clear fa
    go_enter Try.func23, Try.ntmps23
    go_wp2_with fail
    generalize (w.alloc (.cells #[.int .i64 K, .int .i64 (-1), v] 64)) = w1 at *
    refine (ptick_any S1.out.pk).mono ?_
    rintro e w2 ⟨rfl, hpk2, f2⟩
    have hne : pb ≠ kb := fun e => h3 (e ▸ Or.inl (Or.inl rfl))
    have hneb : b ≠ kb := fun e => S1.out.dis kb (Or.inl rfl) (Or.inl e.symm)
    have hneb2 : pb ≠ b := fun e => h3 (e ▸ Or.inr (Or.inl rfl))
    have B2 := hide (B1.out.fr f2 hne)
    have c1 : w2.cell? ⟨pb, 1, none⟩ = some (.pointer (some ⟨b, 0, none⟩)) := by rw [B2.out.cell]; rfl
    have hlt2 := B2.out.lt
    have R2 := hide (S1.out.rk.fr f2 hneb)
    have P2 := hide hpk2
    have F2 := hide f2
    clear hpk2 f2
    go_wp2_with fail
    refine (rtick_any w2 b r R2.out H1.out.wq).mono ?_
    rintro e w3 ⟨rfl, hrk3, f3⟩
    have S3 := hide (S1.out.tick P2.out F2.out hrk3 f3)
    have B3 := hide (B2.out.fr f3 hneb2)
    have FF : Hid (Fr F w w3) := by
      have q1 : Fr F w w1 := FA.out.mono (fun _ _ h => h.elim)
      have q2 : Fr F w1 w2 := F2.out.mono (fun k _ e => (H4.out k).1 (Or.inr (e ▸ Or.inl (Or.inl rfl))))
      have q3 : Fr F w2 w3 := f3.mono (fun k _ e => (H4.out k).1 (Or.inr (e ▸ Or.inr (Or.inl rfl))))
      exact (q1.trans q2).trans q3
    clear hrk3 f3 P2 F2 R2 S1 B1 B2
    go_wp2_with fail
    go_ret
    exact ⟨rfl, F, ⟨kb, b, _, ws, ob, qp, S3.out, B3.out, h3, H4.out, by show r.made ≤ _; omega⟩, fun _ hk => Or.inl hk, FF.out⟩
  · by_cases h2 : n = -2
    · subst h2
      obtain ⟨kb, b, r, ws, ob, qp, h1, h2, h3, h4, h5⟩ := h
      have c0 : w.cell? ⟨pb, 0, none⟩ = some (.pointer (some ⟨kb, 0, none⟩)) := by rw [h2.cell]; rfl
      have hlt := h2.lt
      have fa : Fr (fun _ => False) w (w.alloc (.cells #[.int .i64 K, .int .i64 (-2), v] 64)) := (Fr.refl _ _).alloc _
      have S1 := hide (h1.still fa)
      have B1 := hide (h2.fr fa id)
      have FA := hide fa
      have H4 := hide h4
      clear fa h1 h2 h4
      go_enter Try.func23, Try.ntmps23
      go_wp2_with fail
      generalize (w.alloc (.cells #[.int .i64 K, .int .i64 (-2), v] 64)) = w1 at *
      have v0 := later_cell (w := w1) (b := pb) (n := 0) (v := .pointer (some ⟨kb, 0, none⟩)) (by rw [B1.out.cell]; rfl) B1.out.lt
      have v1 := later_cell (w := w1) (b := pb) (n := 1) (v := .pointer (some ⟨b, 0, none⟩)) (by rw [B1.out.cell]; rfl) B1.out.lt
      have PN := hide (fun x : Later w1 => Calls.later_of (x := x) (S1.out.still (Fr.of_below x.2)).pnow)
      have RN := hide (fun x : Later w1 => Calls.later_of (x := x) (S1.out.still (Fr.of_below x.2)).rnow)
      simp only [nowV] at PN RN
      have hne : Nonempty (Later w1) := ⟨⟨w1, Below.refl _ _⟩⟩
      refine wp_region_later (by kernel_rfl) (by kernel_rfl) ?_
      repeat (go_big_quiet_step ((first | (go_at_call 18; exact PN.out _) | (go_at_call 25; exact RN.out _))))
      refine wpQuiet_nil ?_
      rintro _ ⟨wl, rfl⟩
      clear hne
      have f3 : Fr (fun _ => False) w1 wl.1 := Fr.of_below wl.2
      have S3 := hide (S1.out.still f3)
      have B3 := hide (B1.out.fr f3 id)
      have F3 := hide (FA.out.trans f3)
      clear f3 S1 B1 PN RN
      go_wp2_with fail
      go_ret
      exact ⟨rfl, F, ⟨kb, b, _, ws, ob, qp, S3.out, B3.out, h3, H4.out, by omega⟩, fun _ hk => Or.inl hk, F3.out.mono (fun _ _ h => h.elim)⟩
    · have fa : Fr (fun _ => False) w (w.alloc (.cells #[.int .i64 K, .int .i64 n, v] 64)) := (Fr.refl _ _).alloc _
      have H1 := hide (h.fr fa (fun _ _ => id))
      have HA : Hid (ArgsV (w.alloc (.cells #[.int .i64 K, .int .i64 n, v] 64)) F v) := ha.fr fa
      have FA := hide fa
      have hsz : w.heap.size ≤ (w.alloc (.cells #[.int .i64 K, .int .i64 n, v] 64)).heap.size := by simp
      clear fa h ha
      go_enter Try.func23, Try.ntmps23
      go_wp2_with fail
      generalize (w.alloc (.cells #[.int .i64 K, .int .i64 n, v] 64)) = w1 at *
      refine (pr_trap H1.out hm n hn6 v HA.out).mono ?_
      rintro e w2 ⟨rfl, F', g1, g2, g3⟩
      have G1 := hide g1
      have G2 := hide g2
      have G3 := hide g3
      clear g1 g2 g3
      go_wp2_with fail
      go_ret
      refine ⟨rfl, F', G1.out, fun k hk => ?_, (FA.out.mono (fun _ _ h => h.elim)).trans G3.out⟩
      rcases G2.out k hk with h | h
      · exact Or.inl h
      · exact Or.inr (by omega)

end Go.Proofs.Ytflniddofmnkaaa
