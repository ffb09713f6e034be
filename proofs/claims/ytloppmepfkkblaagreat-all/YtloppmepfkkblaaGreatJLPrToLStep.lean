/- The law's pairs of kernels: both are the same plain kernel's; a trap on both. -/
import Derived.Test.YtloppmepfkkblaaGreatJRefMayToRefOwn
import Derived.Test.YtloppmepfkkblaaGreatJRefRecvToRefOut
import Derived.Test.YtloppmepfkkblaaGreatJKAdmitsToKTell

section
open Go Go.Proofs Go.RowKit
namespace Go.Proofs.YtloppmepfkkblaaGreat

theorem Row.arg {w : World} {g : Nat} {xs : List Int} (h : Row w g (padded xs)) : Arg w g 0 xs := by
  refine ⟨h.lt, fun i x hx => ?_⟩
  rw [Nat.zero_add]
  refine h.cell ?_
  unfold padded
  rw [List.getElem?_append_left (List.getElem?_eq_some_iff.1 hx).1]
  exact hx

/-- A trap's arguments as they lie in a script; F: blocks in which they do not lie. -/
structure ArgS (w : World) (F : Nat → Prop) (la : Addr) (xs : List Int) : Prop where
  len : xs.length ≤ 17592186043904
  at' : xs = [] ∨ ∃ lb lo, la = ⟨lb, lo, none⟩ ∧ Arg w lb lo xs ∧ ¬ F lb
  wf : Fits xs
def ArgsV (w : World) (F : Nat → Prop) (v : Value) : Prop := v = .slice none 0 0 ∨ ∃ (la : Addr) (xs : List Int) (cap : Nat), v = .slice (some la) xs.length cap ∧ ArgS w F la xs

/-- The two kernels. -/
structure Both (w : World) (kb b : Nat) (r : RSt) (M : MS) (ob cb : Nat → Nat) (qp : Nat → Option Nat) : Prop where
  kp : KP w kb M ob cb qp
  rr : RR w b r M
  inv : MInv M
  dis : ∀ k, Foot kb M ob cb qp k → ¬ RFt b r.S k

/-- All blocks of the two. -/
def BFoot (kb b : Nat) (r : RSt) (M : MS) (ob cb : Nat → Nat) (qp : Nat → Option Nat) (k : Nat) : Prop := Foot kb M ob cb qp k ∨ RFt b r.S k

/-- Both have gone on. -/
def BGoes (w : World) (kb b : Nat) (r : RSt) (M : MS) (ob cb : Nat → Nat) (qp : Nat → Option Nat) (M' : MS) (w' : World) : Prop :=
  ∃ r' ob' cb' qp', Both w' kb b r' M' ob' cb' qp' ∧ (∀ k, BFoot kb b r' M' ob' cb' qp' k → BFoot kb b r M ob cb qp k ∨ w.heap.size ≤ k) ∧ r'.made ≤ r.made + 1 ∧ Fr (BFoot kb b r M ob cb qp) w w'

section
variable {w w' : World} {kb b : Nat} {r : RSt} {M : MS} {ob cb : Nat → Nat} {qp : Nat → Option Nat}

theorem Both.lt (h : Both w kb b r M ob cb qp) {k : Nat} (hk : BFoot kb b r M ob cb qp k) : k < w.heap.size := by
  rcases hk with hk | hk
  · exact h.kp.foot_lt hk
  · exact h.rr.lt hk

theorem Both.fr {P : Nat → Prop} (h : Both w kb b r M ob cb qp) (f : Fr P w w') (hp : ∀ k, BFoot kb b r M ob cb qp k → ¬ P k) : Both w' kb b r M ob cb qp :=
  ⟨h.kp.fr f (fun k hk => hp k (Or.inl hk)), h.rr.fr f (fun k hk => hp k (Or.inr hk)), h.inv, h.dis⟩
theorem Both.still (h : Both w kb b r M ob cb qp) (f : Fr (fun _ => False) w w') : Both w' kb b r M ob cb qp := h.fr f (fun _ _ => id)

/-- What the program's trap leaves, B: the memory ahead of it. -/
def XGoes (kb : Nat) (M : MS) (ob cb : Nat → Nat) (qp : Nat → Option Nat) (M' : MS) (B : Nat) (w' : World) : Prop :=
  ∃ ob' cb' qp', KP w' kb M' ob' cb' qp' ∧ ∀ k, Foot kb M' ob' cb' qp' k → Foot kb M ob cb qp k ∨ B ≤ k
/-- .. and the reference's behind it. -/
def YGoes (kb b : Nat) (r : RSt) (M : MS) (ob cb : Nat → Nat) (qp : Nat → Option Nat) (M' : MS) (B : Nat) (w' : World) : Prop :=
  ∃ r' ob' cb' qp', Both w' kb b r' M' ob' cb' qp' ∧ (∀ k, BFoot kb b r' M' ob' cb' qp' k → BFoot kb b r M ob cb qp k ∨ B ≤ k) ∧ r'.made ≤ r.made + 1

theorem XGoes.below {M' : MS} {B : Nat} {w1 w2 : World} (h : XGoes kb M ob cb qp M' B w1) (hb : Below w1.heap.size w1 w2) : XGoes kb M ob cb qp M' B w2 := by
  obtain ⟨ob', cb', qp', h1, h2⟩ := h
  exact ⟨ob', cb', qp', h1.below hb, h2⟩

theorem ref_side (h : Both w kb b r M ob cb qp) (hmade : r.made < 4611686018427387904) (n : Int) (xs : List Int) (la : Option Addr) (cap : Nat) {B : Nat} (hB : w.heap.size ≤ B) {w2 : World} (h2 : XGoes kb M ob cb qp (M.trap n xs).2 B w2) (hBw : B ≤ w2.heap.size) (f2 : Fr (Foot kb M ob cb qp) w w2)
    (ha : xs = [] ∨ ∃ lb lo, la = some ⟨lb, lo, none⟩ ∧ Arg w lb lo xs ∧ ¬ BFoot kb b r M ob cb qp lb) :
    Calls Tryz.prog 30 #[.pointer (some ⟨b, 0, none⟩), .int .i64 n, .slice la xs.length cap] w2 fun e w' => e = .returned (M.out n xs) ∧ YGoes kb b r M ob cb qp (M.trap n xs).2 B w' ∧ Fr (RFt b r.S) w2 w' := by
  have hr2 : RR w2 b r M := h.rr.fr f2 (fun k hk hf => h.dis k hf hk)
  refine (r_trap hr2 h.inv hmade n xs la cap (ha.imp id (fun ⟨lb, lo, e, hA, hn⟩ => ⟨lb, lo, e, hA.fr f2 (fun hf => hn (Or.inl hf)), fun hf => hn (Or.inr hf)⟩))).mono ?_
  rintro e w' ⟨rfl, r', h3, h4, h5, h6⟩
  obtain ⟨ob', cb', qp', k1, k2⟩ := h2
  have hk : KP w' kb (M.trap n xs).2 ob' cb' qp' := k1.fr h6 (fun k hk hf => by
    rcases k2 k hk with h7 | h7
    · exact h.dis k h7 hf
    · have := h.rr.lt hf; omega)
  refine ⟨rfl, ⟨r', ob', cb', qp', ⟨hk, h3, h.inv.trap n xs, fun k hk hf => ?_⟩, fun k hk => ?_, h4⟩, h6⟩
  · rcases k2 k hk with h7 | h7
    · rcases h5 k hf with h8 | h8
      · exact h.dis k h7 h8
      · have := h.kp.foot_lt h7; have := f2.size; omega
    · rcases h5 k hf with h8 | h8
      · have := h.rr.lt h8; omega
      · have := k1.foot_lt hk; omega
  · rcases hk with hk | hk
    · exact (k2 k hk).imp Or.inl id
    · rcases h5 k hk with h8 | h8
      · exact Or.inl (Or.inr h8)
      · exact Or.inr (by omega)

theorem both_nil (h : Both w kb b r M ob cb qp) (hmade : r.made < 4611686018427387904) {pb : Nat} (hp : Blk w pb #[.pointer (some ⟨kb, 0, none⟩), .pointer (some ⟨b, 0, none⟩)]) (hpb : ¬ BFoot kb b r M ob cb qp pb) (n : Int) :
    Calls Tryz.prog 14 #[.pointer (some ⟨pb, 0, none⟩), .int .i64 n, .slice none 0 0] w fun e w' => e = .returned (.bool true) ∧ BGoes w kb b r M ob cb qp (M.trap n []).2 w' := by
  refine (pairtrap_nil w pb kb b n (M.trap n []).1.1 (M.trap n []).1.2.1 (M.trap n []).1.2.2 (Foot kb M ob cb qp) (RFt b r.S) (XGoes kb M ob cb qp (M.trap n []).2) (YGoes kb b r M ob cb qp (M.trap n []).2) hp ?_ ?_ (fun _ _ h hb => h.below hb) (fun _ _ h hb => ?_) (fun hf => hpb (Or.inl hf)) (fun k hk _ => Or.inr hk) (fun k hk hf => by have := h.rr.lt hf; omega)).mono ?_
  · refine (p_trap h.kp h.inv n [] none 0 (fun x hx => by cases hx) (Or.inl rfl)).mono ?_
    rintro e w' ⟨rfl, ⟨ob', cb', qp', h1, h2⟩, h3⟩
    exact ⟨rfl, ⟨ob', cb', qp', h1, h2⟩, h3⟩
  · intro w2 h2 f2
    exact ref_side h hmade n [] none 0 (Nat.le_refl _) h2 f2.size f2 (Or.inl rfl)
  · obtain ⟨r', ob', cb', qp', h1, h2, h3⟩ := h
    exact ⟨r', ob', cb', qp', h1.still (Fr.of_below hb), h2, h3⟩
  · rintro e w' ⟨rfl, ⟨r', ob', cb', qp', h1, h2, h3⟩, h4⟩
    exact ⟨rfl, r', ob', cb', qp', h1, h2, h3, h4⟩

theorem both_some (h : Both w kb b r M ob cb qp) (hmade : r.made < 4611686018427387904) {pb : Nat} (hp : Blk w pb #[.pointer (some ⟨kb, 0, none⟩), .pointer (some ⟨b, 0, none⟩)]) (hpb : ¬ BFoot kb b r M ob cb qp pb) (n : Int) (la : Addr) (cap : Nat) (xs : List Int) (ha : ArgS w (BFoot kb b r M ob cb qp) la xs) :
    Calls Tryz.prog 14 #[.pointer (some ⟨pb, 0, none⟩), .int .i64 n, .slice (some la) xs.length cap] w fun e w' => e = .returned (.bool true) ∧ BGoes w kb b r M ob cb qp (M.trap n xs).2 w' := by
  refine (pairtrap_some w pb kb b n (M.trap n xs).1.1 (M.trap n xs).1.2.1 (M.trap n xs).1.2.2 la cap xs (Foot kb M ob cb qp) (RFt b r.S) (XGoes kb M ob cb qp (M.trap n xs).2) (YGoes kb b r M ob cb qp (M.trap n xs).2) ha.len hp (ha.at'.imp id (fun ⟨lb, lo, e, hA, hn⟩ => ⟨lb, lo, e, hA, fun hf => hn (Or.inl hf), fun hf => hn (Or.inr hf)⟩))
    ?_ ?_ (fun _ _ _ h hb => h.below hb) ?_ hp.lt (fun hf => hpb (Or.inl hf)) (fun k hk hf => by have := h.kp.foot_lt hf; omega) (fun k hk hf => by have := h.rr.lt hf; omega)).mono ?_
  · intro w1 g c hb hg hrow
    refine (p_trap (h.kp.below hb) h.inv n xs (some ⟨g, 0, none⟩) c ha.wf (Or.inr ⟨g, 0, rfl, hrow.arg⟩)).mono ?_
    rintro e w' ⟨rfl, ⟨ob', cb', qp', h1, h2⟩, h3⟩
    exact ⟨rfl, ⟨ob', cb', qp', h1, h2⟩, h3⟩
  · intro w1 w2 hb h2 f2
    refine (ref_side (h.still (Fr.of_below hb)) hmade n xs (some la) cap (Nat.le_refl _) h2 f2.size f2 (ha.at'.imp id (fun ⟨lb, lo, e, hA, hn⟩ => ⟨lb, lo, by rw [e], hA.below hb hA.lt, hn⟩))).mono ?_
    rintro e w' ⟨rfl, ⟨r', ob', cb', qp', h1, h2, h3⟩, h4⟩
    exact ⟨rfl, ⟨r', ob', cb', qp', h1, h2, h3⟩, h4⟩
  · rintro m w1 w2 g hg hgm ⟨r', ob', cb', qp', h1, h2, h3⟩ hf
    refine ⟨r', ob', cb', qp', h1.fr hf (fun k hk e => ?_), h2, h3⟩
    rcases h2 k hk with h4 | h4
    · have := h.lt h4; omega
    · omega
  · rintro e w' ⟨rfl, ⟨m, hm, r', ob', cb', qp', h1, h2, h3⟩, h4⟩
    exact ⟨rfl, r', ob', cb', qp', h1, fun k hk => (h2 k hk).imp id (fun h => Nat.le_trans hm h), h3, h4⟩
end

/-- A pair in block pb: a kernel of the program's and the reference's, the same plain kernel's; all its blocks are in F; at most m objects were made. -/
def Pr (w : World) (pb : Nat) (F : Nat → Prop) (m : Int) : Prop :=
  ∃ kb b r M ob cb qp, Both w kb b r M ob cb qp ∧ Blk w pb #[.pointer (some ⟨kb, 0, none⟩), .pointer (some ⟨b, 0, none⟩)] ∧ ¬ BFoot kb b r M ob cb qp pb ∧ (∀ k, k = pb ∨ BFoot kb b r M ob cb qp k ↔ F k) ∧ r.made ≤ m

theorem Pr.lt {w : World} {pb : Nat} {F : Nat → Prop} {m : Int} (h : Pr w pb F m) {k : Nat} (hk : F k) : k < w.heap.size := by
  obtain ⟨kb, b, r, M, ob, cb, qp, h1, h2, h3, h4, h5⟩ := h
  rcases (h4 k).2 hk with rfl | h
  · exact h2.lt
  · exact h1.lt h

theorem Pr.at {w : World} {pb : Nat} {F : Nat → Prop} {m : Int} (h : Pr w pb F m) : F pb := by
  obtain ⟨kb, b, r, M, ob, cb, qp, h1, h2, h3, h4, h5⟩ := h
  exact (h4 pb).1 (Or.inl rfl)

theorem Pr.fr {P : Nat → Prop} {w w' : World} {pb : Nat} {F : Nat → Prop} {m : Int} (h : Pr w pb F m) (f : Fr P w w') (hp : ∀ k, F k → ¬ P k) : Pr w' pb F m := by
  obtain ⟨kb, b, r, M, ob, cb, qp, h1, h2, h3, h4, h5⟩ := h
  exact ⟨kb, b, r, M, ob, cb, qp, h1.fr f (fun k hk => hp k ((h4 k).1 (Or.inr hk))), h2.fr f (hp pb ((h4 pb).1 (Or.inl rfl))), h3, h4, h5⟩

theorem Pr.below {w w' : World} {pb : Nat} {F : Nat → Prop} {m : Int} (h : Pr w pb F m) (f : Below w.heap.size w w') : Pr w' pb F m :=
  h.fr (P := fun _ => False) (Fr.of_below f) (fun _ _ => id)

theorem Pr.more {w : World} {pb : Nat} {F : Nat → Prop} {m m' : Int} (h : Pr w pb F m) (hm : m ≤ m') : Pr w pb F m' := by
  obtain ⟨kb, b, r, M, ob, cb, qp, h1, h2, h3, h4, h5⟩ := h
  exact ⟨kb, b, r, M, ob, cb, qp, h1, h2, h3, h4, by omega⟩

/-- A pair has gone on. -/
def PrGoes (w : World) (pb : Nat) (F : Nat → Prop) (m : Int) (w' : World) : Prop := ∃ F', Pr w' pb F' (m + 1) ∧ (∀ k, F' k → F k ∨ w.heap.size ≤ k) ∧ Fr F w w'

theorem ArgsV.sub {w : World} {F F' : Nat → Prop} {v : Value} (h : ArgsV w F v) (hs : ∀ k, F' k → F k) : ArgsV w F' v := by
  rcases h with h | ⟨la, xs, cap, h1, h2⟩
  · exact Or.inl h
  · refine Or.inr ⟨la, xs, cap, h1, h2.len, ?_, h2.wf⟩
    rcases h2.at' with h | ⟨lb, lo, h3, h4, h5⟩
    · exact Or.inl h
    · exact Or.inr ⟨lb, lo, h3, h4, fun h => h5 (hs _ h)⟩

theorem ArgsV.fr {w w' : World} {F : Nat → Prop} {v : Value} (h : ArgsV w F v) (f : Fr (fun _ => False) w w') : ArgsV w' F v := by
  rcases h with h | ⟨la, xs, cap, h1, h2⟩
  · exact Or.inl h
  · refine Or.inr ⟨la, xs, cap, h1, h2.len, ?_, h2.wf⟩
    rcases h2.at' with h | ⟨lb, lo, h3, h4, h5⟩
    · exact Or.inl h
    · exact Or.inr ⟨lb, lo, h3, h4.fr f id, h5⟩

theorem goes_pr {w w' : World} {pb : Nat} {F : Nat → Prop} {m : Int} {kb b : Nat} {r : RSt} {M M' : MS} {ob cb : Nat → Nat} {qp : Nat → Option Nat} (h2 : Blk w pb #[.pointer (some ⟨kb, 0, none⟩), .pointer (some ⟨b, 0, none⟩)]) (h3 : ¬ BFoot kb b r M ob cb qp pb) (h4 : ∀ k, k = pb ∨ BFoot kb b r M ob cb qp k ↔ F k) (h5 : r.made ≤ m)
    (hg : BGoes w kb b r M ob cb qp M' w') : PrGoes w pb F m w' := by
  obtain ⟨r', ob', cb', qp', g1, g2, g3, g4⟩ := hg
  have hlt := h2.lt
  refine ⟨fun k => k = pb ∨ BFoot kb b r' M' ob' cb' qp' k, ⟨kb, b, r', M', ob', cb', qp', g1, h2.fr g4 h3, fun hk => ?_, fun _ => Iff.rfl, by omega⟩, fun k hk => ?_, g4.mono (fun k _ hk => (h4 k).1 (Or.inr hk))⟩
  · rcases g2 pb hk with h | h
    · exact h3 h
    · omega
  · rcases hk with h | h
    · exact Or.inl ((h4 k).1 (Or.inl h))
    · rcases g2 k h with h | h
      · exact Or.inl ((h4 k).1 (Or.inr h))
      · exact Or.inr h

theorem pr_trap {w : World} {pb : Nat} {F : Nat → Prop} {m : Int} (h : Pr w pb F m) (hm : m < 4611686018427387904) (n : Int) (v : Value) (ha : ArgsV w F v) :
    Calls Tryz.prog 14 #[.pointer (some ⟨pb, 0, none⟩), .int .i64 n, v] w fun e w' => e = .returned (.bool true) ∧ PrGoes w pb F m w' := by
  obtain ⟨kb, b, r, M, ob, cb, qp, h1, h2, h3, h4, h5⟩ := h
  rcases ha with rfl | ⟨la, xs, cap, rfl, ha⟩
  · exact (both_nil h1 (by omega) h2 h3 n).mono (fun e w' ⟨he, hg⟩ => ⟨he, goes_pr h2 h3 h4 h5 hg⟩)
  · refine (both_some h1 (by omega) h2 h3 n la cap xs ⟨ha.len, ?_, ha.wf⟩).mono (fun e w' ⟨he, hg⟩ => ⟨he, goes_pr h2 h3 h4 h5 hg⟩)
    rcases ha.at' with h | ⟨lb, lo, h6, h7, h8⟩
    · exact Or.inl h
    · exact Or.inr ⟨lb, lo, h6, h7, fun h => h8 ((h4 _).1 (Or.inr h))⟩

end Go.Proofs.YtloppmepfkkblaaGreat
end

section
/- The law's pairs of kernels: 'pick', 'booted', 'looks', 'step'. -/
open Go Go.Proofs Go.RowKit
namespace Go.Proofs.YtloppmepfkkblaaGreat

theorem boot_cur : MS.boot.cur = some 1 := by decide +kernel
theorem boot_self : (MS.boot.trap 1 []).2 = MS.boot := by
  unfold MS.trap
  rw [boot_cur]
  rfl
theorem boot_self_out : MS.boot.out 1 [] = .agg #[.int .i64 0, .int .i64 1, .int .i64 0] := by
  unfold MS.out MS.trap
  rw [boot_cur]
  rfl

theorem pick_val (c : Int) (hc : -9223372036854775808 ≤ c ∧ c ≤ 9223372036854775807) : ∃ j : Int, (j = 0 ∨ j = 1) ∧ ∀ w : World, Calls Tryz.prog 9 #[.int .i64 c, .int .i64 2] w fun e w' => e = .returned (.int .i64 j) ∧ w' = w := by
  obtain ⟨h1, h2⟩ := hc
  by_cases h : c < 0
  · refine ⟨-(c + 1).tmod 2, ?_, fun w => ?_⟩
    · rw [← Int.neg_tmod, Int.tmod_eq_emod_of_nonneg (by omega)]; omega
    · go_enter Tryz.func9, Tryz.ntmps9
      go_wp2_with fail
      go_ret
      exact ⟨rfl, rfl⟩
  · refine ⟨c % 2, by omega, fun w => ?_⟩
    go_enter Tryz.func9, Tryz.ntmps9
    go_wp2_with fail
    go_ret
    exact ⟨rfl, rfl⟩

theorem looks_empty (w : World) (bb : Nat) (h : Blk w bb #[.slice none 0 0]) : Calls Tryz.prog 11 #[.pointer (some ⟨bb, 0, none⟩)] w fun e w' => e = .returned (.bool true) ∧ w' = w := by
  have c0 : w.cell? ⟨bb, 0, none⟩ = some (.slice none 0 0) := by rw [h.cell]; rfl
  have hlt := h.lt
  clear h
  go_enter Tryz.func11, Tryz.ntmps11
  go_wp2_with fail
  go_loop [3] (fun i => ∃ k : Nat, k ≤ 4 ∧ i = .int .i64 k) (fun i => 4 - (intOf i).toNat)
  case atStart => exact ⟨0, by omega, rfl⟩
  case round =>
    obtain ⟨k, hk, rfl⟩ := hrel
    by_cases hk4 : k < 4
    · have hki : (k : Int) < 4 := by omega
      go_wp2_with fail
      refine wp_loop_rounds 1 ?_
      rw [rounds_succ]
      go_wp2_with fail
      go_round
      case rel => exact ⟨k + 1, by omega, by go_num⟩
      case measure => simp [intOf]; omega
    · have hki : ¬ (k : Int) < 4 := by omega
      go_wp2_with fail
      go_ret
      exact ⟨rfl, rfl⟩

/-! ### 'booted' -/

theorem Fr.below_lo {S : Nat → Prop} {w w' : World} {B : Nat} (h : Fr S w w') (hs : ∀ k, S k → B ≤ k) (hB : B ≤ w.heap.size) : Below B w w' :=
  ⟨h.os, h.tape, h.output, h.size, fun k hk => h.block k (by omega) (fun hk' => by have := hs k hk'; omega)⟩

set_option maxHeartbeats 2000000 in
theorem booted_any (w : World) : Calls Tryz.prog 8 #[] w fun e w' => ∃ pb F, e = .returned (.pointer (some ⟨pb, 0, none⟩)) ∧ Pr w' pb F 3 ∧ (∀ k, F k → w.heap.size ≤ k) ∧ Below w.heap.size w w' := by
  have PB := hide (p_boot w)
  go_enter Tryz.func8, Tryz.ntmps8
  go_wp2_with fail
  refine PB.out.mono ?_
  clear PB
  rintro e w1 ⟨rfl, ⟨ob, cb, qp, hpk, hft⟩, hb1⟩
  have HP := hide hpk
  have HF := hide hft
  have HB1 := hide hb1
  have HL1 : Hid (∀ k, Foot w.heap.size MS.boot ob cb qp k → k < w1.heap.size) := fun k hk => hpk.foot_lt hk
  have hl1 := hpk.lt
  clear hpk hft hb1
  go_wp2_with fail
  refine (r_boot w1).mono ?_
  rintro e w2 ⟨rfl, hrr, hrf, hb2⟩
  have HP2 := hide (HP.out.below hb2)
  have HR2 := hide hrr
  have HRF := hide hrf
  have HB2 := hide hb2
  have hl2 := hrr.blt
  clear hrr hb2 HP hrf
  go_wp2_with fail
  have fa : Fr (fun _ => False) w2 (w2.alloc (.cells #[.pointer (some ⟨w.heap.size, 0, none⟩), .pointer (some ⟨w1.heap.size, 0, none⟩)] 43)) := (Fr.refl _ _).alloc _
  have S2 : Both w2 w.heap.size w1.heap.size rboot MS.boot ob cb qp := ⟨HP2.out, HR2.out, MInv.boot, fun k hk hf => by have := HL1.out k hk; have := HRF.out k hf; omega⟩
  have S3 := S2.still fa
  have B3 := Blk.new w2 #[.pointer (some ⟨w.heap.size, 0, none⟩), .pointer (some ⟨w1.heap.size, 0, none⟩)] 43
  have HN : Hid (∀ k, BFoot w.heap.size w1.heap.size rboot MS.boot ob cb qp k → w.heap.size ≤ k ∧ k < w2.heap.size) := fun k hk => by
    refine ⟨?_, S2.lt hk⟩
    rcases hk with h | h
    · exact HF.out k h
    · have := HRF.out k h; omega
  have F3 : Hid (Below w.heap.size w (w2.alloc (.cells #[.pointer (some ⟨w.heap.size, 0, none⟩), .pointer (some ⟨w1.heap.size, 0, none⟩)] 43))) := (HB1.out.trans (HB2.out.mono (by omega))).alloc (by omega) _
  have BN := hide B3
  have hn3 : ¬ BFoot w.heap.size w1.heap.size rboot MS.boot ob cb qp w2.heap.size := fun h => by have := (HN.out _ h).2; omega
  have TR := hide (both_nil S3 (by decide) B3 hn3 1)
  have hl3 : (w2.alloc (.cells #[.pointer (some ⟨w.heap.size, 0, none⟩), .pointer (some ⟨w1.heap.size, 0, none⟩)] 43)).heap.size = w2.heap.size + 1 := by simp
  clear fa S2 S3 B3 HP2 HR2
  generalize (w2.alloc (.cells #[.pointer (some ⟨w.heap.size, 0, none⟩), .pointer (some ⟨w1.heap.size, 0, none⟩)] 43)) = w3 at *
  refine TR.out.mono ?_
  clear TR
  rintro e w4 ⟨rfl, r', ob', cb', qp', g1, g2, g3, g4⟩
  have eM : (MS.boot.trap 1 []).2 = MS.boot := boot_self
  rw [eM] at g1 g2
  have BN4 := hide (BN.out.fr g4 hn3)
  have F4 : Hid (Below w.heap.size w w4) := F3.out.trans (Fr.below_lo g4 (fun k hk => (HN.out k hk).1) (by omega))
  have TS := p_trap g1.kp g1.inv 1 [] none 0 (fun x hx => by cases hx) (Or.inl rfl)
  have eO : MS.boot.out 1 [] = .agg #[.int .i64 0, .int .i64 1, .int .i64 0] := boot_self_out
  rw [eO] at TS
  have HTS := hide TS
  have G1 := hide g1
  have G2 := hide g2
  have hl4 := g4.size
  have hm : r'.made ≤ 3 := by
    have : rboot.made = 2 := rfl
    omega
  clear g1 g2 g3 g4 BN F3 TS eO
  go_wp2_with fail
  refine HTS.out.mono ?_
  clear HTS
  rintro e w5 ⟨rfl, ⟨ob5, cb5, qp5, k5, f5⟩, fr5⟩
  rw [eM] at k5 f5
  have G5 : Hid (Both w5 w.heap.size w1.heap.size r' MS.boot ob5 cb5 qp5) := ⟨k5, G1.out.rr.fr fr5 (fun k hk hf => G1.out.dis k hf hk), MInv.boot, fun k hk hf => by
    rcases f5 k hk with h | h
    · exact G1.out.dis k h hf
    · have := G1.out.rr.lt hf; omega⟩
  have G25 : Hid (∀ k, BFoot w.heap.size w1.heap.size r' MS.boot ob5 cb5 qp5 k → BFoot w.heap.size w1.heap.size r' MS.boot ob' cb' qp' k ∨ w4.heap.size ≤ k) := fun k hk => by
    rcases hk with h | h
    · exact (f5 k h).imp Or.inl id
    · exact Or.inl (Or.inr h)
  have hn4 : ¬ Foot w.heap.size MS.boot ob' cb' qp' w2.heap.size := fun h => by
    rcases G2.out _ (Or.inl h) with h | h
    · exact hn3 h
    · omega
  have BN5 := hide (BN4.out.fr fr5 hn4)
  have F5 : Hid (Below w.heap.size w w5) := F4.out.trans (Fr.below_lo fr5 (fun k hk => by
    rcases G2.out k (Or.inl hk) with h | h
    · exact (HN.out k h).1
    · omega) (by omega))
  have hl5 := fr5.size
  clear k5 f5 fr5 G1 BN4 F4
  have fa : Fr (fun _ => False) w5 (w5.alloc (.cells #[.int .i64 0, .int .i64 1, .int .i64 0] 50)) := (Fr.refl _ _).alloc _
  have G6 := hide (G5.out.still fa)
  have BN6 := hide (BN5.out.fr fa id)
  have F6 := hide (F5.out.alloc (by omega) (.cells #[.int .i64 0, .int .i64 1, .int .i64 0] 50))
  clear fa G5 BN5 F5
  go_wp2_with fail
  go_ret
  refine ⟨w2.heap.size, fun k => k = w2.heap.size ∨ BFoot w.heap.size w1.heap.size r' MS.boot ob5 cb5 qp5 k, rfl, ⟨_, _, r', MS.boot, ob5, cb5, qp5, G6.out, BN6.out, fun h => ?_, fun _ => Iff.rfl, hm⟩, fun k hk => ?_, F6.out⟩
  · rcases G25.out _ h with h | h
    · rcases G2.out _ h with h | h
      · exact hn3 h
      · omega
    · omega
  · rcases hk with h | h
    · omega
    · rcases G25.out _ h with h | h
      · rcases G2.out _ h with h | h
        · exact (HN.out k h).1
        · omega
      · omega

/-! ### 'step' -/

set_option maxHeartbeats 2000000 in
theorem step_any {w : World} {pb : Nat} {F : Nat → Prop} {m : Int} (h : Pr w pb F m) (hm : m < 4611686018427387904) (K n : Int) (v : Value) (bv : Value) (hn3 : n ≠ -3) (ha : ArgsV w F v) :
    Calls Tryz.prog 10 #[.pointer (some ⟨pb, 0, none⟩), .agg #[.int .i64 K, .int .i64 n, v], bv] w fun e w' => e = .returned (.bool true) ∧ PrGoes w pb F m w' := by
  by_cases h1 : n = -1
  · subst h1
    obtain ⟨kb, b, r, M, ob, cb, qp, h1, h2, h3, h4, h5⟩ := h
    have c0 : w.cell? ⟨pb, 0, none⟩ = some (.pointer (some ⟨kb, 0, none⟩)) := by rw [h2.cell]; rfl
    have hlt := h2.lt
    have H1 := hide h1
    have H2 := hide h2
    have H4 := hide h4
    clear h1 h2 h4
    have fa : Fr (fun _ => False) w (w.alloc (.cells #[.int .i64 K, .int .i64 (-1), v] 34)) := (Fr.refl _ _).alloc _
    have S1 := hide (H1.out.still fa)
    have B1 := hide (H2.out.fr fa id)
    have FA := hide fa
    have hsa : w.heap.size ≤ (w.alloc (.cells #[.int .i64 K, .int .i64 (-1), v] 34)).heap.size := by simp
    clear fa
    go_enter Tryz.func10, Tryz.ntmps10
    go_wp2_with fail
    generalize (w.alloc (.cells #[.int .i64 K, .int .i64 (-1), v] 34)) = w1 at *
    refine (p_tick S1.out.kp).mono ?_
    rintro e w2 ⟨rfl, ⟨ob2, cb2, qp2, k2, g2⟩, f2⟩
    have B2 := hide (B1.out.fr f2 (fun hf => h3 (Or.inl hf)))
    have c1 : w2.cell? ⟨pb, 1, none⟩ = some (.pointer (some ⟨b, 0, none⟩)) := by rw [B2.out.cell]; rfl
    have hlt2 := B2.out.lt
    have R2 := hide (S1.out.rr.fr f2 (fun k hk hf => S1.out.dis k hf hk))
    have K2 := hide k2
    have G2 := hide g2
    have F2 := hide f2
    have hz2 := f2.size
    clear k2 g2 f2
    go_wp2_with fail
    refine (r_tick R2.out H1.out.inv).mono ?_
    rintro e w3 ⟨rfl, r3, q1, q2, q3, q4⟩
    have BG : Hid (BGoes w kb b r M ob cb qp M.tick w3) := by
      refine ⟨r3, ob2, cb2, qp2, ⟨K2.out.fr q4 (fun k hk hf => ?_), q1, H1.out.inv.tick, fun k hk hf => ?_⟩, fun k hk => ?_, q2, ?_⟩
      · rcases G2.out k hk with h | h
        · exact S1.out.dis k h hf
        · have := S1.out.rr.lt hf; omega
      · rcases G2.out k hk with h | h
        · rcases q3 k hf with h' | h'
          · exact S1.out.dis k h h'
          · have := S1.out.kp.foot_lt h; omega
        · rcases q3 k hf with h' | h'
          · have := S1.out.rr.lt h'; omega
          · have := K2.out.foot_lt hk; omega
      · rcases hk with h | h
        · exact (G2.out k h).imp Or.inl (fun h => by omega)
        · exact (q3 k h).imp Or.inr (fun h => by omega)
      · have t1 : Fr (BFoot kb b r M ob cb qp) w w1 := FA.out.mono (fun _ _ h => h.elim)
        exact (t1.trans (F2.out.mono (fun k _ h => Or.inl h))).trans (q4.mono (fun k _ h => Or.inr h))
    clear q1 q2 q3 q4 K2 G2 F2 R2 S1 B1 B2
    go_wp2_with fail
    go_ret
    exact ⟨rfl, goes_pr H2.out h3 H4.out h5 BG.out⟩
  · by_cases h2 : n = -2
    · subst h2
      obtain ⟨kb, b, r, M, ob, cb, qp, h1, h2, h3, h4, h5⟩ := h
      have c0 : w.cell? ⟨pb, 0, none⟩ = some (.pointer (some ⟨kb, 0, none⟩)) := by rw [h2.cell]; rfl
      have hlt := h2.lt
      have fa : Fr (fun _ => False) w (w.alloc (.cells #[.int .i64 K, .int .i64 (-2), v] 34)) := (Fr.refl _ _).alloc _
      have S1 := hide (h1.still fa)
      have B1 := hide (h2.fr fa id)
      have FA := hide fa
      have H4 := hide h4
      clear fa h1 h2 h4
      obtain ⟨nt, nl, hnow⟩ : ∃ (nt : Int) (nl : Nat), M.now = nowV M.ph nt nl := by
        unfold MS.now
        cases M.cur with
        | none => exact ⟨-1, 0, rfl⟩
        | some s => exact ⟨s, _, rfl⟩
      go_enter Tryz.func10, Tryz.ntmps10
      go_wp2_with fail
      generalize (w.alloc (.cells #[.int .i64 K, .int .i64 (-2), v] 34)) = w1 at *
      have v0 := later_cell (w := w1) (b := pb) (n := 0) (v := .pointer (some ⟨kb, 0, none⟩)) (by rw [B1.out.cell]; rfl) B1.out.lt
      have v1 := later_cell (w := w1) (b := pb) (n := 1) (v := .pointer (some ⟨b, 0, none⟩)) (by rw [B1.out.cell]; rfl) B1.out.lt
      have PN := hide (fun x : Later w1 => Calls.later_of (x := x) (p_now (S1.out.still (Fr.of_below x.2)).kp))
      have RN := hide (fun x : Later w1 => Calls.later_of (x := x) (r_now (S1.out.still (Fr.of_below x.2)).rr S1.out.inv))
      simp only [hnow, nowV] at PN RN
      clear hnow
      have hne : Nonempty (Later w1) := ⟨⟨w1, Below.refl _ _⟩⟩
      refine wp_region_later (by kernel_rfl) (by kernel_rfl) ?_
      repeat (go_big_quiet_step ((first | (go_at_call 12; exact PN.out _) | (go_at_call 13; exact RN.out _))))
      refine wpQuiet_nil ?_
      rintro _ ⟨wl, rfl⟩
      clear hne
      have f3 : Fr (fun _ => False) w1 wl.1 := Fr.of_below wl.2
      have S3 := hide (S1.out.still f3)
      have B3 := hide (B1.out.fr f3 id)
      have F3 := hide (FA.out.trans f3)
      clear f3 S1 B1 PN RN
      go_wp2_with fail
      go_ret
      exact ⟨rfl, F, ⟨kb, b, r, M, ob, cb, qp, S3.out, B3.out, h3, H4.out, by omega⟩, fun _ hk => Or.inl hk, F3.out.mono (fun _ _ h => h.elim)⟩
    · have fa : Fr (fun _ => False) w (w.alloc (.cells #[.int .i64 K, .int .i64 n, v] 34)) := (Fr.refl _ _).alloc _
      have H1 := hide (h.fr fa (fun _ _ => id))
      have HA : Hid (ArgsV (w.alloc (.cells #[.int .i64 K, .int .i64 n, v] 34)) F v) := ha.fr fa
      have FA := hide fa
      have hsz : w.heap.size ≤ (w.alloc (.cells #[.int .i64 K, .int .i64 n, v] 34)).heap.size := by simp
      clear fa h ha
      go_enter Tryz.func10, Tryz.ntmps10
      go_wp2_with fail
      generalize (w.alloc (.cells #[.int .i64 K, .int .i64 n, v] 34)) = w1 at *
      refine (pr_trap H1.out hm n v HA.out).mono ?_
      rintro e w2 ⟨rfl, F', g1, g2, g3⟩
      have G1 := hide g1
      have G2 := hide g2
      have G3 := hide g3
      clear g1 g2 g3
      go_wp2_with fail
      go_ret
      refine ⟨rfl, F', G1.out, fun k hk => ?_, (FA.out.mono (fun _ _ h => h.elim)).trans G3.out⟩
      rcases G2.out k hk with h | h
      · exact Or.inl h
      · exact Or.inr (by omega)

end Go.Proofs.YtloppmepfkkblaaGreat
end
