/- The keep's first functions: 'pick', 'booted'; a kernel that stands. -/
import Derived.StillTailTactics
import Derived.Test.YtloppmepfkkblaaJKAdmitsToKBoot
open Go Go.Proofs Go.RowKit
namespace Go.Proofs.Ytloppmepfkkblaa

theorem boot_cur : MS.boot.cur = some 1 := by decide +kernel
theorem boot_self : (MS.boot.trap 1 []).2 = MS.boot := by
  unfold MS.trap
  rw [boot_cur]
  rfl
theorem boot_self_out : MS.boot.out 1 [] = .agg #[.int .i64 0, .int .i64 1, .int .i64 0] := by
  unfold MS.out MS.trap
  rw [boot_cur]
  rfl
theorem boot_now : MS.boot.now = .agg #[.int .i64 0, .int .i64 1, .int .i64 0] := by
  unfold MS.now
  rw [boot_cur]
  rfl

/-- A kernel in block kb, the plain kernel M's; all its blocks are in F. -/
def Kn (w : World) (kb : Nat) (F : Nat → Prop) (M : MS) : Prop := ∃ ob cb qp, KP w kb M ob cb qp ∧ MInv M ∧ ∀ k, Foot kb M ob cb qp k ↔ F k

/-- It has gone on. -/
def KnGoes (w : World) (kb : Nat) (F : Nat → Prop) (M' : MS) (w' : World) : Prop := ∃ F', Kn w' kb F' M' ∧ (∀ k, F' k → F k ∨ w.heap.size ≤ k) ∧ Fr F w w'

section
variable {w w' : World} {kb : Nat} {F : Nat → Prop} {M : MS}
theorem Kn.lt (h : Kn w kb F M) {k : Nat} (hk : F k) : k < w.heap.size := by
  obtain ⟨ob, cb, qp, h1, h2, h3⟩ := h
  exact h1.foot_lt ((h3 k).2 hk)
theorem Kn.inv (h : Kn w kb F M) : MInv M := by
  obtain ⟨ob, cb, qp, h1, h2, h3⟩ := h
  exact h2
theorem Kn.at (h : Kn w kb F M) : F kb := by
  obtain ⟨ob, cb, qp, h1, h2, h3⟩ := h
  exact (h3 kb).1 (Or.inl rfl)
theorem Kn.blt (h : Kn w kb F M) : kb < w.heap.size := h.lt h.at
theorem Kn.fr {P : Nat → Prop} (h : Kn w kb F M) (f : Fr P w w') (hp : ∀ k, F k → ¬ P k) : Kn w' kb F M := by
  obtain ⟨ob, cb, qp, h1, h2, h3⟩ := h
  exact ⟨ob, cb, qp, h1.fr f (fun k hk => hp k ((h3 k).1 hk)), h2, h3⟩
theorem Kn.below (h : Kn w kb F M) (f : Below w.heap.size w w') : Kn w' kb F M := h.fr (P := fun _ => False) (Fr.of_below f) (fun _ _ => id)

theorem kn_goes {ob cb : Nat → Nat} {qp : Nat → Option Nat} {M' : MS} (h3 : ∀ k, Foot kb M ob cb qp k ↔ F k) (hI : MInv M') (hg : KGoes w kb M ob cb qp M' w') : KnGoes w kb F M' w' := by
  obtain ⟨⟨ob', cb', qp', k1, k2⟩, f⟩ := hg
  exact ⟨Foot kb M' ob' cb' qp', ⟨ob', cb', qp', k1, hI, fun _ => Iff.rfl⟩, fun k hk => (k2 k hk).imp (h3 k).1 id, f.mono (fun k _ hk => (h3 k).1 hk)⟩

theorem kn_trap (h : Kn w kb F M) (n : Int) (xs : List Int) (la : Option Addr) (cap : Nat) (hf : Fits xs) (ha : xs = [] ∨ ∃ lb lo, la = some ⟨lb, lo, none⟩ ∧ Arg w lb lo xs) :
    Calls Try.prog 19 #[.pointer (some ⟨kb, 0, none⟩), .int .i64 n, .slice la xs.length cap] w fun e w' => e = .returned (M.out n xs) ∧ KnGoes w kb F (M.trap n xs).2 w' := by
  obtain ⟨ob, cb, qp, h1, h2, h3⟩ := h
  exact (p_trap h1 h2 n xs la cap hf ha).mono (fun e w' ⟨he, hg⟩ => ⟨he, kn_goes h3 (h2.trap n xs) hg⟩)

theorem kn_tick (h : Kn w kb F M) : Calls Try.prog 15 #[.pointer (some ⟨kb, 0, none⟩)] w fun e w' => e = .returned (.tuple #[]) ∧ KnGoes w kb F M.tick w' := by
  obtain ⟨ob, cb, qp, h1, h2, h3⟩ := h
  exact (p_tick h1).mono (fun e w' ⟨he, hg⟩ => ⟨he, kn_goes h3 h2.tick hg⟩)

theorem kn_now (h : Kn w kb F M) : Calls Try.prog 18 #[.pointer (some ⟨kb, 0, none⟩)] w fun e w' => e = .returned M.now ∧ Below w.heap.size w w' := by
  obtain ⟨ob, cb, qp, h1, h2, h3⟩ := h
  exact p_now h1

/-- .. with numbers that were laid for it just now. -/
theorem kn_trap_new (h : Kn w kb F M) (n : Int) (cs : Array Value) (m : Nat) (xs : List Int) (hcs : cs.toList = xs.map (Value.int .i64)) (hm : xs.length = m) (hf : Fits xs) :
    Calls Try.prog 19 #[.pointer (some ⟨kb, 0, none⟩), .int .i64 n, .slice (some ⟨w.heap.size, 0, none⟩) m m] (w.alloc (.cells cs 3)) fun e w' => e = .returned (M.out n xs) ∧ KnGoes w kb F (M.trap n xs).2 w' := by
  subst hm
  have hb : Below w.heap.size w (w.alloc (.cells cs 3)) := (Below.refl _ _).alloc (Nat.le_refl _) _
  refine (kn_trap (h.below hb) n xs (some ⟨w.heap.size, 0, none⟩) xs.length hf (Or.inr ⟨_, _, rfl, by simp, fun i x hx => ?_⟩)).mono ?_
  · rw [Nat.zero_add, (Blk.new w cs 3).cell, ← Array.getElem?_toList, hcs, List.getElem?_map, hx]
    rfl
  · rintro e w' ⟨he, F', g1, g2, g3⟩
    refine ⟨he, F', g1, fun k hk => (g2 k hk).imp id (fun h => by have := hb.size; omega), ?_⟩
    exact Fr.trans' (S' := F) ((Fr.of_below hb : Fr (fun _ => False) _ _).mono (fun _ _ h => h.elim)) g3 (fun _ _ h => h)
end

/-- A trap's arguments as they come in; F: blocks in which they do not lie. -/
structure ArgS (w : World) (F : Nat → Prop) (la : Addr) (xs : List Int) : Prop where
  len : xs.length ≤ 17592186043904
  at' : xs = [] ∨ ∃ lb lo, la = ⟨lb, lo, none⟩ ∧ Arg w lb lo xs ∧ ¬ F lb
  wf : Fits xs
def ArgsV (w : World) (F : Nat → Prop) (v : Value) : Prop := v = .slice none 0 0 ∨ ∃ (la : Addr) (xs : List Int) (cap : Nat), v = .slice (some la) xs.length cap ∧ ArgS w F la xs

theorem ArgsV.sub {w : World} {F F' : Nat → Prop} {v : Value} (h : ArgsV w F v) (hs : ∀ k, F' k → F k) : ArgsV w F' v := by
  rcases h with h | ⟨la, xs, cap, h1, h2⟩
  · exact Or.inl h
  · refine Or.inr ⟨la, xs, cap, h1, h2.len, ?_, h2.wf⟩
    rcases h2.at' with h | ⟨lb, lo, h3, h4, h5⟩
    · exact Or.inl h
    · exact Or.inr ⟨lb, lo, h3, h4, fun h => h5 (hs _ h)⟩

theorem pick_val (c n : Int) (hc : -9223372036854775808 ≤ c ∧ c ≤ 9223372036854775807) (hn : 0 < n ∧ n ≤ 1000) : ∃ j : Int, 0 ≤ j ∧ j < n ∧ ∀ w : World, Calls Try.prog 9 #[.int .i64 c, .int .i64 n] w fun e w' => e = .returned (.int .i64 j) ∧ w' = w := by
  obtain ⟨h1, h2⟩ := hc
  obtain ⟨n1, n2⟩ := hn
  by_cases h : c < 0
  · have e : -(c + 1).tmod n = (-(c + 1)) % n := by rw [← Int.neg_tmod, Int.tmod_eq_emod_of_nonneg (by omega)]
    refine ⟨(-(c + 1)) % n, Int.emod_nonneg _ (by omega), Int.emod_lt_of_pos _ n1, fun w => ?_⟩
    go_enter Try.func9, Try.ntmps9
    go_wp2_with fail
    go_ret
    exact ⟨by rw [← e]; rfl, rfl⟩
  · refine ⟨c % n, Int.emod_nonneg _ (by omega), Int.emod_lt_of_pos _ n1, fun w => ?_⟩
    go_enter Try.func9, Try.ntmps9
    go_wp2_with fail
    go_ret
    exact ⟨rfl, rfl⟩

theorem Fr.below_lo {S : Nat → Prop} {w w' : World} {B : Nat} (h : Fr S w w') (hs : ∀ k, S k → B ≤ k) (hB : B ≤ w.heap.size) : Below B w w' :=
  ⟨h.os, h.tape, h.output, h.size, fun k hk => h.block k (by omega) (fun hk' => by have := hs k hk'; omega)⟩

set_option maxHeartbeats 2000000 in
theorem booted_any (w : World) : Calls Try.prog 20 #[] w fun e w' => ∃ kb F, e = .returned (.pointer (some ⟨kb, 0, none⟩)) ∧ Kn w' kb F MS.boot ∧ (∀ k, F k → w.heap.size ≤ k) ∧ Below w.heap.size w w' := by
  have PB := hide (p_boot w)
  go_enter Try.func20, Try.ntmps20
  go_wp2_with fail
  refine PB.out.mono ?_
  clear PB
  rintro e w1 ⟨rfl, ⟨ob, cb, qp, hpk, hft⟩, hb1⟩
  have K1 : Kn w1 w.heap.size (Foot w.heap.size MS.boot ob cb qp) MS.boot := ⟨ob, cb, qp, hpk, MInv.boot, fun _ => Iff.rfl⟩
  have HB1 := hide hb1
  have HF := hide hft
  have HT := hide (kn_trap K1 1 [] none 0 (fun x hx => by cases hx) (Or.inl rfl))
  rw [boot_self_out, boot_self] at HT
  have hl1 := hb1.size
  clear hpk hft hb1
  generalize Foot w.heap.size MS.boot ob cb qp = F at *
  have hl := K1.blt
  clear K1
  go_wp2_with fail
  refine HT.out.mono ?_
  clear HT
  rintro e w2 ⟨rfl, F2, k2, g2, f2⟩
  have HB2 : Hid (Below w.heap.size w w2) := HB1.out.trans (Fr.below_lo f2 HF.out hl1)
  have HF2 : Hid (∀ k, F2 k → w.heap.size ≤ k) := fun k hk => (g2 k hk).elim (HF.out k) (fun h => by omega)
  have K2 := hide k2
  have hl2 := f2.size
  clear k2 g2 f2 HB1 HF
  have fa : Below w2.heap.size w2 (w2.alloc (.cells #[.int .i64 0, .int .i64 1, .int .i64 0] 46)) := (Below.refl _ _).alloc (Nat.le_refl _) _
  have HN := kn_now (K2.out.below fa)
  rw [boot_now] at HN
  have HN' := hide HN
  have FA := hide fa
  clear HN fa
  go_wp2_with fail
  have c2 : (w2.alloc (.cells #[.int .i64 0, .int .i64 1, .int .i64 0] 46)).heap.size = w2.heap.size + 1 := by simp
  have B3 := Blk.new w2 #[.int .i64 0, .int .i64 1, .int .i64 0] 46
  have HB3 := hide B3
  clear B3
  generalize hw3 : (w2.alloc (.cells #[.int .i64 0, .int .i64 1, .int .i64 0] 46)) = w3 at *
  refine HN'.out.mono ?_
  clear HN'
  rintro e w4 ⟨rfl, f4⟩
  have K4 := hide ((K2.out.below FA.out).below f4)
  have HB4 : Hid (Below w.heap.size w w4) := (HB2.out.trans (FA.out.mono (by omega))).trans (f4.mono (by omega))
  have B4 := HB3.out.below f4 HB3.out.lt
  have d0 : w4.cell? ⟨w2.heap.size, 0, none⟩ = some (.int .i64 0) := by rw [B4.cell]; rfl
  have d1 : w4.cell? ⟨w2.heap.size, 1, none⟩ = some (.int .i64 1) := by rw [B4.cell]; rfl
  have d2 : w4.cell? ⟨w2.heap.size, 2, none⟩ = some (.int .i64 0) := by rw [B4.cell]; rfl
  have hl4 := f4.size
  have hl5 := B4.lt
  clear f4 HB2 FA HB3 B4 K2 hw3
  go_wp2_with fail
  go_ret
  have fb : Below w4.heap.size w4 (w4.alloc (.cells #[.int .i64 0, .int .i64 1, .int .i64 0] 42)) := (Below.refl _ _).alloc (Nat.le_refl _) _
  exact ⟨_, F2, rfl, K4.out.below fb, HF2.out, HB4.out.trans (fb.mono (by omega))⟩

end Go.Proofs.Ytloppmepfkkblaa
