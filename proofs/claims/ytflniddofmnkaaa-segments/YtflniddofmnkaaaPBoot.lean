/- What the program's 'Boot' does. -/
import Derived.Test.YtflniddofmnkaaaPPut
import Derived.Test.YtflniddofmnkaaaRefBoot
open Go Go.Proofs Go.RowKit
namespace Go.Proofs.Ytflniddofmnkaaa

def pzeroV (n : Nat) : Value := if n < 32 then .nilIface else if n < 40 then .pointer none else .int .i64 0

def pzeroA : Array Value := #[.nilIface, .nilIface, .nilIface, .nilIface, .nilIface, .nilIface, .nilIface, .nilIface, .nilIface, .nilIface, .nilIface, .nilIface, .nilIface, .nilIface, .nilIface, .nilIface, .nilIface, .nilIface, .nilIface, .nilIface, .nilIface, .nilIface, .nilIface, .nilIface, .nilIface, .nilIface, .nilIface, .nilIface, .nilIface, .nilIface, .nilIface, .nilIface, .pointer none, .pointer none, .pointer none, .pointer none, .pointer none, .pointer none, .pointer none, .pointer none, .int .i64 0]
theorem pzero_cells : pzeroA.toList = (List.range 41).map pzeroV := by kernel_rfl

theorem pzero_at (n : Nat) (hn : n < 41) : pzeroA[n]? = some (pzeroV n) := by
  rw [← Array.getElem?_toList, pzero_cells]
  simp [hn]

theorem pzero_size : pzeroA.size = 41 := by
  rw [← Array.length_toList, pzero_cells]; simp

theorem zeroTh_wf : zeroTh.wf := by refine ⟨?_, ?_, ?_, ?_, ?_, ?_⟩ <;> simp [zeroTh]
theorem rootTh_wf : rootTh.wf := by refine ⟨?_, ?_, ?_, ?_, ?_, ?_⟩ <;> simp [rootTh]
theorem firstTh_wf : firstTh.wf := by refine ⟨?_, ?_, ?_, ?_, ?_, ?_⟩ <;> simp [firstTh]

/-- A kernel of nothing. -/
theorem PK.zero {w : World} {b : Nat} (h : Blk w b pzeroA) : PK w b (fun _ => zeroTh) (fun _ => []) (fun _ => none) 0 (fun _ => 0) (fun _ => none) := by
  refine ⟨⟨_, h, pzero_size, fun i hi => ?_, fun q hq => ?_, ?_⟩, fun i _ hk => absurd rfl hk, fun _ _ => Or.inl rfl, fun i _ _ _ hk _ _ => absurd rfl hk, fun i _ hk => absurd rfl hk, fun _ _ => rfl, by omega, fun i _ hk => by simp [zeroTh] at hk, fun _ _ => zeroTh_wf⟩
  · rw [pzero_at i (by omega)]
    simp [pzeroV, hi, obV, zeroTh]
  · rw [pzero_at _ (by omega)]
    unfold pzeroV
    rw [if_neg (by omega), if_pos (by omega)]
    rfl
  · rw [pzero_at 40 (by omega)]; rfl

/-- What the quanta have, ahead of q. -/
def lqTo (q : Nat) : Nat → Option Nat := fun i => if i < q then some 1 else none
def qpTo (g q : Nat) : Nat → Option Nat := fun i => if i < q then some g else none

theorem lqTo_succ (q : Nat) : upd (lqTo q) q (some 1) = lqTo (q + 1) := by
  funext i
  unfold upd lqTo
  by_cases h : i = q
  · rw [if_pos h, if_pos (by omega)]
  · rw [if_neg h]
    by_cases h2 : i < q
    · rw [if_pos h2, if_pos (by omega)]
    · rw [if_neg h2, if_neg (by omega)]
theorem qpTo_succ (g q : Nat) : upd (qpTo g q) q (some g) = qpTo g (q + 1) := by
  funext i
  unfold upd qpTo
  by_cases h : i = q
  · rw [if_pos h, if_pos (by omega)]
  · rw [if_neg h]
    by_cases h2 : i < q
    · rw [if_pos h2, if_pos (by omega)]
    · rw [if_neg h2, if_neg (by omega)]

def bootS : Nat → Th := upd (upd (fun _ => zeroTh) 0 rootTh) 1 firstTh

theorem pk_congr {w : World} {kb : Nat} {S S' : Nat → Th} {ws ws' : Nat → List Int} {lq lq' : Nat → Option Nat} {ph : Nat} {ob ob' : Nat → Nat} {qp qp' : Nat → Option Nat} (h : PK w kb S ws lq ph ob qp) (e1 : S = S') (e2 : ws = ws') (e3 : lq = lq') (e4 : ob = ob') (e5 : qp = qp') : PK w kb S' ws' lq' ph ob' qp' := by
  subst e1 e2 e3 e4 e5; exact h

set_option maxHeartbeats 2000000 in
theorem pboot_any (w : World) :
    Calls Try.prog 33 #[] w fun e w' => e = .returned (.pointer (some ⟨w.heap.size, 0, none⟩)) ∧ (∃ ob qp, PK w' w.heap.size bootS (fun _ => []) (fun q => if q < 8 then some 1 else none) 0 ob qp ∧ ∀ k, Foot w.heap.size bootS ob qp k → w.heap.size ≤ k) ∧ Below w.heap.size w w' := by
  go_enter Try.func33, Try.ntmps33
  go_wp2_with fail
  have B0 : Blk ((w.alloc (.cells pzeroA 78)).alloc (.cells #[.int .i64 0, .int .i64 1, .int .i64 0, .int .i64 1, .int .i64 32, .int .i64 0, .int .i64 8] 120)) w.heap.size pzeroA := (Blk.new w _ _).alloc _
  have P0 := hide (PK.zero B0)
  have BR : Blk ((w.alloc (.cells pzeroA 78)).alloc (.cells #[.int .i64 0, .int .i64 1, .int .i64 0, .int .i64 1, .int .i64 32, .int .i64 0, .int .i64 8] 120)) (w.heap.size + 1) #[.int .i64 0, .int .i64 1, .int .i64 0, .int .i64 1, .int .i64 32, .int .i64 0, .int .i64 8] := Blk.new' (by simp)
  have F0 : Below w.heap.size w ((w.alloc (.cells pzeroA 78)).alloc (.cells #[.int .i64 0, .int .i64 1, .int .i64 0, .int .i64 1, .int .i64 32, .int .i64 0, .int .i64 8] 120)) := ((Below.refl _ _).alloc (Nat.le_refl _) _).alloc (by simp) _
  have PP := pput_container _ w.heap.size (w.heap.size + 1) 0 1 0 .nilIface (by omega) P0.out.lt BR.lt (by omega) ((BR.cell 0).trans rfl) ((BR.cell 1).trans rfl) ((BR.cell 2).trans rfl) (P0.out.slot (i := 0) (by omega)) (P0.out.frozen 0)
  refine PP.mono ?_
  clear PP
  rintro e w2 ⟨rfl, w1, hb1, rfl⟩
  have P1 := hide ((P0.out.below hb1).putNew (s := 0) (g := w.heap.size + 1) (by omega) rfl rootTh [] (BR.below hb1 BR.lt) (by
    rintro (h | ⟨i, _, hk, _⟩ | ⟨q, _, hq⟩)
    · omega
    · exact hk rfl
    · cases hq) (Or.inl rfl) rootTh_wf (by intro h; simp [rootTh] at h))
  have hs1 : w.heap.size + 2 ≤ w1.heap.size := by have := hb1.size; simp at this; omega
  have F1 : Hid (Below w.heap.size w (w1.setCell ⟨w.heap.size, 0, none⟩ (obV rootTh (w.heap.size + 1)))) := (F0.trans (hb1.mono (by simp; omega))).setCell (Nat.le_refl _) _
  have hz : (w1.setCell ⟨w.heap.size, 0, none⟩ (obV rootTh (w.heap.size + 1))).heap.size = w1.heap.size := by simp [World.setCell]
  have eo : obV rootTh (w.heap.size + 1) = .iface 116 (.pointer (some ⟨w.heap.size + 1, 0, none⟩)) := by simp [obV, rootTh]
  rw [eo] at P1 F1 hz
  clear B0 P0 BR F0 hb1 eo
  generalize w1.setCell ⟨w.heap.size, 0, none⟩ (.iface 116 (.pointer (some ⟨w.heap.size + 1, 0, none⟩))) = w2 at *
  have hs2 : w.heap.size + 2 ≤ w2.heap.size := by omega
  clear hz hs1
  go_wp2_with fail
  have BT : Blk (w2.alloc (.cells #[.int .i64 1, .int .i64 2, .int .i64 0, .int .i64 255, .bool true] 84)) w2.heap.size #[.int .i64 1, .int .i64 2, .int .i64 0, .int .i64 255, .bool true] := Blk.new w2 _ _
  have P2 := hide (P1.out.below (w' := w2.alloc (.cells #[.int .i64 1, .int .i64 2, .int .i64 0, .int .i64 255, .bool true] 84)) ((Below.refl _ _).alloc (Nat.le_refl _) _))
  have hslot : (w2.alloc (.cells #[.int .i64 1, .int .i64 2, .int .i64 0, .int .i64 255, .bool true] 84)).cell? ⟨w.heap.size, 1, none⟩ = some .nilIface := by
    rw [P2.out.slot (i := 1) (by omega), upd_ne _ _ (by omega), obV_kind rfl]
  have PP := pput_thread _ w.heap.size w2.heap.size 1 2 0 .nilIface (by omega) P2.out.lt BT.lt (by omega) ((BT.cell 0).trans rfl) ((BT.cell 1).trans rfl) ((BT.cell 2).trans rfl) hslot (P2.out.frozen 1)
  refine PP.mono ?_
  clear PP hslot
  rintro e w4 ⟨rfl, w3, hb3, rfl⟩
  have hfoot : ¬ Foot w.heap.size (upd (fun _ => zeroTh) 0 rootTh) (upd (fun _ => 0) 0 (w.heap.size + 1)) (fun _ => none) w2.heap.size := by
    rintro (h | ⟨i, _, hk, ho⟩ | ⟨q, _, hq⟩)
    · omega
    · by_cases e : i = 0
      · subst e; rw [upd_same] at ho; omega
      · rw [upd_ne _ _ e] at hk; exact hk rfl
    · cases hq
  have P3 := hide ((P2.out.below hb3).putNew (s := 1) (g := w2.heap.size) (by omega) (by rw [upd_ne _ _ (by omega)]; rfl) firstTh [] (BT.below hb3 BT.lt) hfoot (Or.inr (Or.inl rfl)) firstTh_wf (by intro h; simp [firstTh] at h))
  have F3 : Hid (Below w.heap.size w (w3.setCell ⟨w.heap.size, 1, none⟩ (obV firstTh w2.heap.size))) := ((F1.out.alloc F1.out.size _).trans (hb3.mono (by simp; omega))).setCell (Nat.le_refl _) _
  have eo : obV firstTh w2.heap.size = .iface 75 (.pointer (some ⟨w2.heap.size, 0, none⟩)) := by simp [obV, firstTh]
  rw [eo] at P3 F3
  generalize hg : w2.heap.size = g at *
  clear P2 BT hb3 eo hfoot hg P1 F1
  generalize w3.setCell ⟨w.heap.size, 1, none⟩ (.iface 75 (.pointer (some ⟨g, 0, none⟩))) = w4 at *
  go_wp2_with fail
  go_loopw [21] (fun q w' => ∃ k : Nat, k ≤ 8 ∧ q = .int .i64 k ∧ PK w' w.heap.size bootS (fun _ => []) (lqTo k) 0 (upd (upd (fun _ => 0) 0 (w.heap.size + 1)) 1 g) (qpTo g k) ∧ Below w.heap.size w w') (fun q _ => 8 - (intOf q).toNat)
  case atStart =>
    refine ⟨0, by omega, rfl, pk_congr P3.out rfl ?_ ?_ rfl ?_, F3.out⟩
    · funext i; unfold upd; split <;> (try split) <;> rfl
    · funext i; rfl
    · funext i; rfl
  case round =>
    obtain ⟨k, hk, rfl, hp, hb⟩ := hrel
    by_cases hk8 : k < 8
    · have hq := hp.quant hk8
      have hfr := hp.frozen (32 + k)
      have hk8i : (k : Int) < 8 := by omega
      have H1 := hide (hp.putQuant (q := k) (s := 1) hk8 (by omega) rfl)
      have HB := hide hb
      clear hp hb
      go_wp2_with fail
      refine ⟨⟨k + 1, by omega, by go_num, ?_, HB.out.setCell (by simp) _⟩, by simp [intOf]; omega⟩
      rw [← lqTo_succ, ← qpTo_succ]
      exact H1.out
    · have : k = 8 := by omega
      subst this
      have HP := hide hp
      have HB := hide hb
      clear hp hb
      go_wp2_with fail
      go_ret
      refine ⟨rfl, ⟨_, _, HP.out, ?_⟩, HB.out⟩
      rintro x (h | ⟨i, _, hk, ho⟩ | ⟨q, hq, ho⟩)
      · omega
      · by_cases e : i = 1
        · subst e; rw [upd_same] at ho; omega
        · rw [upd_ne _ _ e] at ho
          by_cases e0 : i = 0
          · subst e0; rw [upd_same] at ho; omega
          · exfalso
            unfold bootS at hk
            rw [upd_ne _ _ e, upd_ne _ _ e0] at hk
            exact hk rfl
      · unfold qpTo at ho
        rw [if_pos hq] at ho
        injection ho with ho
        omega

end Go.Proofs.Ytflniddofmnkaaa
