/- What the reference's 'Trap' does: what is wrong ahead of the trap itself. -/
import Derived.Test.YtflniddofmnkaaaRefShape
import Derived.Test.YtflniddofmnkaaaRefMay
import Derived.Test.YtflniddofmnkaaaRefNow
import Derived.Test.YtflniddofmnkaaaRefFirst2
import Derived.Test.YtflniddofmnkaaaRefFirst3
open Go Go.Proofs Go.RowKit
namespace Go.Proofs.Ytflniddofmnkaaa

/-- What a trap tells. -/
def outV (e v : Int) (u : Nat) : Value := .agg #[.int .i64 e, .int .i64 v, .int .i64 u]

/-- The result's cell behind what stood ahead of it. -/
theorem Below.first {w w1 : World} {o : Obj} (hb : Below (w.alloc o).heap.size (w.alloc o) w1) : Below w.heap.size w w1 :=
  Below.trans ((Below.refl w.heap.size w).alloc (Nat.le_refl _) o) (hb.mono (by simp))

theorem Blk.zero3 {w w1 : World} {cs : Array Value} {T : TypeId} (hb : Below (w.alloc (.cells cs T)).heap.size (w.alloc (.cells cs T)) w1) : Blk w1 w.heap.size cs :=
  Blk.below (Blk.new w cs T) hb (by simp)

set_option maxHeartbeats 1000000 in
theorem rtrap_idle (w : World) (b : Nat) (r : RSt) (n : Int) (l : Value) (hr : RK w b r) (hq : r.wq) (hc : curF r = none) :
    Calls Try.prog 42 #[.pointer (some ⟨b, 0, none⟩), .int .i64 n, l] w fun e w' => e = .returned (outV 1 0 0) ∧ Below w.heap.size w w' := by
  have hlt := hr.lt
  have HR := hide hr
  have HQ := hide hq
  have HC := hide hc
  clear hr hq hc
  go_enter Try.func42, Try.ntmps42
  go_wp2_with fail
  refine (current_any _ _ _ (HR.out.alloc _) HQ.out).mono ?_
  rintro e w1 ⟨rfl, hb⟩
  rw [HC.out, oi]
  have B1 := hide (Blk.zero3 hb)
  have HB := hide (Below.first hb)
  have x0 : w1.cell? ⟨w.heap.size, 0, none⟩ = some (.int .i64 0) := by rw [Blk.cell B1.out]; rfl
  have x1 : w1.cell? ⟨w.heap.size, 1, none⟩ = some (.int .i64 0) := by rw [Blk.cell B1.out]; rfl
  have x2 : w1.cell? ⟨w.heap.size, 2, none⟩ = some (.int .i64 0) := by rw [Blk.cell B1.out]; rfl
  have y0 := Blk.frozen B1.out 0
  have y1 := Blk.frozen B1.out 1
  have y2 := Blk.frozen B1.out 2
  clear hb
  go_wp2_with fail
  refine bodyPost_ret (v := .agg #[.int .i64 1, .int .i64 0, .int .i64 0]) (by simp [results, Try.results42, go_sem, x0, x1, x2]) rfl ⟨rfl, ?_⟩
  exact ((HB.out.setCell (by simp) _).setCell (by simp) _).setCell (by simp) _

set_option maxHeartbeats 1000000 in
theorem rtrap_bad (w : World) (b : Nat) (r : RSt) (n : Int) (la : Option Addr) (ln cap : Nat) (s : Nat) (hr : RK w b r) (hq : r.wq) (hc : curF r = some s) (hn : n < 1 ∨ 17 ≤ n ∨ (shapeL n).length ≠ ln) :
    Calls Try.prog 42 #[.pointer (some ⟨b, 0, none⟩), .int .i64 n, .slice la ln cap] w fun e w' => e = .returned (outV 2 0 0) ∧ Below w.heap.size w w' := by
  have hlt := hr.lt
  have HR := hide hr
  have HQ := hide hq
  have HC := hide hc
  have hs0 : ¬ (s : Int) < 0 := by omega
  have HN := hide hn
  clear hr hq hc hn
  go_enter Try.func42, Try.ntmps42
  go_wp2_with fail
  refine (current_any _ _ _ (HR.out.alloc _) HQ.out).mono ?_
  rintro e w1 ⟨rfl, hb⟩
  rw [HC.out, oi]
  have B1 := hide (Blk.zero3 hb)
  have HB := hide (Below.first hb)
  have hz1 : w.heap.size + 1 ≤ w1.heap.size := by have := hb.size; simp at this; omega
  clear hb
  go_wp2_with fail
  by_cases hv : n < 1 ∨ 17 ≤ n
  · refine (shape_not _ _ hv).mono ?_
    rintro e w2 ⟨rfl, hb2⟩
    have B2 := hide (Blk.below B1.out hb2 (by omega))
    have HB2 := hide (HB.out.trans (hb2.mono (by omega)))
    have x0 : w2.cell? ⟨w.heap.size, 0, none⟩ = some (.int .i64 0) := by rw [Blk.cell B2.out]; rfl
    have x1 : w2.cell? ⟨w.heap.size, 1, none⟩ = some (.int .i64 0) := by rw [Blk.cell B2.out]; rfl
    have x2 : w2.cell? ⟨w.heap.size, 2, none⟩ = some (.int .i64 0) := by rw [Blk.cell B2.out]; rfl
    have y0 := Blk.frozen B2.out 0
    have y1 := Blk.frozen B2.out 1
    have y2 := Blk.frozen B2.out 2
    clear hb2
    go_wp2_with fail
    refine bodyPost_ret (v := .agg #[.int .i64 2, .int .i64 0, .int .i64 0]) (by simp [results, Try.results42, go_sem, x0, x1, x2]) rfl ⟨rfl, ?_⟩
    exact ((HB2.out.setCell (by simp) _).setCell (by simp) _).setCell (by simp) _
  · have hne : (shapeL n).length ≠ ln := by rcases HN.out with h | h | h <;> first | exact h | omega
    refine (shape_yes _ _ (by omega) (by omega)).mono ?_
    rintro e w2 ⟨rfl, hb2⟩
    have B2 := hide (Blk.below B1.out hb2 (by omega))
    have HB2 := hide (HB.out.trans (hb2.mono (by omega)))
    have x0 : w2.cell? ⟨w.heap.size, 0, none⟩ = some (.int .i64 0) := by rw [Blk.cell B2.out]; rfl
    have x1 : w2.cell? ⟨w.heap.size, 1, none⟩ = some (.int .i64 0) := by rw [Blk.cell B2.out]; rfl
    have x2 : w2.cell? ⟨w.heap.size, 2, none⟩ = some (.int .i64 0) := by rw [Blk.cell B2.out]; rfl
    have y0 := Blk.frozen B2.out 0
    have y1 := Blk.frozen B2.out 1
    have y2 := Blk.frozen B2.out 2
    clear hb2 hv
    generalize shapeL n = L at *
    go_wp2_with fail
    refine bodyPost_ret (v := .agg #[.int .i64 2, .int .i64 0, .int .i64 0]) (by simp [results, Try.results42, go_sem, x0, x1, x2]) rfl ⟨rfl, ?_⟩
    exact ((HB2.out.setCell (by simp) _).setCell (by simp) _).setCell (by simp) _

set_option maxHeartbeats 1000000 in
theorem rtrap_arg (w : World) (b : Nat) (r : RSt) (n : Int) (la : Option Addr) (ln cap : Nat) (s : Nat) (hr : RK w b r) (hq : r.wq) (hc : curF r = some s) (h1 : 1 ≤ n) (h2 : n < 17) (hln : (shapeL n).length = ln)
    (hmay : ∀ w2, Below w.heap.size w w2 → Calls Try.prog 54 #[.string ⟨(shapeL n).toArray⟩, .slice la ln cap] w2 fun e w' => e = .returned (.bool false) ∧ ∃ m, w' = w2.drewN m) :
    Calls Try.prog 42 #[.pointer (some ⟨b, 0, none⟩), .int .i64 n, .slice la ln cap] w fun e w' => e = .returned (outV 3 0 0) ∧ Below w.heap.size w w' := by
  have HMAY := hide hmay
  clear hmay
  have hlt := hr.lt
  have HR := hide hr
  have HQ := hide hq
  have HC := hide hc
  have hs0 : ¬ (s : Int) < 0 := by omega
  have HLN := hide hln
  clear hr hq hc hln
  go_enter Try.func42, Try.ntmps42
  go_wp2_with fail
  refine (current_any _ _ _ (HR.out.alloc _) HQ.out).mono ?_
  rintro e w1 ⟨rfl, hb⟩
  rw [HC.out, oi]
  have B1 := hide (Blk.zero3 hb)
  have HB := hide (Below.first hb)
  have hz1 : w.heap.size + 1 ≤ w1.heap.size := by have := hb.size; simp at this; omega
  have HR1 := hide ((HR.out.alloc _).below hb (by simp; omega))
  clear hb
  go_wp2_with fail
  refine (shape_yes _ _ h1 h2).mono ?_
  rintro e w2 ⟨rfl, hb2⟩
  have B2 := hide (Blk.below B1.out hb2 (by omega))
  have HB2 := hide (HB.out.trans (hb2.mono (by omega)))
  have HR2 := hide (HR1.out.below hb2 (by have := HR1.out.lt; omega))
  have hz2 : w.heap.size + 1 ≤ w2.heap.size := by have := hb2.size; omega
  clear hb2 B1 HB HR1
  generalize hL : shapeL n = L at *
  have HL := hide hL
  clear hL
  have hll : L.length = ln := HLN.out
  clear HLN
  go_wp2_with fail
  refine (HMAY.out _ HB2.out).mono ?_
  rintro e w3 ⟨rfl, m, rfl⟩
  have x0 : (w2.drewN m).cell? ⟨w.heap.size, 0, none⟩ = some (.int .i64 0) := by rw [Blk.cell (B2.out.drewN m)]; rfl
  have x1 : (w2.drewN m).cell? ⟨w.heap.size, 1, none⟩ = some (.int .i64 0) := by rw [Blk.cell (B2.out.drewN m)]; rfl
  have x2 : (w2.drewN m).cell? ⟨w.heap.size, 2, none⟩ = some (.int .i64 0) := by rw [Blk.cell (B2.out.drewN m)]; rfl
  have y0 := Blk.frozen (B2.out.drewN m) 0
  have y1 := Blk.frozen (B2.out.drewN m) 1
  have y2 := Blk.frozen (B2.out.drewN m) 2
  have HB3 := hide (below_drewN HB2.out m)
  generalize w2.drewN m = w3 at *
  go_wp2_with fail
  refine bodyPost_ret (v := .agg #[.int .i64 3, .int .i64 0, .int .i64 0]) (by simp [results, Try.results42, go_sem, x0, x1, x2]) rfl ⟨rfl, ?_⟩
  exact ((HB3.out.setCell (by simp) _).setCell (by simp) _).setCell (by simp) _

set_option maxHeartbeats 2000000 in
theorem rtrap_first (w : World) (b : Nat) (r : RSt) (n : Int) (la : Option Addr) (ln cap : Nat) (s : Nat) (F : Nat → Prop) (R : World → Int → Nat × Int → Prop) (hr : RK w b r) (hq : r.wq) (hwf : r.wf) (hc : curF r = some s) (h1 : 1 ≤ n) (h6 : n ≤ 6) (h2 : n < 17) (hln : (shapeL n).length = ln)
    (hmay : ∀ w2, Below w.heap.size w w2 → Calls Try.prog 54 #[.string ⟨(shapeL n).toArray⟩, .slice la ln cap] w2 fun e w' => e = .returned (.bool true) ∧ ∃ m, w' = w2.drewN m)
    (hin : ∀ w1 ab, AK w1 ab b (r.S s).label (r.S s).owns (0, 0) r → Below w.heap.size w w1 → w.heap.size < ab → Calls Try.prog 55 #[.pointer (some ⟨ab, 0, none⟩), .int .i64 n, .int .i64 s, .slice la ln cap] w1 fun e w' =>
      ∃ v p, e = .returned (.int .i64 v) ∧ AskAt w' ab b (r.S s).label (r.S s).owns p ∧ R w' v p ∧ Fr (fun k => k = ab ∨ F k) w1 w')
    (hF : ¬ F w.heap.size)
    (hst : ∀ w' w'' v p, R w' v p → Fr (fun k => k = w.heap.size) w' w'' → R w'' v p) :
    Calls Try.prog 42 #[.pointer (some ⟨b, 0, none⟩), .int .i64 n, .slice la ln cap] w fun e w' => ∃ v p, e = .returned (outV p.2 (if p.2 = 0 then v else 0) p.1) ∧ R w' v p ∧ Fr F w w' := by
  have HMAY := hide hmay
  have HIN := hide hin
  have HST := hide hst
  have HWF := hide hwf
  have HF := hide hF
  have hs := curF_lt hq hc
  have hsi : (s : Int) < 32 := by omega
  clear hmay hin hst hwf hF
  have hlt := hr.lt
  have HR := hide hr
  have HQ := hide hq
  have HC := hide hc
  have hs0 : ¬ (s : Int) < 0 := by omega
  have HLN := hide hln
  clear hr hq hc hln
  go_enter Try.func42, Try.ntmps42
  go_wp2_with fail
  refine (current_any _ _ _ (HR.out.alloc _) HQ.out).mono ?_
  rintro e w1 ⟨rfl, hb⟩
  rw [HC.out, oi]
  have B1 := hide (Blk.zero3 hb)
  have HB := hide (Below.first hb)
  have hz1 : w.heap.size + 1 ≤ w1.heap.size := by have := hb.size; simp at this; omega
  have HR1 := hide ((HR.out.alloc _).below hb (by simp; omega))
  clear hb
  go_wp2_with fail
  refine (shape_yes _ _ h1 h2).mono ?_
  rintro e w2 ⟨rfl, hb2⟩
  have B2 := hide (Blk.below B1.out hb2 (by omega))
  have HB2 := hide (HB.out.trans (hb2.mono (by omega)))
  have HR2 := hide (HR1.out.below hb2 (by have := HR1.out.lt; omega))
  have hz2 : w.heap.size + 1 ≤ w2.heap.size := by have := hb2.size; omega
  clear hb2 B1 HB HR1
  generalize hL : shapeL n = L at *
  have HL := hide hL
  clear hL
  have hll : L.length = ln := HLN.out
  clear HLN
  go_wp2_with fail
  refine (HMAY.out _ HB2.out).mono ?_
  rintro e w3 ⟨rfl, m, rfl⟩
  have B3 := hide (B2.out.drewN m)
  have HB3 := hide (below_drewN HB2.out m)
  have HR3 := hide (HR2.out.drewN m)
  have hz3 : w.heap.size + 1 ≤ (w2.drewN m).heap.size := hz2
  generalize w2.drewN m = w3 at *
  clear B2 HB2 HR2 hz2
  obtain ⟨-, k1, -, -, k4, -⟩ := HR3.out.things hs
  go_wp2_with fail
  go_region
  go_wp2_with fail
  have A3 : AK ((w3.alloc (.cells #[.pointer (some ⟨b, 0, none⟩), .int .i64 (r.S s).label, .int .i64 (r.S s).owns, .int .i64 0, .int .i64 0] 127)).drew) w3.heap.size b (r.S s).label (r.S s).owns (0, 0) r := ⟨(Blk.new w3 _ _).drew, (HR3.out.alloc _).drew, by have := HR3.out.lt; omega, wf_label HWF.out hs, (HWF.out s hs).2.2.2.2.2, by simp, HWF.out⟩
  refine (HIN.out _ _ A3 (by have := HB3.out.size; exact ((HB3.out.alloc this _).drew)) (by omega)).mono ?_
  rintro e w4 ⟨v, p, rfl, a4, r4, f4⟩
  have B4 : Blk w4 w.heap.size _ := Blk.fr ((B3.out.alloc _).drew) f4 (by rintro (h | h); omega; exact HF.out h)
  have x0 : w4.cell? ⟨w.heap.size, 0, none⟩ = some (.int .i64 0) := by rw [Blk.cell B4]; rfl
  have x1 : w4.cell? ⟨w.heap.size, 1, none⟩ = some (.int .i64 0) := by rw [Blk.cell B4]; rfl
  have x2 : w4.cell? ⟨w.heap.size, 2, none⟩ = some (.int .i64 0) := by rw [Blk.cell B4]; rfl
  have y0 := Blk.frozen B4 0
  have y1 := Blk.frozen B4 1
  have y2 := Blk.frozen B4 2
  obtain ⟨q0, q1, q2, q3, q4, -⟩ := AskAt.cells a4
  have hne : ¬ w3.heap.size = w.heap.size := by omega
  have F0 : Fr F w w4 := Fr.trans' (S' := fun k => k = w3.heap.size ∨ F k) (Fr.of_below ((HB3.out.alloc HB3.out.size _).drew)) f4 (by rintro i hi (h | h); have := HB3.out.size; omega; exact h)
  have R4 := hide r4
  have F4 := hide F0
  clear a4 r4 f4 F0 B4 A3
  by_cases hp : p.2 = 0
  · rw [hp] at q4
    go_wp2_with fail
    go_region
    go_wp2_with fail
    refine bodyPost_ret (v := .agg #[.int .i64 0, .int .i64 v, .int .i64 p.1]) (by simp [results, Try.results42, go_sem, x0, x1, x2]) rfl ⟨v, p, by rw [hp]; rfl, ?_, ?_⟩
    · exact HST.out _ _ _ _ R4.out ((((Fr.own _ _ _ _).trans (Fr.own _ _ _ _)).trans (Fr.own _ _ _ _)).drew)
    · exact (((F4.out.setCell (Or.inr (Nat.le_refl _)) _).setCell (Or.inr (Nat.le_refl _)) _).setCell (Or.inr (Nat.le_refl _)) _).drew
  · go_wp2_with fail
    go_region
    go_wp2_with fail
    refine bodyPost_ret (v := .agg #[.int .i64 p.2, .int .i64 0, .int .i64 p.1]) (by simp [results, Try.results42, go_sem, x0, x1, x2]) rfl ⟨v, p, by rw [if_neg hp]; rfl, ?_, ?_⟩
    · exact HST.out _ _ _ _ R4.out ((((Fr.own _ _ _ _).trans (Fr.own _ _ _ _)).trans (Fr.own _ _ _ _)).drew)
    · exact (((F4.out.setCell (Or.inr (Nat.le_refl _)) _).setCell (Or.inr (Nat.le_refl _)) _).setCell (Or.inr (Nat.le_refl _)) _).drew

end Go.Proofs.Ytflniddofmnkaaa
