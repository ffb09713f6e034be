/- What the program's 'Now', 'Tick' do. -/
import Derived.Test.YtflniddofmnkaaaPPut
import Derived.Test.YtflniddofmnkaaaRefTrap
open Go Go.Proofs Go.RowKit
namespace Go.Proofs.Ytflniddofmnkaaa

section
variable {w : World} {kb : Nat} {S : Nat → Th} {ws : Nat → List Int} {lq : Nat → Option Nat} {ph : Nat} {ob : Nat → Nat} {qp : Nat → Option Nat}

theorem ptick_any (h : PK w kb S ws lq ph ob qp) :
    Calls Try.prog 15 #[.pointer (some ⟨kb, 0, none⟩)] w fun e w' => e = .returned (.tuple #[]) ∧ PK w' kb S ws lq ((ph + 1) % 8) ob qp ∧ Fr (fun k => k = kb) w w' := by
  have p0 := h.phase
  have f0 := h.frozen 40
  have hp8 : (ph : Int) < 8 := by have := h.ph8; omega
  have H := hide h
  clear h
  go_enter Try.func15, Try.ntmps15
  go_wp2
  go_end0
  have e1 : ((ph : Int) + 1) % 8 = (((ph + 1) % 8 : Nat) : Int) := by omega
  rw [e1]
  exact ⟨rfl, H.out.putPhase (by omega), Fr.own _ _ _ _⟩

set_option maxHeartbeats 2000000 in
theorem pnow_yes (h : PK w kb S ws lq ph ob qp) {me : Nat} (hc : curP S lq ph = some me) :
    Calls Try.prog 18 #[.pointer (some ⟨kb, 0, none⟩)] w fun e w' => e = .returned (nowV ph me (S me).label) ∧ Below w.heap.size w w' := by
  have hl := h.live h.ph8 (by
    unfold curP at hc
    split at hc
    · cases hc
    · split at hc
      · injection hc with hc; subst hc; assumption
      · cases hc)
  obtain ⟨hm, hk, -⟩ := hl
  have CU := fun w' hb => pcurrent_yes (h.below (w' := w') hb) hc
  have HCU := hide CU
  have HK : Hid (∀ w', Below w.heap.size w w' → w'.cell? ⟨kb, 40, none⟩ = some (.int .i64 ph) ∧ w'.cell? ⟨ob me, 0, none⟩ = some (.int .i64 me) ∧ w'.cell? ⟨ob me, 1, none⟩ = some (.int .i64 (S me).kind) ∧ w'.cell? ⟨ob me, 2, none⟩ = some (.int .i64 (S me).label)) := fun w' hb =>
    ⟨(h.below hb).phase, (h.below hb).base hm (by omega)⟩
  clear h hc CU hk
  go_enter Try.func18, Try.ntmps18
  go_wp2_with fail
  refine (HCU.out _ ((Below.refl _ _).alloc (Nat.le_refl _) _)).mono ?_
  rintro e w1 ⟨rfl, hb⟩
  have B1 := hide (Blk.zero3 hb)
  have HB := hide (Below.first hb)
  have hz1 : w.heap.size < w1.heap.size := by have := hb.size; simp at this; omega
  have HX : Hid (∀ w', Below w1.heap.size w1 w' → w'.cell? ⟨w.heap.size, 0, none⟩ = some (.int .i64 0) ∧ w'.cell? ⟨w.heap.size, 1, none⟩ = some (.int .i64 0) ∧ w'.cell? ⟨w.heap.size, 2, none⟩ = some (.int .i64 0) ∧ w'.frozen? ⟨w.heap.size, 0, none⟩ = false ∧ w'.frozen? ⟨w.heap.size, 1, none⟩ = false ∧ w'.frozen? ⟨w.heap.size, 2, none⟩ = false) := fun w' hb' => by
    have hB := Blk.below B1.out hb' hz1
    exact ⟨by rw [hB.cell]; rfl, by rw [hB.cell]; rfl, by rw [hB.cell]; rfl, hB.frozen 0, hB.frozen 1, hB.frozen 2⟩
  clear hb
  go_wp2_with fail
  go_region_held3 (fun w' => w'.cell? ⟨kb, 40, none⟩ = some (.int .i64 ph) ∧ w'.cell? ⟨ob me, 0, none⟩ = some (.int .i64 me) ∧ w'.cell? ⟨ob me, 1, none⟩ = some (.int .i64 (S me).kind) ∧ w'.cell? ⟨ob me, 2, none⟩ = some (.int .i64 (S me).label))
    ((refine HK.out _ ?_; repeat (first | exact HB.out | refine Below.drew ?_ | refine Below.setCell ?_ (by exact Nat.le_refl _) _ | (apply below_next; assumption))))
    (first | (go_at_call 29; refine (place_any _ _ _ _).mono ?_; rintro e w2 ⟨rfl, hb2⟩; have hx := HX.out w2 (by repeat (first | exact Below.refl _ _ | refine Below.drew ?_ | (apply below_next; assumption))); obtain ⟨x0, x1, x2, y0, y1, y2⟩ := hx) | (go_at_call 30; refine (labelOf_any _ _ _ _).mono ?_; rintro e w2 ⟨rfl, hb3⟩; have hx := HX.out w2 (by repeat (first | exact Below.refl _ _ | refine Below.drew ?_ | (apply below_next; assumption))); obtain ⟨x0, x1, x2, y0, y1, y2⟩ := hx))
  all_goals
    go_wp2_with fail
    refine bodyPost_ret (v := .agg #[.int .i64 ph, .int .i64 me, .int .i64 (S me).label]) (by simp [results, Try.results18, go_sem, *]) rfl ⟨rfl, ?_⟩
    repeat (first | exact HB.out | refine Below.drew ?_ | refine Below.setCell ?_ (by exact Nat.le_refl _) _ | (apply below_next; assumption))
end

end Go.Proofs.Ytflniddofmnkaaa
