/- What the program's 'mayRead' and 'mayWrite' do. -/
import Derived.Test.YtflniddofmnkaaaPReq
import Derived.Deep.RegionHeld3
open Go Go.Proofs Go.RowKit
namespace Go.Proofs.Ytflniddofmnkaaa

theorem below_next {w W w1 : World} (h1 : Below W.heap.size W w1) (h0 : Below w.heap.size w W) : Below w.heap.size w w1 := h0.trans (h1.mono h0.size)

set_option maxHeartbeats 2000000 in
theorem mayRead_container {w : World} {rb kb : Nat} {S : Nat → Th} {ws : Nat → List Int} {lq : Nat → Option Nat} {ph : Nat} {ob : Nat → Nat} {qp : Nat → Option Nat} {me u : Nat} (h : QK w rb kb S ws lq ph ob qp me u) (i : Nat) (hi : i < 32) (hk : (S i).kind = 1) :
    Calls Try.prog 62 #[.pointer (some ⟨rb, 0, none⟩), .iface 116 (.pointer (some ⟨ob i, 0, none⟩))] w fun e w' => e = .returned (.int .i64 (chk (S me).owns (S i).label (S me).label (u, 0)).2) ∧ QK w' rb kb S ws lq ph ob qp me (chk (S me).owns (S i).label (S me).label (u, 0)).1 ∧ Fr (fun k => k = rb) w w' := by
  have HK : Hid (∀ w' u', QK w' rb kb S ws lq ph ob qp me u' → w'.cell? ⟨rb, 1, none⟩ = some (.pointer (some ⟨ob me, 0, none⟩)) ∧ w'.cell? ⟨ob me, 0, none⟩ = some (.int .i64 me) ∧ w'.cell? ⟨ob me, 1, none⟩ = some (.int .i64 (S me).kind) ∧ w'.cell? ⟨ob me, 2, none⟩ = some (.int .i64 (S me).label) ∧
      (method 270 116 (.pointer (some ⟨ob i, 0, none⟩)) "cloister/cloister.labelOf").run Try.prog w' = .ok (30, .agg #[.int .i64 i, .int .i64 (S i).kind, .int .i64 (S i).label]) w') := fun w' u' h' => by
    obtain ⟨_, c1, _, _⟩ := h'.cells
    obtain ⟨b0, b1, b2⟩ := h'.pk.base hi (by omega)
    obtain ⟨d0, d1, d2⟩ := h'.pk.base h'.me32 (by have := h'.mek; omega)
    exact ⟨c1, d0, d1, d2, method_labelOf_container w' _ _ _ _ b0 b1 b2⟩
  have HLi := hide (h.pk.wf i hi).2.2.2.2.1
  have HLm := hide h.label
  have H := hide h
  clear h hk
  go_enter Try.func62, Try.ntmps62
  go_wp2_with fail
  go_region_held3 (fun w' => w'.cell? ⟨rb, 1, none⟩ = some (.pointer (some ⟨ob me, 0, none⟩)) ∧ w'.cell? ⟨ob me, 0, none⟩ = some (.int .i64 me) ∧ w'.cell? ⟨ob me, 1, none⟩ = some (.int .i64 (S me).kind) ∧ w'.cell? ⟨ob me, 2, none⟩ = some (.int .i64 (S me).label) ∧
      (method 270 116 (.pointer (some ⟨ob i, 0, none⟩)) "cloister/cloister.labelOf").run Try.prog w' = .ok (30, .agg #[.int .i64 i, .int .i64 (S i).kind, .int .i64 (S i).label]) w')
    (first | (apply HK.out; assumption) | (refine HK.out _ _ (H.out.below ?_); refine Below.drew ?_; exact Below.refl _ _) | (refine HK.out _ _ (H.out.below ?_); refine below_next ?_ (Below.drew (Below.refl _ _)); assumption) | (refine HK.out _ _ (H.out.below ?_); apply below_next; assumption; apply below_next; assumption; exact Below.drew (Below.refl _ _)))
    (first | (go_at_call 30; refine (labelOf_any _ _ _ _).mono ?_; rintro e w1 ⟨rfl, hb1⟩) | (go_at_call 81; refine Calls.mono (fits_any (H.out.below ?_) _ _ HLi.out HLm.out) ?_; apply below_next; assumption; apply below_next; assumption; exact Below.drew (Below.refl _ _); rintro e w2 ⟨rfl, h2, g2⟩))
  all_goals
    go_wp2_with fail
    go_ret
    refine ⟨rfl, h2, Fr.trans (Fr.of_below ?_) g2⟩
    apply below_next
    assumption
    apply below_next
    assumption
    exact Below.drew (Below.refl _ _)

set_option maxHeartbeats 2000000 in
theorem mayWrite_container {w : World} {rb kb : Nat} {S : Nat → Th} {ws : Nat → List Int} {lq : Nat → Option Nat} {ph : Nat} {ob : Nat → Nat} {qp : Nat → Option Nat} {me u : Nat} (h : QK w rb kb S ws lq ph ob qp me u) (i : Nat) (hi : i < 32) (hk : (S i).kind = 1) :
    Calls Try.prog 63 #[.pointer (some ⟨rb, 0, none⟩), .iface 116 (.pointer (some ⟨ob i, 0, none⟩))] w fun e w' => e = .returned (.int .i64 (chk (S me).owns (S me).label (S i).label (u, 0)).2) ∧ QK w' rb kb S ws lq ph ob qp me (chk (S me).owns (S me).label (S i).label (u, 0)).1 ∧ Fr (fun k => k = rb) w w' := by
  have HK : Hid (∀ w' u', QK w' rb kb S ws lq ph ob qp me u' → w'.cell? ⟨rb, 1, none⟩ = some (.pointer (some ⟨ob me, 0, none⟩)) ∧ w'.cell? ⟨ob me, 0, none⟩ = some (.int .i64 me) ∧ w'.cell? ⟨ob me, 1, none⟩ = some (.int .i64 (S me).kind) ∧ w'.cell? ⟨ob me, 2, none⟩ = some (.int .i64 (S me).label) ∧
      (method 270 116 (.pointer (some ⟨ob i, 0, none⟩)) "cloister/cloister.labelOf").run Try.prog w' = .ok (30, .agg #[.int .i64 i, .int .i64 (S i).kind, .int .i64 (S i).label]) w') := fun w' u' h' => by
    obtain ⟨_, c1, _, _⟩ := h'.cells
    obtain ⟨b0, b1, b2⟩ := h'.pk.base hi (by omega)
    obtain ⟨d0, d1, d2⟩ := h'.pk.base h'.me32 (by have := h'.mek; omega)
    exact ⟨c1, d0, d1, d2, method_labelOf_container w' _ _ _ _ b0 b1 b2⟩
  have HLi := hide (h.pk.wf i hi).2.2.2.2.1
  have HLm := hide h.label
  have H := hide h
  clear h hk
  obtain ⟨_, c1, _, _⟩ := H.out.cells
  obtain ⟨d0, d1, d2⟩ := H.out.pk.base H.out.me32 (by have := H.out.mek; omega)
  go_enter Try.func63, Try.ntmps63
  go_wp2_with fail
  refine (labelOf_any _ _ _ _).mono ?_
  rintro e w1 ⟨rfl, hb1⟩
  have H1 := hide (H.out.below hb1)
  obtain ⟨-, -, -, -, mm⟩ := HK.out _ _ H1.out
  have HB1 := hide hb1
  clear hb1 c1 d0 d1 d2
  go_wp2_with fail
  refine (labelOf_any _ _ _ _).mono ?_
  rintro e w2 ⟨rfl, hb2⟩
  have H2 := hide (H1.out.below hb2)
  have HB2 := hide (below_next hb2 HB1.out)
  clear hb2 mm
  go_wp2_with fail
  refine (fits_any H2.out _ _ HLm.out HLi.out).mono ?_
  rintro e w3 ⟨rfl, h3, g3⟩
  go_wp2_with fail
  go_ret
  exact ⟨rfl, h3, Fr.trans (Fr.of_below HB2.out) g3⟩

set_option maxHeartbeats 2000000 in
theorem mayRead_thread {w : World} {rb kb : Nat} {S : Nat → Th} {ws : Nat → List Int} {lq : Nat → Option Nat} {ph : Nat} {ob : Nat → Nat} {qp : Nat → Option Nat} {me u : Nat} (h : QK w rb kb S ws lq ph ob qp me u) (i : Nat) (hi : i < 32) (hk : (S i).kind = 2) :
    Calls Try.prog 62 #[.pointer (some ⟨rb, 0, none⟩), .iface 75 (.pointer (some ⟨ob i, 0, none⟩))] w fun e w' => e = .returned (.int .i64 (chk (S me).owns (S i).label (S me).label (u, 0)).2) ∧ QK w' rb kb S ws lq ph ob qp me (chk (S me).owns (S i).label (S me).label (u, 0)).1 ∧ Fr (fun k => k = rb) w w' := by
  have HK : Hid (∀ w' u', QK w' rb kb S ws lq ph ob qp me u' → w'.cell? ⟨rb, 1, none⟩ = some (.pointer (some ⟨ob me, 0, none⟩)) ∧ w'.cell? ⟨ob me, 0, none⟩ = some (.int .i64 me) ∧ w'.cell? ⟨ob me, 1, none⟩ = some (.int .i64 (S me).kind) ∧ w'.cell? ⟨ob me, 2, none⟩ = some (.int .i64 (S me).label) ∧
      (method 270 75 (.pointer (some ⟨ob i, 0, none⟩)) "cloister/cloister.labelOf").run Try.prog w' = .ok (30, .agg #[.int .i64 i, .int .i64 (S i).kind, .int .i64 (S i).label]) w') := fun w' u' h' => by
    obtain ⟨_, c1, _, _⟩ := h'.cells
    obtain ⟨b0, b1, b2⟩ := h'.pk.base hi (by omega)
    obtain ⟨d0, d1, d2⟩ := h'.pk.base h'.me32 (by have := h'.mek; omega)
    exact ⟨c1, d0, d1, d2, method_labelOf_thread w' _ _ _ _ b0 b1 b2⟩
  have HLi := hide (h.pk.wf i hi).2.2.2.2.1
  have HLm := hide h.label
  have H := hide h
  clear h hk
  go_enter Try.func62, Try.ntmps62
  go_wp2_with fail
  go_region_held3 (fun w' => w'.cell? ⟨rb, 1, none⟩ = some (.pointer (some ⟨ob me, 0, none⟩)) ∧ w'.cell? ⟨ob me, 0, none⟩ = some (.int .i64 me) ∧ w'.cell? ⟨ob me, 1, none⟩ = some (.int .i64 (S me).kind) ∧ w'.cell? ⟨ob me, 2, none⟩ = some (.int .i64 (S me).label) ∧
      (method 270 75 (.pointer (some ⟨ob i, 0, none⟩)) "cloister/cloister.labelOf").run Try.prog w' = .ok (30, .agg #[.int .i64 i, .int .i64 (S i).kind, .int .i64 (S i).label]) w')
    (first | (apply HK.out; assumption) | (refine HK.out _ _ (H.out.below ?_); refine Below.drew ?_; exact Below.refl _ _) | (refine HK.out _ _ (H.out.below ?_); refine below_next ?_ (Below.drew (Below.refl _ _)); assumption) | (refine HK.out _ _ (H.out.below ?_); apply below_next; assumption; apply below_next; assumption; exact Below.drew (Below.refl _ _)))
    (first | (go_at_call 30; refine (labelOf_any _ _ _ _).mono ?_; rintro e w1 ⟨rfl, hb1⟩) | (go_at_call 81; refine Calls.mono (fits_any (H.out.below ?_) _ _ HLi.out HLm.out) ?_; apply below_next; assumption; apply below_next; assumption; exact Below.drew (Below.refl _ _); rintro e w2 ⟨rfl, h2, g2⟩))
  all_goals
    go_wp2_with fail
    go_ret
    refine ⟨rfl, h2, Fr.trans (Fr.of_below ?_) g2⟩
    apply below_next
    assumption
    apply below_next
    assumption
    exact Below.drew (Below.refl _ _)

set_option maxHeartbeats 2000000 in
theorem mayWrite_thread {w : World} {rb kb : Nat} {S : Nat → Th} {ws : Nat → List Int} {lq : Nat → Option Nat} {ph : Nat} {ob : Nat → Nat} {qp : Nat → Option Nat} {me u : Nat} (h : QK w rb kb S ws lq ph ob qp me u) (i : Nat) (hi : i < 32) (hk : (S i).kind = 2) :
    Calls Try.prog 63 #[.pointer (some ⟨rb, 0, none⟩), .iface 75 (.pointer (some ⟨ob i, 0, none⟩))] w fun e w' => e = .returned (.int .i64 (chk (S me).owns (S me).label (S i).label (u, 0)).2) ∧ QK w' rb kb S ws lq ph ob qp me (chk (S me).owns (S me).label (S i).label (u, 0)).1 ∧ Fr (fun k => k = rb) w w' := by
  have HK : Hid (∀ w' u', QK w' rb kb S ws lq ph ob qp me u' → w'.cell? ⟨rb, 1, none⟩ = some (.pointer (some ⟨ob me, 0, none⟩)) ∧ w'.cell? ⟨ob me, 0, none⟩ = some (.int .i64 me) ∧ w'.cell? ⟨ob me, 1, none⟩ = some (.int .i64 (S me).kind) ∧ w'.cell? ⟨ob me, 2, none⟩ = some (.int .i64 (S me).label) ∧
      (method 270 75 (.pointer (some ⟨ob i, 0, none⟩)) "cloister/cloister.labelOf").run Try.prog w' = .ok (30, .agg #[.int .i64 i, .int .i64 (S i).kind, .int .i64 (S i).label]) w') := fun w' u' h' => by
    obtain ⟨_, c1, _, _⟩ := h'.cells
    obtain ⟨b0, b1, b2⟩ := h'.pk.base hi (by omega)
    obtain ⟨d0, d1, d2⟩ := h'.pk.base h'.me32 (by have := h'.mek; omega)
    exact ⟨c1, d0, d1, d2, method_labelOf_thread w' _ _ _ _ b0 b1 b2⟩
  have HLi := hide (h.pk.wf i hi).2.2.2.2.1
  have HLm := hide h.label
  have H := hide h
  clear h hk
  obtain ⟨_, c1, _, _⟩ := H.out.cells
  obtain ⟨d0, d1, d2⟩ := H.out.pk.base H.out.me32 (by have := H.out.mek; omega)
  go_enter Try.func63, Try.ntmps63
  go_wp2_with fail
  refine (labelOf_any _ _ _ _).mono ?_
  rintro e w1 ⟨rfl, hb1⟩
  have H1 := hide (H.out.below hb1)
  obtain ⟨-, -, -, -, mm⟩ := HK.out _ _ H1.out
  have HB1 := hide hb1
  clear hb1 c1 d0 d1 d2
  go_wp2_with fail
  refine (labelOf_any _ _ _ _).mono ?_
  rintro e w2 ⟨rfl, hb2⟩
  have H2 := hide (H1.out.below hb2)
  have HB2 := hide (below_next hb2 HB1.out)
  clear hb2 mm
  go_wp2_with fail
  refine (fits_any H2.out _ _ HLm.out HLi.out).mono ?_
  rintro e w3 ⟨rfl, h3, g3⟩
  go_wp2_with fail
  go_ret
  exact ⟨rfl, h3, Fr.trans (Fr.of_below HB2.out) g3⟩

set_option maxHeartbeats 2000000 in
theorem mayRead_segment {w : World} {rb kb : Nat} {S : Nat → Th} {ws : Nat → List Int} {lq : Nat → Option Nat} {ph : Nat} {ob : Nat → Nat} {qp : Nat → Option Nat} {me u : Nat} (h : QK w rb kb S ws lq ph ob qp me u) (i : Nat) (hi : i < 32) (hk : (S i).kind = 3) :
    Calls Try.prog 62 #[.pointer (some ⟨rb, 0, none⟩), .iface 136 (.pointer (some ⟨ob i, 0, none⟩))] w fun e w' => e = .returned (.int .i64 (chk (S me).owns (S i).label (S me).label (u, 0)).2) ∧ QK w' rb kb S ws lq ph ob qp me (chk (S me).owns (S i).label (S me).label (u, 0)).1 ∧ Fr (fun k => k = rb) w w' := by
  have HK : Hid (∀ w' u', QK w' rb kb S ws lq ph ob qp me u' → w'.cell? ⟨rb, 1, none⟩ = some (.pointer (some ⟨ob me, 0, none⟩)) ∧ w'.cell? ⟨ob me, 0, none⟩ = some (.int .i64 me) ∧ w'.cell? ⟨ob me, 1, none⟩ = some (.int .i64 (S me).kind) ∧ w'.cell? ⟨ob me, 2, none⟩ = some (.int .i64 (S me).label) ∧
      (method 270 136 (.pointer (some ⟨ob i, 0, none⟩)) "cloister/cloister.labelOf").run Try.prog w' = .ok (30, .agg #[.int .i64 i, .int .i64 (S i).kind, .int .i64 (S i).label]) w') := fun w' u' h' => by
    obtain ⟨_, c1, _, _⟩ := h'.cells
    obtain ⟨b0, b1, b2⟩ := h'.pk.base hi (by omega)
    obtain ⟨d0, d1, d2⟩ := h'.pk.base h'.me32 (by have := h'.mek; omega)
    exact ⟨c1, d0, d1, d2, method_labelOf_segment w' _ _ _ _ b0 b1 b2⟩
  have HLi := hide (h.pk.wf i hi).2.2.2.2.1
  have HLm := hide h.label
  have H := hide h
  clear h hk
  go_enter Try.func62, Try.ntmps62
  go_wp2_with fail
  go_region_held3 (fun w' => w'.cell? ⟨rb, 1, none⟩ = some (.pointer (some ⟨ob me, 0, none⟩)) ∧ w'.cell? ⟨ob me, 0, none⟩ = some (.int .i64 me) ∧ w'.cell? ⟨ob me, 1, none⟩ = some (.int .i64 (S me).kind) ∧ w'.cell? ⟨ob me, 2, none⟩ = some (.int .i64 (S me).label) ∧
      (method 270 136 (.pointer (some ⟨ob i, 0, none⟩)) "cloister/cloister.labelOf").run Try.prog w' = .ok (30, .agg #[.int .i64 i, .int .i64 (S i).kind, .int .i64 (S i).label]) w')
    (first | (apply HK.out; assumption) | (refine HK.out _ _ (H.out.below ?_); refine Below.drew ?_; exact Below.refl _ _) | (refine HK.out _ _ (H.out.below ?_); refine below_next ?_ (Below.drew (Below.refl _ _)); assumption) | (refine HK.out _ _ (H.out.below ?_); apply below_next; assumption; apply below_next; assumption; exact Below.drew (Below.refl _ _)))
    (first | (go_at_call 30; refine (labelOf_any _ _ _ _).mono ?_; rintro e w1 ⟨rfl, hb1⟩) | (go_at_call 81; refine Calls.mono (fits_any (H.out.below ?_) _ _ HLi.out HLm.out) ?_; apply below_next; assumption; apply below_next; assumption; exact Below.drew (Below.refl _ _); rintro e w2 ⟨rfl, h2, g2⟩))
  all_goals
    go_wp2_with fail
    go_ret
    refine ⟨rfl, h2, Fr.trans (Fr.of_below ?_) g2⟩
    apply below_next
    assumption
    apply below_next
    assumption
    exact Below.drew (Below.refl _ _)

set_option maxHeartbeats 2000000 in
theorem mayWrite_segment {w : World} {rb kb : Nat} {S : Nat → Th} {ws : Nat → List Int} {lq : Nat → Option Nat} {ph : Nat} {ob : Nat → Nat} {qp : Nat → Option Nat} {me u : Nat} (h : QK w rb kb S ws lq ph ob qp me u) (i : Nat) (hi : i < 32) (hk : (S i).kind = 3) :
    Calls Try.prog 63 #[.pointer (some ⟨rb, 0, none⟩), .iface 136 (.pointer (some ⟨ob i, 0, none⟩))] w fun e w' => e = .returned (.int .i64 (chk (S me).owns (S me).label (S i).label (u, 0)).2) ∧ QK w' rb kb S ws lq ph ob qp me (chk (S me).owns (S me).label (S i).label (u, 0)).1 ∧ Fr (fun k => k = rb) w w' := by
  have HK : Hid (∀ w' u', QK w' rb kb S ws lq ph ob qp me u' → w'.cell? ⟨rb, 1, none⟩ = some (.pointer (some ⟨ob me, 0, none⟩)) ∧ w'.cell? ⟨ob me, 0, none⟩ = some (.int .i64 me) ∧ w'.cell? ⟨ob me, 1, none⟩ = some (.int .i64 (S me).kind) ∧ w'.cell? ⟨ob me, 2, none⟩ = some (.int .i64 (S me).label) ∧
      (method 270 136 (.pointer (some ⟨ob i, 0, none⟩)) "cloister/cloister.labelOf").run Try.prog w' = .ok (30, .agg #[.int .i64 i, .int .i64 (S i).kind, .int .i64 (S i).label]) w') := fun w' u' h' => by
    obtain ⟨_, c1, _, _⟩ := h'.cells
    obtain ⟨b0, b1, b2⟩ := h'.pk.base hi (by omega)
    obtain ⟨d0, d1, d2⟩ := h'.pk.base h'.me32 (by have := h'.mek; omega)
    exact ⟨c1, d0, d1, d2, method_labelOf_segment w' _ _ _ _ b0 b1 b2⟩
  have HLi := hide (h.pk.wf i hi).2.2.2.2.1
  have HLm := hide h.label
  have H := hide h
  clear h hk
  obtain ⟨_, c1, _, _⟩ := H.out.cells
  obtain ⟨d0, d1, d2⟩ := H.out.pk.base H.out.me32 (by have := H.out.mek; omega)
  go_enter Try.func63, Try.ntmps63
  go_wp2_with fail
  refine (labelOf_any _ _ _ _).mono ?_
  rintro e w1 ⟨rfl, hb1⟩
  have H1 := hide (H.out.below hb1)
  obtain ⟨-, -, -, -, mm⟩ := HK.out _ _ H1.out
  have HB1 := hide hb1
  clear hb1 c1 d0 d1 d2
  go_wp2_with fail
  refine (labelOf_any _ _ _ _).mono ?_
  rintro e w2 ⟨rfl, hb2⟩
  have H2 := hide (H1.out.below hb2)
  have HB2 := hide (below_next hb2 HB1.out)
  clear hb2 mm
  go_wp2_with fail
  refine (fits_any H2.out _ _ HLm.out HLi.out).mono ?_
  rintro e w3 ⟨rfl, h3, g3⟩
  go_wp2_with fail
  go_ret
  exact ⟨rfl, h3, Fr.trans (Fr.of_below HB2.out) g3⟩

theorem mayRead_any {w : World} {rb kb : Nat} {S : Nat → Th} {ws : Nat → List Int} {lq : Nat → Option Nat} {ph : Nat} {ob : Nat → Nat} {qp : Nat → Option Nat} {me u : Nat} (h : QK w rb kb S ws lq ph ob qp me u) (i : Nat) (hi : i < 32) (hk : (S i).kind ≠ 0) :
    Calls Try.prog 62 #[.pointer (some ⟨rb, 0, none⟩), obV (S i) (ob i)] w fun e w' => e = .returned (.int .i64 (chk (S me).owns (S i).label (S me).label (u, 0)).2) ∧ QK w' rb kb S ws lq ph ob qp me (chk (S me).owns (S i).label (S me).label (u, 0)).1 ∧ Fr (fun k => k = rb) w w' := by
  rcases h.pk.kinds i hi with e | e | e | e
  · exact absurd e hk
  · have ev : obV (S i) (ob i) = .iface 116 (.pointer (some ⟨ob i, 0, none⟩)) := by simp [obV, e]
    rw [ev]; exact mayRead_container h i hi e
  · have ev : obV (S i) (ob i) = .iface 75 (.pointer (some ⟨ob i, 0, none⟩)) := by simp [obV, e]
    rw [ev]; exact mayRead_thread h i hi e
  · have ev : obV (S i) (ob i) = .iface 136 (.pointer (some ⟨ob i, 0, none⟩)) := by simp [obV, e]
    rw [ev]; exact mayRead_segment h i hi e

theorem mayWrite_any {w : World} {rb kb : Nat} {S : Nat → Th} {ws : Nat → List Int} {lq : Nat → Option Nat} {ph : Nat} {ob : Nat → Nat} {qp : Nat → Option Nat} {me u : Nat} (h : QK w rb kb S ws lq ph ob qp me u) (i : Nat) (hi : i < 32) (hk : (S i).kind ≠ 0) :
    Calls Try.prog 63 #[.pointer (some ⟨rb, 0, none⟩), obV (S i) (ob i)] w fun e w' => e = .returned (.int .i64 (chk (S me).owns (S me).label (S i).label (u, 0)).2) ∧ QK w' rb kb S ws lq ph ob qp me (chk (S me).owns (S me).label (S i).label (u, 0)).1 ∧ Fr (fun k => k = rb) w w' := by
  rcases h.pk.kinds i hi with e | e | e | e
  · exact absurd e hk
  · have ev : obV (S i) (ob i) = .iface 116 (.pointer (some ⟨ob i, 0, none⟩)) := by simp [obV, e]
    rw [ev]; exact mayWrite_container h i hi e
  · have ev : obV (S i) (ob i) = .iface 75 (.pointer (some ⟨ob i, 0, none⟩)) := by simp [obV, e]
    rw [ev]; exact mayWrite_thread h i hi e
  · have ev : obV (S i) (ob i) = .iface 136 (.pointer (some ⟨ob i, 0, none⟩)) := by simp [obV, e]
    rw [ev]; exact mayWrite_segment h i hi e

end Go.Proofs.Ytflniddofmnkaaa
