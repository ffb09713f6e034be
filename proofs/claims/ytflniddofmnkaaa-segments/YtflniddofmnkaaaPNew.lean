/- What the program's trap 4 does: NewSegment. -/
import Derived.Test.YtflniddofmnkaaaPTraps2
import Derived.Test.YtflniddofmnkaaaPPut
open Go Go.Proofs Go.RowKit
namespace Go.Proofs.Ytflniddofmnkaaa

set_option maxHeartbeats 2000000 in
theorem t_new_no {w : World} {rb kb : Nat} {S : Nat → Th} {ws : Nat → List Int} {lq : Nat → Option Nat} {ph : Nat} {ob : Nat → Nat} {qp : Nat → Option Nat} {me u : Nat} (h : QK w rb kb S ws lq ph ob qp me u) (n c s l lb lo cap : Nat) (hc : c < 32) (hs : s < 32) (hl : l < 256) (hd : deep S n c) (ha : Arg w lb lo [(c : Int), (s : Int), (l : Int)]) (hp : (makingF S (S me).owns (S me).label n c s l (u, 0)).2 ≠ 0) :
    Calls Try.prog 48 #[.pointer (some ⟨rb, 0, none⟩), .slice (some ⟨lb, lo, none⟩) 3 cap] w fun e w' => e = .returned (.tuple #[.int .i64 0, .int .i64 (makingF S (S me).owns (S me).label n c s l (u, 0)).2]) ∧ QK w' rb kb S ws lq ph ob qp me (makingF S (S me).owns (S me).label n c s l (u, 0)).1 ∧ Fr (fun k => k = rb) w w' := by
  have l0 := ha.c0
  have l1 := ha.c1
  have l2 := ha.c2
  have H := hide h
  have MA := fun w' hb => mayMake_any (h.below (w' := w') hb) n c s l hc hs hl hd
  have HMA := hide MA
  clear h hd ha MA
  generalize makingF S (S me).owns (S me).label n c s l (u, 0) = pm at *
  go_enter Try.func48, Try.ntmps48
  go_wp2_with fail
  go_quiet (fail)
  go_wp2_with fail
  refine (HMA.out _ (below_drewN (Below.refl _ _) _)).mono ?_
  rintro e w1 ⟨rfl, h1, g1⟩
  go_wp2_with fail
  go_ret2
  exact ⟨rfl, h1, ((Fr.refl _ _).drewN _).trans g1⟩

set_option maxHeartbeats 2000000 in
theorem t_new_yes {w : World} {rb kb : Nat} {S : Nat → Th} {ws : Nat → List Int} {lq : Nat → Option Nat} {ph : Nat} {ob : Nat → Nat} {qp : Nat → Option Nat} {me u : Nat} (h : QK w rb kb S ws lq ph ob qp me u) (n c s l lb lo cap : Nat) (hc : c < 32) (hs : s < 32) (hl : l < 256) (hd : deep S n c) (ha : Arg w lb lo [(c : Int), (s : Int), (l : Int)]) (hp : (makingF S (S me).owns (S me).label n c s l (u, 0)).2 = 0) (hk0 : (S s).kind = 0) (i : Int) (a : Option Addr) (m1 m2 : Nat) :
    Calls Try.prog 48 #[.pointer (some ⟨rb, 0, none⟩), .slice (some ⟨lb, lo, none⟩) 3 cap] w fun e w' => e = .returned (.tuple #[.int .i64 0, .int .i64 0]) ∧
      ∃ g, w.heap.size ≤ g ∧ ReqAt w' rb kb (ob me) (makingF S (S me).owns (S me).label n c s l (u, 0)).1 ∧ PK w' kb (upd S s ⟨3, l, i, a, m1, m2, 0, false, 0, 0, 0, 0⟩) (upd ws s [0, 0, 0, 0, 0, 0, 0, 0]) lq ph (upd ob s g) qp ∧ Fr (fun k => k = rb ∨ k = kb) w w' := by
  have l0 := ha.c0
  have l1 := ha.c1
  have l2 := ha.c2
  have H := hide h
  have MA := fun w' hb => mayMake_any (h.below (w' := w') hb) n c s l hc hs hl hd
  have HMA := hide MA
  have HP := hide hp
  have HK0 := hide hk0
  clear h hd ha MA hp hk0
  generalize makingF S (S me).owns (S me).label n c s l (u, 0) = pm at *
  go_enter Try.func48, Try.ntmps48
  go_wp2_with fail
  go_quiet (fail)
  go_wp2_with fail
  refine (HMA.out _ (below_drewN (Below.refl _ _) _)).mono ?_
  rintro e w1 ⟨rfl, h1, g1⟩
  rw [HP.out]
  obtain ⟨c0, c1, -⟩ := h1.cells
  have H1 := hide h1
  have G1 : Hid (Fr (fun k => k = rb) w w1) := ((Fr.refl _ _).drewN _).trans g1
  have hkl := h1.pk.lt
  clear h1 g1 l0 l1 l2
  go_wp2_with fail
  have BN := Blk.new w1 #[.int .i64 s, .int .i64 3, .int .i64 l, .int .i64 0, .int .i64 0, .int .i64 0, .int .i64 0, .int .i64 0, .int .i64 0, .int .i64 0, .int .i64 0] 139
  have HBN := hide BN
  have H2 := hide (H1.out.fr (w' := (w1.alloc (.cells #[.int .i64 s, .int .i64 3, .int .i64 l, .int .i64 0, .int .i64 0, .int .i64 0, .int .i64 0, .int .i64 0, .int .i64 0, .int .i64 0, .int .i64 0] 139))) ((Fr.refl _ _).alloc _))
  have sv := H2.out.pk.slot hs
  rw [obV_kind HK0.out] at sv
  refine (pput_segment _ kb w1.heap.size s 3 l .nilIface hs H2.out.pk.lt (Blk.lt BN) (by omega) (by rw [BN.cell]; rfl) (by rw [BN.cell]; rfl) (by rw [BN.cell]; rfl) sv (H2.out.pk.frozen s)).mono ?_
  rintro e w2 ⟨rfl, w3, hb3, rfl⟩
  clear sv BN
  have hfoot : ¬ Foot kb S ob qp w1.heap.size := fun hf => by have := H1.out.pk.foot_lt hf; omega
  have H3 := hide (H2.out.below hb3)
  have B3 := hide (HBN.out.below hb3 (Blk.lt HBN.out))
  have F3 : Hid (Fr (fun k => k = rb ∨ k = kb) w (w3.setCell ⟨kb, s, none⟩ (.iface 136 (.pointer (some ⟨w1.heap.size, 0, none⟩))))) :=
    Fr.setCell (S := fun k => k = rb ∨ k = kb) (p := ⟨kb, s, none⟩) ((((G1.out.mono (S' := fun k => k = rb ∨ k = kb) (fun _ _ h => Or.inl h)).alloc _).trans (Fr.of_below hb3))) (Or.inl (Or.inr rfl)) _
  clear hb3
  go_wp2_with fail
  go_ret2
  refine ⟨rfl, w1.heap.size, G1.out.size, ?_, ?_, F3.out⟩
  · exact Blk.apart H3.out.req (fun e => H3.out.ne (Or.inl e)) _
  · exact H3.out.pk.putNew hs HK0.out ⟨3, l, i, a, m1, m2, 0, false, 0, 0, 0, 0⟩ [0, 0, 0, 0, 0, 0, 0, 0] B3.out hfoot (Or.inr (Or.inr rfl)) ⟨by simp, by simp, by simp, by simp, hl, by simp⟩ (fun _ => rfl)

end Go.Proofs.Ytflniddofmnkaaa
