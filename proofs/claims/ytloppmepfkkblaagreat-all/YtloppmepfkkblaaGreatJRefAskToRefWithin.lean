/- What the reference's small functions do: In, fail, check, read, write, there, kind. -/
import Derived.Test.YtloppmepfkkblaaGreatProg
import Derived.BigRegion
import Derived.Deep.AppendLies
import Derived.Test.YtloppmepfkkblaaGreatJBaseToTreeKeeps

section
open Go Go.Proofs Go.RowKit
namespace Go.Proofs.YtloppmepfkkblaaGreat

theorem in_any (w : World) (a b : Nat) (ha : a < 256) (hb : b < 256) :
    Calls Tryz.prog 63 #[.int .i64 a, .int .i64 b] w fun e w' => e = .returned (.bool (sub a b)) ∧ w' = w := by
  have hor := i64_or a b ha hb
  go_enter Tryz.func63, Tryz.ntmps63
  go_wp2
  go_ret
  exact ⟨ret_bool (by unfold sub; rw [Bool.eq_iff_iff]; simp only [beq_iff_eq]; exact Int.ofNat_inj), rfl⟩

theorem fail_any (w : World) (ab b T O : Nat) (p : Nat × Int) (r : RSt) (e : Int) (h : AK w ab b T O p r) (_he : -128 ≤ e ∧ e ≤ 127) :
    Calls Tryz.prog 76 #[.pointer (some ⟨ab, 0, none⟩), .int .i64 e] w fun e' w' => e' = .returned (.tuple #[]) ∧ AK w' ab b T O (failed e p) r ∧ Fr (fun k => k = ab) w w' := by
  obtain ⟨c0, c1, c2, c3, c4, f3, f4⟩ := h.ask.cells
  have H : Hid (AK w ab b T O p r) := h
  clear h
  by_cases hp : p.2 = 0
  · have e1 : failed e p = (p.1, e) := by unfold failed; rw [if_pos hp]
    have E1 := hide e1
    rw [hp] at c4
    clear e1
    go_enter Tryz.func76, Tryz.ntmps76
    go_wp2
    go_end0
    refine ⟨rfl, ?_, Fr.own _ _ _ _⟩
    rw [unhide E1]
    exact H.out.turned (Fr.own _ _ _ _) (H.out.ask.err e) H.out.hu
  · have hp' : (p.2 == 0) = false := by simpa using hp
    have e1 : failed e p = p := by unfold failed; rw [if_neg hp]
    have E1 := hide e1
    clear e1
    go_enter Tryz.func76, Tryz.ntmps76
    go_wp2
    go_end0
    refine ⟨rfl, ?_, Fr.refl _ _⟩
    rw [unhide E1]
    exact H.out

set_option maxHeartbeats 400000 in
theorem check_any (w : World) (ab b T O : Nat) (p : Nat × Int) (r : RSt) (x y : Nat) (h : AK w ab b T O p r) (hx : x < 256) (hy : y < 256) :
    Calls Tryz.prog 78 #[.pointer (some ⟨ab, 0, none⟩), .int .i64 x, .int .i64 y] w fun e' w' => e' = .returned (.tuple #[]) ∧ AK w' ab b T O (chk O x y p) r ∧ Fr (fun k => k = ab) w w' := by
  obtain ⟨c0, c1, c2, c3, c4, f3, f4⟩ := h.ask.cells
  have H : Hid (AK w ab b T O p r) := h
  have hO := h.hO
  have hu := h.hu
  clear h
  by_cases hp : p.2 = 0
  · rw [hp] at c4
    have hand := i64_and x y hx hy
    have hle := and_le_self x y
    have hm := mis_lt y hx
    have hmis : (x : Int) - ((x &&& y : Nat) : Int) = ((mis x y : Nat) : Int) := by unfold mis; omega
    have hor := i64_or p.1 (mis x y) hu hm
    have HM := hide hmis
    clear hmis
    by_cases hs : sub (mis x y) O = true
    · have e1 : chk O x y p = (p.1 ||| mis x y, 0) := by unfold chk; rw [if_neg (by simp [hp]), if_pos hs]
      have E1 := hide e1
      clear e1
      go_enter Tryz.func78, Tryz.ntmps78
      go_wp2_with fail
      rw [unhide HM]
      refine (in_any _ _ _ hm hO).mono ?_
      rintro e w' ⟨rfl, rfl⟩
      rw [hs]
      go_wp2_with fail
      go_end0
      refine ⟨rfl, ?_, Fr.own _ _ _ _⟩
      rw [unhide E1]
      have ha := H.out.ask.used (p.1 ||| mis x y)
      rw [hp] at ha
      exact H.out.turned (Fr.own _ _ _ _) ha (or_lt hu hm)
    · have hs' : sub (mis x y) O = false := by simpa using hs
      have e1 : chk O x y p = failed 4 p := by unfold chk failed; rw [if_neg (by simp [hp]), if_neg hs, if_pos hp]
      have E1 := hide e1
      clear e1
      go_enter Tryz.func78, Tryz.ntmps78
      go_wp2_with fail
      rw [unhide HM]
      refine (in_any _ _ _ hm hO).mono ?_
      rintro e w' ⟨rfl, rfl⟩
      rw [hs']
      go_wp2_with fail
      refine (fail_any _ _ _ _ _ _ _ 4 H.out (by omega)).mono ?_
      rintro e w' ⟨rfl, h1, h2⟩
      go_wp2_with fail
      ((try simp only [Exit.inBlock, Exit.then]); refine bodyPost_ret (results_none rfl _ _ _) rfl ?_)
      rw [unhide E1]
      exact ⟨rfl, h1, h2⟩
  · have hp' : (p.2 == 0) = false := by simpa using hp
    have e1 : chk O x y p = p := by unfold chk; rw [if_pos hp]
    have E1 := hide e1
    clear e1
    go_enter Tryz.func78, Tryz.ntmps78
    go_wp2_with fail
    ((try simp only [Exit.inBlock, Exit.then]); refine bodyPost_ret (results_none rfl _ _ _) rfl ?_)
    rw [unhide E1]
    exact ⟨rfl, H.out, Fr.refl _ _⟩

theorem read_any (w : World) (ab b T O : Nat) (p : Nat × Int) (r : RSt) (x : Nat) (h : AK w ab b T O p r) (hx : x < 256) :
    Calls Tryz.prog 73 #[.pointer (some ⟨ab, 0, none⟩), .int .i64 x] w fun e' w' => e' = .returned (.tuple #[]) ∧ AK w' ab b T O (chk O x T p) r ∧ Fr (fun k => k = ab) w w' := by
  obtain ⟨c0, c1, c2, c3, c4, f3, f4⟩ := h.ask.cells
  have H : Hid (AK w ab b T O p r) := h
  clear h
  go_enter Tryz.func73, Tryz.ntmps73
  go_wp2_with fail
  refine (check_any _ _ _ _ _ _ _ _ _ H.out hx H.out.hT).mono ?_
  rintro e w' ⟨rfl, h1, h2⟩
  go_wp2_with fail
  go_end0
  exact ⟨rfl, h1, h2⟩

theorem write_any (w : World) (ab b T O : Nat) (p : Nat × Int) (r : RSt) (x : Nat) (h : AK w ab b T O p r) (hx : x < 256) :
    Calls Tryz.prog 74 #[.pointer (some ⟨ab, 0, none⟩), .int .i64 x] w fun e' w' => e' = .returned (.tuple #[]) ∧ AK w' ab b T O (chk O T x p) r ∧ Fr (fun k => k = ab) w w' := by
  obtain ⟨c0, c1, c2, c3, c4, f3, f4⟩ := h.ask.cells
  have H : Hid (AK w ab b T O p r) := h
  clear h
  go_enter Tryz.func74, Tryz.ntmps74
  go_wp2_with fail
  refine (check_any _ _ _ _ _ _ _ _ _ H.out H.out.hT hx).mono ?_
  rintro e w' ⟨rfl, h1, h2⟩
  go_wp2_with fail
  go_end0
  exact ⟨rfl, h1, h2⟩

/-- 'there': ErrDead, if the slot is free. -/
theorem there_any (w : World) (ab b T O : Nat) (p : Nat × Int) (r : RSt) (s : Nat) (h : AK w ab b T O p r) (hs : s < 32) :
    Calls Tryz.prog 70 #[.pointer (some ⟨ab, 0, none⟩), .int .i64 s] w fun e' w' => e' = .returned (.tuple #[]) ∧ AK w' ab b T O (if (r.S s).kind = 0 then failed 5 p else p) r ∧ Fr (fun k => k = ab) w w' := by
  obtain ⟨c0, c1, c2, c3, c4, f3, f4⟩ := h.ask.cells
  obtain ⟨k0, -⟩ := h.rk.things hs
  have H : Hid (AK w ab b T O p r) := h
  have hsi : (s : Int) < 32 := by omega
  clear h
  by_cases hk : (r.S s).kind = 0
  · rw [hk] at k0
    rw [if_pos hk]
    clear hk
    go_enter Tryz.func70, Tryz.ntmps70
    go_wp2_with fail
    refine (fail_any _ _ _ _ _ _ _ 5 H.out (by omega)).mono ?_
    rintro e w' ⟨rfl, h1, h2⟩
    go_wp2_with fail
    go_end0
    exact ⟨rfl, h1, h2⟩
  · have hp' : ((r.S s).kind == 0) = false := by simpa using hk
    rw [if_neg hk]
    go_enter Tryz.func70, Tryz.ntmps70
    go_wp2_with fail
    go_end0
    exact ⟨rfl, H.out, Fr.refl _ _⟩

/-- 'kind': ErrKind, if it is another one. -/
theorem kind_any (w : World) (ab b T O : Nat) (p : Nat × Int) (r : RSt) (s : Nat) (k : Int) (h : AK w ab b T O p r) (hs : s < 32) :
    Calls Tryz.prog 75 #[.pointer (some ⟨ab, 0, none⟩), .int .i64 s, .int .i64 k] w fun e' w' => e' = .returned (.tuple #[]) ∧ AK w' ab b T O (if (r.S s).kind = k then p else failed 6 p) r ∧ Fr (fun k => k = ab) w w' := by
  obtain ⟨c0, c1, c2, c3, c4, f3, f4⟩ := h.ask.cells
  obtain ⟨k0, -⟩ := h.rk.things hs
  have H : Hid (AK w ab b T O p r) := h
  have hsi : (s : Int) < 32 := by omega
  clear h
  by_cases hk : (r.S s).kind = k
  · rw [hk] at k0
    rw [if_pos hk]
    clear hk
    go_enter Tryz.func75, Tryz.ntmps75
    go_wp2_with fail
    go_end0
    exact ⟨rfl, H.out, Fr.refl _ _⟩
  · have hp' : ((r.S s).kind == k) = false := by simpa using hk
    rw [if_neg hk]
    go_enter Tryz.func75, Tryz.ntmps75
    go_wp2_with fail
    refine (fail_any _ _ _ _ _ _ _ 6 H.out (by omega)).mono ?_
    rintro e w' ⟨rfl, h1, h2⟩
    go_wp2_with fail
    go_end0
    exact ⟨rfl, h1, h2⟩

end Go.Proofs.YtloppmepfkkblaaGreat
end

section
/- What the reference's 'lies' and 'has' do: the container with the least range of slots. -/
open Go Go.Proofs Go.RowKit
namespace Go.Proofs.YtloppmepfkkblaaGreat

set_option maxHeartbeats 1000000 in
theorem lies_any (w : World) (b : Nat) (r : RSt) (s : Int) (hr : RK w b r) (hw : r.wf) :
    Calls Tryz.prog 64 #[.pointer (some ⟨b, 0, none⟩), .int .i64 s] w fun e w' => e = .returned (.int .i64 (oi (lies r.S s))) ∧ Below w.heap.size w w' := by
  have hlt := hr.lt
  have HR : Hid (RK w b r) := hr
  have HW : Hid r.wf := hw
  clear hr hw
  go_enter Tryz.func64, Tryz.ntmps64
  go_wp2_with fail
  go_loopw [5, 6] (fun best c w' => ∃ k : Nat, k ≤ 32 ∧ c = .int .i64 k ∧ best = .int .i64 (seek r.S Th.A Th.B s k) ∧ Below w.heap.size w w') (fun _ c _ => 32 - (intOf c).toNat)
  case atStart => exact ⟨0, by omega, rfl, rfl, Below.refl _ _⟩
  case round =>
    obtain ⟨k, hk, rfl, rfl, hb⟩ := hrel
    by_cases hk32 : k < 32
    · have hr := RK.below HR.out hb hlt
      obtain ⟨c0, c1, c2, c3, c4, c5, c6, c7, c8, c9⟩ := hr.things hk32
      have HR' : Hid (RK wr b r) := hr
      have hlt' := hr.lt
      clear hr
      have hB : ∀ o, Below w.heap.size w (wr.alloc o) := fun o => hb.alloc hb.size o
      go_wp2_with fail
      rotate_left
      · obtain ⟨bd1, bd2, bd3, bd4, -, -⟩ := HW.out k hk32
        have hll := seek_lt r.S Th.A Th.B s k
        by_cases hneg : seek r.S Th.A Th.B s k < 0
        · have hd : decide (seek r.S Th.A Th.B s k < 0) = true := by simpa using hneg
          go_quiet (fail)
          go_wp2_with fail
          exact ⟨⟨k + 1, by omega, by go_num, by rw [seek_take ‹_› ‹_› (by omega) (Or.inl hneg)], below_drewN (hB _) _⟩, by simp [intOf]; omega⟩
        · obtain ⟨n, hn⟩ := Int.eq_ofNat_of_zero_le (Int.not_lt.1 hneg)
          have hn32 : n < 32 := by omega
          obtain ⟨-, -, -, -, -, -, d6, d7, -⟩ := (HR'.out).things hn32
          obtain ⟨be1, be2, be3, be4, -, -⟩ := HW.out n hn32
          simp only [hn]
          have HN : Hid (seek r.S Th.A Th.B s k = (n : Int)) := hn
          have hd : decide ((n : Int) < 0) = false := by simp
          have hn0 : (0 : Int) ≤ (n : Int) := by omega
          have hn1 : (n : Int) < 32 := by omega
          clear hn hneg hll
          go_quiet (fail)
          go_wp2_with fail
          · exact ⟨⟨k + 1, by omega, by go_num, by rw [seek_take ‹_› ‹_› (by omega) (Or.inr (by rw [HN.out, Int.toNat_natCast]; assumption))], below_drewN (hB _) _⟩, by simp [intOf]; omega⟩
          · exact ⟨⟨k + 1, by omega, by go_num, by rw [seek_stay HN.out (by omega)], below_drewN (hB _) _⟩, by simp [intOf]; omega⟩
      all_goals exact ⟨⟨k + 1, by omega, by go_num, by rw [seek_skip (by omega)], hB _⟩, by simp [intOf]; omega⟩
    · go_wp2_with fail
      go_ret
      have : k = 32 := by omega
      subst this
      exact ⟨ret_i64 (lies_oi _ _), hb⟩

set_option maxHeartbeats 1000000 in
theorem has_any (w : World) (b : Nat) (r : RSt) (s : Int) (hr : RK w b r) (hw : r.wf) :
    Calls Tryz.prog 66 #[.pointer (some ⟨b, 0, none⟩), .int .i64 s] w fun e w' => e = .returned (.int .i64 (oi (has r.S s))) ∧ Below w.heap.size w w' := by
  have hlt := hr.lt
  have HR : Hid (RK w b r) := hr
  have HW : Hid r.wf := hw
  clear hr hw
  go_enter Tryz.func66, Tryz.ntmps66
  go_wp2_with fail
  go_loopw [5, 6] (fun best c w' => ∃ k : Nat, k ≤ 32 ∧ c = .int .i64 k ∧ best = .int .i64 (seek r.S Th.G Th.H s k) ∧ Below w.heap.size w w') (fun _ c _ => 32 - (intOf c).toNat)
  case atStart => exact ⟨0, by omega, rfl, rfl, Below.refl _ _⟩
  case round =>
    obtain ⟨k, hk, rfl, rfl, hb⟩ := hrel
    by_cases hk32 : k < 32
    · have hr := RK.below HR.out hb hlt
      obtain ⟨c0, c1, c2, c3, c4, c5, c6, c7, c8, c9⟩ := hr.things hk32
      have HR' : Hid (RK wr b r) := hr
      have hlt' := hr.lt
      clear hr
      have hB : ∀ o, Below w.heap.size w (wr.alloc o) := fun o => hb.alloc hb.size o
      go_wp2_with fail
      rotate_left
      · obtain ⟨bd1, bd2, bd3, bd4, -, -⟩ := HW.out k hk32
        have hll := seek_lt r.S Th.G Th.H s k
        by_cases hneg : seek r.S Th.G Th.H s k < 0
        · have hd : decide (seek r.S Th.G Th.H s k < 0) = true := by simpa using hneg
          go_quiet (fail)
          go_wp2_with fail
          exact ⟨⟨k + 1, by omega, by go_num, by rw [seek_take ‹_› ‹_› (by omega) (Or.inl hneg)], below_drewN (hB _) _⟩, by simp [intOf]; omega⟩
        · obtain ⟨n, hn⟩ := Int.eq_ofNat_of_zero_le (Int.not_lt.1 hneg)
          have hn32 : n < 32 := by omega
          obtain ⟨-, -, -, -, -, -, d6, d7, -⟩ := (HR'.out).things hn32
          obtain ⟨be1, be2, be3, be4, -, -⟩ := HW.out n hn32
          simp only [hn]
          have HN : Hid (seek r.S Th.G Th.H s k = (n : Int)) := hn
          have hd : decide ((n : Int) < 0) = false := by simp
          have hn0 : (0 : Int) ≤ (n : Int) := by omega
          have hn1 : (n : Int) < 32 := by omega
          clear hn hneg hll
          go_quiet (fail)
          go_wp2_with fail
          · exact ⟨⟨k + 1, by omega, by go_num, by rw [seek_take ‹_› ‹_› (by omega) (Or.inr (by rw [HN.out, Int.toNat_natCast]; assumption))], below_drewN (hB _) _⟩, by simp [intOf]; omega⟩
          · exact ⟨⟨k + 1, by omega, by go_num, by rw [seek_stay HN.out (by omega)], below_drewN (hB _) _⟩, by simp [intOf]; omega⟩
      all_goals exact ⟨⟨k + 1, by omega, by go_num, by rw [seek_skip (by omega)], hB _⟩, by simp [intOf]; omega⟩
    · go_wp2_with fail
      go_ret
      have : k = 32 := by omega
      subst this
      exact ⟨ret_i64 (has_oi _ _), hb⟩

end Go.Proofs.YtloppmepfkkblaaGreat
end

section
/- What the reference's 'path' and 'making' do. -/
open Go Go.Proofs Go.RowKit
namespace Go.Proofs.YtloppmepfkkblaaGreat

theorem wf_label {r : RSt} (h : r.wf) {i : Nat} (hi : i < 32) : (r.S i).label < 256 := (h i hi).2.2.2.2.1

set_option maxHeartbeats 400000 in
theorem path_any (n : Nat) : ∀ (w : World) (ab b T O : Nat) (p : Nat × Int) (r : RSt) (s : Nat), AK w ab b T O p r → s < 32 → deep r.S n s →
    Calls Tryz.prog 69 #[.pointer (some ⟨ab, 0, none⟩), .int .i64 s] w fun e' w' => e' = .returned (.tuple #[]) ∧ AK w' ab b T O (pathF r.S O T n s p) r ∧ Fr (fun k => k = ab) w w' := by
  induction n with
  | zero => intro w ab b T O p r s _ _ hd; exact hd.elim
  | succ n ih =>
    intro w ab b T O p r s h hs hd
    have IH := hide ih
    clear ih
    obtain ⟨c0, c1, c2, c3, c4, f3, f4⟩ := h.ask.cells
    have H : Hid (AK w ab b T O p r) := h
    have HD := hide hd
    clear h hd
    unfold pathF
    rcases hl : lies r.S s with _ | c
    · have HL := hide hl
      clear hl
      go_enter Tryz.func69, Tryz.ntmps69
      go_wp2_with fail
      refine (lies_any _ _ _ _ H.out.rk H.out.wf).mono ?_
      rintro e w1 ⟨rfl, hb⟩
      rw [HL.out, oi]
      go_wp2_with fail
      ((try simp only [Exit.inBlock, Exit.then]); refine bodyPost_ret (results_none rfl _ _ _) rfl ?_)
      exact ⟨rfl, H.out.fr (Fr.of_below hb), Fr.of_below hb⟩
    · have hc := lies_lt hl
      have hci : (c : Int) < 32 := by omega
      have hc0 : ¬ (c : Int) < 0 := by omega
      have HDc : Hid (deep r.S n c) := by have := HD.out; unfold deep at this; rw [hl] at this; exact this
      have HL := hide hl
      clear hl
      go_enter Tryz.func69, Tryz.ntmps69
      go_wp2_with fail
      refine (lies_any _ _ _ _ H.out.rk H.out.wf).mono ?_
      rintro e w1 ⟨rfl, hb⟩
      rw [HL.out, oi]
      have H1 := hide (H.out.fr (Fr.of_below hb))
      go_wp2_with fail
      refine (IH.out _ _ _ _ _ _ _ _ H1.out hc HDc.out).mono ?_
      rintro e w2 ⟨rfl, h2, g2⟩
      obtain ⟨d0, d1, d2, d3, d4, e3, e4⟩ := h2.ask.cells
      obtain ⟨-, k1, -⟩ := h2.rk.things hc
      have H2 := hide h2
      have G2 := hide g2
      have HB := hide hb
      clear h2 g2 hb c0 c1 c2 c3 c4 f3 f4
      go_wp2_with fail
      refine (read_any _ _ _ _ _ _ _ _ H2.out (wf_label H2.out.wf hc)).mono ?_
      rintro e w3 ⟨rfl, h3, g3⟩
      go_wp2_with fail
      go_end0
      exact ⟨rfl, h3, ((Fr.of_below HB.out).trans G2.out).trans g3⟩

end Go.Proofs.YtloppmepfkkblaaGreat
end

section
/- What the reference's 'making' does. -/
open Go Go.Proofs Go.RowKit
namespace Go.Proofs.YtloppmepfkkblaaGreat

set_option maxHeartbeats 1000000 in
theorem making_any (w : World) (ab b T O : Nat) (p : Nat × Int) (r : RSt) (n c s l : Nat) (h : AK w ab b T O p r) (hc : c < 32) (hs : s < 32) (hl : l < 256) (hd : deep r.S n c) :
    Calls Tryz.prog 71 #[.pointer (some ⟨ab, 0, none⟩), .int .i64 c, .int .i64 s, .int .i64 l] w fun e' w' => e' = .returned (.tuple #[]) ∧ AK w' ab b T O (makingF r.S O T n c s l p) r ∧ Fr (fun k => k = ab) w w' := by
  obtain ⟨a0, a1, a2, a3, a4, f3, f4⟩ := h.ask.cells
  obtain ⟨c0, c1, c2, c3, c4, c5, c6, c7, c8, c9⟩ := h.rk.things hc
  have H : Hid (AK w ab b T O p r) := h
  have hci : (c : Int) < 32 := by omega
  have hsi : (s : Int) < 32 := by omega
  have habw : ab < w.heap.size := Blk.lt h.ask
  have hne : ¬ w.heap.size = ab := by omega
  have hlc := wf_label h.wf hc
  have HD := hide hd
  have HLC := hide hlc
  have HL := hide hl
  clear h hd hlc
  have E0 : makingF r.S O T n c s l p = makingF r.S O T n c s l p := rfl
  conv at E0 => rhs; unfold makingF
  dsimp only at E0
  by_cases hk : (r.S s).kind = 0
  · by_cases hli : lies r.S s = some c
    · rw [if_pos (c := (r.S s).kind = 0 ∧ lies r.S s = some c) ⟨hk, hli⟩] at E0
      have hoi : (oi (lies r.S s) == (c : Int)) = true := by rw [beq_iff_eq]; exact oi_eq.2 hli
      clear hli
      by_cases hs1 : sub (r.S c).label l = true
      · rw [if_pos hs1] at E0
        have HS := hide hs1
        clear hs1
        have EM := hide E0
        clear E0
        go_enter Tryz.func71, Tryz.ntmps71
        go_wp2_with fail
        have HB : Hid (Blk (w.alloc (.cells #[.int .i64 (r.S c).kind, .int .i64 (r.S c).label, .int .i64 (r.S c).id, .slice (r.S c).Wa (r.S c).Wn (r.S c).Wc, .int .i64 (r.S c).owns, .bool (r.S c).awake, .int .i64 (r.S c).A, .int .i64 (r.S c).B, .int .i64 (r.S c).G, .int .i64 (r.S c).H] 71)) w.heap.size _) := Blk.new w _ _
        have F0 := hide ((Fr.refl (fun k => k = ab) w).alloc (.cells #[.int .i64 (r.S c).kind, .int .i64 (r.S c).label, .int .i64 (r.S c).id, .slice (r.S c).Wa (r.S c).Wn (r.S c).Wc, .int .i64 (r.S c).owns, .bool (r.S c).awake, .int .i64 (r.S c).A, .int .i64 (r.S c).B, .int .i64 (r.S c).G, .int .i64 (r.S c).H] 71))
        refine (path_any n _ _ _ _ _ _ _ _ (H.out.fr ((Fr.refl _ _).alloc _)) hc HD.out).mono ?_
        rintro e w1 ⟨rfl, h1, g1⟩
        have B1 := hide (Blk.fr HB.out g1 hne)
        have G1 := hide (F0.out.trans g1)
        have H1 := hide h1
        clear h1 g1 F0 HB a0 a1 a2 a3 a4 f3 f4 c0 c1 c2 c3 c4 c5 c6 c7 c8 c9
        go_wp2_with fail
        refine (there_any _ _ _ _ _ _ _ _ H1.out hc).mono ?_
        rintro e w2 ⟨rfl, h2, g2⟩
        have B2 := hide (Blk.fr B1.out g2 hne)
        have G2 := hide (G1.out.trans g2)
        have H2 := hide h2
        have x1 : w2.cell? ⟨w.heap.size, 1, none⟩ = some (.int .i64 (r.S c).label) := by rw [Blk.cell B2.out]; rfl
        clear h2 g2 B1 G1 H1
        go_wp2_with fail
        refine (read_any _ _ _ _ _ _ _ _ H2.out HLC.out).mono ?_
        rintro e w3 ⟨rfl, h3, g3⟩
        have B3 := hide (Blk.fr B2.out g3 hne)
        have G3 := hide (G2.out.trans g3)
        have H3 := hide h3
        clear x1
        have x1 : w3.cell? ⟨w.heap.size, 1, none⟩ = some (.int .i64 (r.S c).label) := by rw [Blk.cell B3.out]; rfl
        clear h3 g3 B2 G2 H2
        go_wp2_with fail
        refine (write_any _ _ _ _ _ _ _ _ H3.out HLC.out).mono ?_
        rintro e w4 ⟨rfl, h4, g4⟩
        have B4 := hide (Blk.fr B3.out g4 hne)
        have G4 := hide (G3.out.trans g4)
        have H4 := hide h4
        clear h4 g4 B3 G3 H3 x1
        go_wp2_with fail
        refine (kind_any _ _ _ _ _ _ _ _ _ H4.out hc).mono ?_
        rintro e w5 ⟨rfl, h5, g5⟩
        have B5 := hide (Blk.fr B4.out g5 hne)
        have G5 := hide (G4.out.trans g5)
        obtain ⟨k0, -⟩ := h5.rk.things hs
        obtain ⟨d0, d1, -⟩ := h5.ask.cells
        have H5 := hide h5
        clear h5 g5 B4 G4 H4
        rw [hk] at k0
        go_wp2_with fail
        refine (lies_any _ _ _ _ H5.out.rk H5.out.wf).mono ?_
        rintro e w6 ⟨rfl, hb⟩
        have B6 := hide (Blk.below B5.out hb (Blk.lt B5.out))
        have G6 := hide (G5.out.trans (Fr.of_below hb))
        have H6 := hide (H5.out.fr (Fr.of_below hb))
        have x1 : w6.cell? ⟨w.heap.size, 1, none⟩ = some (.int .i64 (r.S c).label) := by rw [Blk.cell B6.out]; rfl
        clear hb B5 G5 H5 k0 d0 d1
        go_wp2_with fail
        have B7 := B6
        have G7 := G6
        have H7 := H6
        clear B6 G6 H6
        refine (in_any _ _ _ HLC.out HL.out).mono ?_
        rintro e w8 ⟨rfl, rfl⟩
        rw [HS.out]
        obtain ⟨z0, z1, -⟩ := H7.out.ask.cells
        clear x1
        go_wp2_with fail
        have G8 := G7
        have H8 := H7
        refine (check_any _ _ _ _ _ _ _ _ _ H8.out H8.out.hT HL.out).mono ?_
        rintro e wz ⟨rfl, hz, gz⟩
        go_wp2_with fail
        go_end0
        exact ⟨rfl, by rw [EM.out]; exact hz, G8.out.trans gz⟩
      · rw [if_neg hs1] at E0
        have hs2 : sub (r.S c).label l = false := by simpa using hs1
        have HS := hide hs2
        clear hs1 hs2
        have EM := hide E0
        clear E0
        go_enter Tryz.func71, Tryz.ntmps71
        go_wp2_with fail
        have HB : Hid (Blk (w.alloc (.cells #[.int .i64 (r.S c).kind, .int .i64 (r.S c).label, .int .i64 (r.S c).id, .slice (r.S c).Wa (r.S c).Wn (r.S c).Wc, .int .i64 (r.S c).owns, .bool (r.S c).awake, .int .i64 (r.S c).A, .int .i64 (r.S c).B, .int .i64 (r.S c).G, .int .i64 (r.S c).H] 71)) w.heap.size _) := Blk.new w _ _
        have F0 := hide ((Fr.refl (fun k => k = ab) w).alloc (.cells #[.int .i64 (r.S c).kind, .int .i64 (r.S c).label, .int .i64 (r.S c).id, .slice (r.S c).Wa (r.S c).Wn (r.S c).Wc, .int .i64 (r.S c).owns, .bool (r.S c).awake, .int .i64 (r.S c).A, .int .i64 (r.S c).B, .int .i64 (r.S c).G, .int .i64 (r.S c).H] 71))
        refine (path_any n _ _ _ _ _ _ _ _ (H.out.fr ((Fr.refl _ _).alloc _)) hc HD.out).mono ?_
        rintro e w1 ⟨rfl, h1, g1⟩
        have B1 := hide (Blk.fr HB.out g1 hne)
        have G1 := hide (F0.out.trans g1)
        have H1 := hide h1
        clear h1 g1 F0 HB a0 a1 a2 a3 a4 f3 f4 c0 c1 c2 c3 c4 c5 c6 c7 c8 c9
        go_wp2_with fail
        refine (there_any _ _ _ _ _ _ _ _ H1.out hc).mono ?_
        rintro e w2 ⟨rfl, h2, g2⟩
        have B2 := hide (Blk.fr B1.out g2 hne)
        have G2 := hide (G1.out.trans g2)
        have H2 := hide h2
        have x1 : w2.cell? ⟨w.heap.size, 1, none⟩ = some (.int .i64 (r.S c).label) := by rw [Blk.cell B2.out]; rfl
        clear h2 g2 B1 G1 H1
        go_wp2_with fail
        refine (read_any _ _ _ _ _ _ _ _ H2.out HLC.out).mono ?_
        rintro e w3 ⟨rfl, h3, g3⟩
        have B3 := hide (Blk.fr B2.out g3 hne)
        have G3 := hide (G2.out.trans g3)
        have H3 := hide h3
        clear x1
        have x1 : w3.cell? ⟨w.heap.size, 1, none⟩ = some (.int .i64 (r.S c).label) := by rw [Blk.cell B3.out]; rfl
        clear h3 g3 B2 G2 H2
        go_wp2_with fail
        refine (write_any _ _ _ _ _ _ _ _ H3.out HLC.out).mono ?_
        rintro e w4 ⟨rfl, h4, g4⟩
        have B4 := hide (Blk.fr B3.out g4 hne)
        have G4 := hide (G3.out.trans g4)
        have H4 := hide h4
        clear h4 g4 B3 G3 H3 x1
        go_wp2_with fail
        refine (kind_any _ _ _ _ _ _ _ _ _ H4.out hc).mono ?_
        rintro e w5 ⟨rfl, h5, g5⟩
        have B5 := hide (Blk.fr B4.out g5 hne)
        have G5 := hide (G4.out.trans g5)
        obtain ⟨k0, -⟩ := h5.rk.things hs
        obtain ⟨d0, d1, -⟩ := h5.ask.cells
        have H5 := hide h5
        clear h5 g5 B4 G4 H4
        rw [hk] at k0
        go_wp2_with fail
        refine (lies_any _ _ _ _ H5.out.rk H5.out.wf).mono ?_
        rintro e w6 ⟨rfl, hb⟩
        have B6 := hide (Blk.below B5.out hb (Blk.lt B5.out))
        have G6 := hide (G5.out.trans (Fr.of_below hb))
        have H6 := hide (H5.out.fr (Fr.of_below hb))
        have x1 : w6.cell? ⟨w.heap.size, 1, none⟩ = some (.int .i64 (r.S c).label) := by rw [Blk.cell B6.out]; rfl
        clear hb B5 G5 H5 k0 d0 d1
        go_wp2_with fail
        have B7 := B6
        have G7 := G6
        have H7 := H6
        clear B6 G6 H6
        refine (in_any _ _ _ HLC.out HL.out).mono ?_
        rintro e w8 ⟨rfl, rfl⟩
        rw [HS.out]
        clear x1
        go_wp2_with fail
        refine (fail_any _ _ _ _ _ _ _ 4 H7.out (by omega)).mono ?_
        rintro e w9 ⟨rfl, h9, g9⟩
        have G8 := hide (G7.out.trans g9)
        have H8 := hide h9
        obtain ⟨z0, z1, -⟩ := h9.ask.cells
        clear h9 g9
        go_wp2_with fail
        refine (check_any _ _ _ _ _ _ _ _ _ H8.out H8.out.hT HL.out).mono ?_
        rintro e wz ⟨rfl, hz, gz⟩
        go_wp2_with fail
        go_end0
        exact ⟨rfl, by rw [EM.out]; exact hz, G8.out.trans gz⟩
    · rw [if_neg (c := (r.S s).kind = 0 ∧ lies r.S s = some c) (fun h => hli h.2)] at E0
      have hoi : (oi (lies r.S s) == (c : Int)) = false := by rw [beq_eq_false_iff_ne]; exact fun h => hli (oi_eq.1 h)
      clear hli
      by_cases hs1 : sub (r.S c).label l = true
      · rw [if_pos hs1] at E0
        have HS := hide hs1
        clear hs1
        have EM := hide E0
        clear E0
        go_enter Tryz.func71, Tryz.ntmps71
        go_wp2_with fail
        have HB : Hid (Blk (w.alloc (.cells #[.int .i64 (r.S c).kind, .int .i64 (r.S c).label, .int .i64 (r.S c).id, .slice (r.S c).Wa (r.S c).Wn (r.S c).Wc, .int .i64 (r.S c).owns, .bool (r.S c).awake, .int .i64 (r.S c).A, .int .i64 (r.S c).B, .int .i64 (r.S c).G, .int .i64 (r.S c).H] 71)) w.heap.size _) := Blk.new w _ _
        have F0 := hide ((Fr.refl (fun k => k = ab) w).alloc (.cells #[.int .i64 (r.S c).kind, .int .i64 (r.S c).label, .int .i64 (r.S c).id, .slice (r.S c).Wa (r.S c).Wn (r.S c).Wc, .int .i64 (r.S c).owns, .bool (r.S c).awake, .int .i64 (r.S c).A, .int .i64 (r.S c).B, .int .i64 (r.S c).G, .int .i64 (r.S c).H] 71))
        refine (path_any n _ _ _ _ _ _ _ _ (H.out.fr ((Fr.refl _ _).alloc _)) hc HD.out).mono ?_
        rintro e w1 ⟨rfl, h1, g1⟩
        have B1 := hide (Blk.fr HB.out g1 hne)
        have G1 := hide (F0.out.trans g1)
        have H1 := hide h1
        clear h1 g1 F0 HB a0 a1 a2 a3 a4 f3 f4 c0 c1 c2 c3 c4 c5 c6 c7 c8 c9
        go_wp2_with fail
        refine (there_any _ _ _ _ _ _ _ _ H1.out hc).mono ?_
        rintro e w2 ⟨rfl, h2, g2⟩
        have B2 := hide (Blk.fr B1.out g2 hne)
        have G2 := hide (G1.out.trans g2)
        have H2 := hide h2
        have x1 : w2.cell? ⟨w.heap.size, 1, none⟩ = some (.int .i64 (r.S c).label) := by rw [Blk.cell B2.out]; rfl
        clear h2 g2 B1 G1 H1
        go_wp2_with fail
        refine (read_any _ _ _ _ _ _ _ _ H2.out HLC.out).mono ?_
        rintro e w3 ⟨rfl, h3, g3⟩
        have B3 := hide (Blk.fr B2.out g3 hne)
        have G3 := hide (G2.out.trans g3)
        have H3 := hide h3
        clear x1
        have x1 : w3.cell? ⟨w.heap.size, 1, none⟩ = some (.int .i64 (r.S c).label) := by rw [Blk.cell B3.out]; rfl
        clear h3 g3 B2 G2 H2
        go_wp2_with fail
        refine (write_any _ _ _ _ _ _ _ _ H3.out HLC.out).mono ?_
        rintro e w4 ⟨rfl, h4, g4⟩
        have B4 := hide (Blk.fr B3.out g4 hne)
        have G4 := hide (G3.out.trans g4)
        have H4 := hide h4
        clear h4 g4 B3 G3 H3 x1
        go_wp2_with fail
        refine (kind_any _ _ _ _ _ _ _ _ _ H4.out hc).mono ?_
        rintro e w5 ⟨rfl, h5, g5⟩
        have B5 := hide (Blk.fr B4.out g5 hne)
        have G5 := hide (G4.out.trans g5)
        obtain ⟨k0, -⟩ := h5.rk.things hs
        obtain ⟨d0, d1, -⟩ := h5.ask.cells
        have H5 := hide h5
        clear h5 g5 B4 G4 H4
        rw [hk] at k0
        go_wp2_with fail
        refine (lies_any _ _ _ _ H5.out.rk H5.out.wf).mono ?_
        rintro e w6 ⟨rfl, hb⟩
        have B6 := hide (Blk.below B5.out hb (Blk.lt B5.out))
        have G6 := hide (G5.out.trans (Fr.of_below hb))
        have H6 := hide (H5.out.fr (Fr.of_below hb))
        clear hb B5 G5 H5 k0 d0 d1
        go_wp2_with fail
        refine (fail_any _ _ _ _ _ _ _ 7 H6.out (by omega)).mono ?_
        rintro e w7 ⟨rfl, h7, g7⟩
        have B7 := hide (Blk.fr B6.out g7 hne)
        have G7 := hide (G6.out.trans g7)
        have H7 := hide h7
        have x1 : w7.cell? ⟨w.heap.size, 1, none⟩ = some (.int .i64 (r.S c).label) := by rw [Blk.cell B7.out]; rfl
        clear h7 g7 B6 G6 H6
        go_wp2_with fail
        refine (in_any _ _ _ HLC.out HL.out).mono ?_
        rintro e w8 ⟨rfl, rfl⟩
        rw [HS.out]
        obtain ⟨z0, z1, -⟩ := H7.out.ask.cells
        clear x1
        go_wp2_with fail
        have G8 := G7
        have H8 := H7
        refine (check_any _ _ _ _ _ _ _ _ _ H8.out H8.out.hT HL.out).mono ?_
        rintro e wz ⟨rfl, hz, gz⟩
        go_wp2_with fail
        go_end0
        exact ⟨rfl, by rw [EM.out]; exact hz, G8.out.trans gz⟩
      · rw [if_neg hs1] at E0
        have hs2 : sub (r.S c).label l = false := by simpa using hs1
        have HS := hide hs2
        clear hs1 hs2
        have EM := hide E0
        clear E0
        go_enter Tryz.func71, Tryz.ntmps71
        go_wp2_with fail
        have HB : Hid (Blk (w.alloc (.cells #[.int .i64 (r.S c).kind, .int .i64 (r.S c).label, .int .i64 (r.S c).id, .slice (r.S c).Wa (r.S c).Wn (r.S c).Wc, .int .i64 (r.S c).owns, .bool (r.S c).awake, .int .i64 (r.S c).A, .int .i64 (r.S c).B, .int .i64 (r.S c).G, .int .i64 (r.S c).H] 71)) w.heap.size _) := Blk.new w _ _
        have F0 := hide ((Fr.refl (fun k => k = ab) w).alloc (.cells #[.int .i64 (r.S c).kind, .int .i64 (r.S c).label, .int .i64 (r.S c).id, .slice (r.S c).Wa (r.S c).Wn (r.S c).Wc, .int .i64 (r.S c).owns, .bool (r.S c).awake, .int .i64 (r.S c).A, .int .i64 (r.S c).B, .int .i64 (r.S c).G, .int .i64 (r.S c).H] 71))
        refine (path_any n _ _ _ _ _ _ _ _ (H.out.fr ((Fr.refl _ _).alloc _)) hc HD.out).mono ?_
        rintro e w1 ⟨rfl, h1, g1⟩
        have B1 := hide (Blk.fr HB.out g1 hne)
        have G1 := hide (F0.out.trans g1)
        have H1 := hide h1
        clear h1 g1 F0 HB a0 a1 a2 a3 a4 f3 f4 c0 c1 c2 c3 c4 c5 c6 c7 c8 c9
        go_wp2_with fail
        refine (there_any _ _ _ _ _ _ _ _ H1.out hc).mono ?_
        rintro e w2 ⟨rfl, h2, g2⟩
        have B2 := hide (Blk.fr B1.out g2 hne)
        have G2 := hide (G1.out.trans g2)
        have H2 := hide h2
        have x1 : w2.cell? ⟨w.heap.size, 1, none⟩ = some (.int .i64 (r.S c).label) := by rw [Blk.cell B2.out]; rfl
        clear h2 g2 B1 G1 H1
        go_wp2_with fail
        refine (read_any _ _ _ _ _ _ _ _ H2.out HLC.out).mono ?_
        rintro e w3 ⟨rfl, h3, g3⟩
        have B3 := hide (Blk.fr B2.out g3 hne)
        have G3 := hide (G2.out.trans g3)
        have H3 := hide h3
        clear x1
        have x1 : w3.cell? ⟨w.heap.size, 1, none⟩ = some (.int .i64 (r.S c).label) := by rw [Blk.cell B3.out]; rfl
        clear h3 g3 B2 G2 H2
        go_wp2_with fail
        refine (write_any _ _ _ _ _ _ _ _ H3.out HLC.out).mono ?_
        rintro e w4 ⟨rfl, h4, g4⟩
        have B4 := hide (Blk.fr B3.out g4 hne)
        have G4 := hide (G3.out.trans g4)
        have H4 := hide h4
        clear h4 g4 B3 G3 H3 x1
        go_wp2_with fail
        refine (kind_any _ _ _ _ _ _ _ _ _ H4.out hc).mono ?_
        rintro e w5 ⟨rfl, h5, g5⟩
        have B5 := hide (Blk.fr B4.out g5 hne)
        have G5 := hide (G4.out.trans g5)
        obtain ⟨k0, -⟩ := h5.rk.things hs
        obtain ⟨d0, d1, -⟩ := h5.ask.cells
        have H5 := hide h5
        clear h5 g5 B4 G4 H4
        rw [hk] at k0
        go_wp2_with fail
        refine (lies_any _ _ _ _ H5.out.rk H5.out.wf).mono ?_
        rintro e w6 ⟨rfl, hb⟩
        have B6 := hide (Blk.below B5.out hb (Blk.lt B5.out))
        have G6 := hide (G5.out.trans (Fr.of_below hb))
        have H6 := hide (H5.out.fr (Fr.of_below hb))
        clear hb B5 G5 H5 k0 d0 d1
        go_wp2_with fail
        refine (fail_any _ _ _ _ _ _ _ 7 H6.out (by omega)).mono ?_
        rintro e w7 ⟨rfl, h7, g7⟩
        have B7 := hide (Blk.fr B6.out g7 hne)
        have G7 := hide (G6.out.trans g7)
        have H7 := hide h7
        have x1 : w7.cell? ⟨w.heap.size, 1, none⟩ = some (.int .i64 (r.S c).label) := by rw [Blk.cell B7.out]; rfl
        clear h7 g7 B6 G6 H6
        go_wp2_with fail
        refine (in_any _ _ _ HLC.out HL.out).mono ?_
        rintro e w8 ⟨rfl, rfl⟩
        rw [HS.out]
        clear x1
        go_wp2_with fail
        refine (fail_any _ _ _ _ _ _ _ 4 H7.out (by omega)).mono ?_
        rintro e w9 ⟨rfl, h9, g9⟩
        have G8 := hide (G7.out.trans g9)
        have H8 := hide h9
        obtain ⟨z0, z1, -⟩ := h9.ask.cells
        clear h9 g9
        go_wp2_with fail
        refine (check_any _ _ _ _ _ _ _ _ _ H8.out H8.out.hT HL.out).mono ?_
        rintro e wz ⟨rfl, hz, gz⟩
        go_wp2_with fail
        go_end0
        exact ⟨rfl, by rw [EM.out]; exact hz, G8.out.trans gz⟩
  · rw [if_neg (c := (r.S s).kind = 0 ∧ lies r.S s = some c) (fun h => hk h.1)] at E0
    have hkb : ((r.S s).kind == 0) = false := by simpa using hk
    by_cases hs1 : sub (r.S c).label l = true
    · rw [if_pos hs1] at E0
      have HS := hide hs1
      clear hs1
      have EM := hide E0
      clear E0
      go_enter Tryz.func71, Tryz.ntmps71
      go_wp2_with fail
      have HB : Hid (Blk (w.alloc (.cells #[.int .i64 (r.S c).kind, .int .i64 (r.S c).label, .int .i64 (r.S c).id, .slice (r.S c).Wa (r.S c).Wn (r.S c).Wc, .int .i64 (r.S c).owns, .bool (r.S c).awake, .int .i64 (r.S c).A, .int .i64 (r.S c).B, .int .i64 (r.S c).G, .int .i64 (r.S c).H] 71)) w.heap.size _) := Blk.new w _ _
      have F0 := hide ((Fr.refl (fun k => k = ab) w).alloc (.cells #[.int .i64 (r.S c).kind, .int .i64 (r.S c).label, .int .i64 (r.S c).id, .slice (r.S c).Wa (r.S c).Wn (r.S c).Wc, .int .i64 (r.S c).owns, .bool (r.S c).awake, .int .i64 (r.S c).A, .int .i64 (r.S c).B, .int .i64 (r.S c).G, .int .i64 (r.S c).H] 71))
      refine (path_any n _ _ _ _ _ _ _ _ (H.out.fr ((Fr.refl _ _).alloc _)) hc HD.out).mono ?_
      rintro e w1 ⟨rfl, h1, g1⟩
      have B1 := hide (Blk.fr HB.out g1 hne)
      have G1 := hide (F0.out.trans g1)
      have H1 := hide h1
      clear h1 g1 F0 HB a0 a1 a2 a3 a4 f3 f4 c0 c1 c2 c3 c4 c5 c6 c7 c8 c9
      go_wp2_with fail
      refine (there_any _ _ _ _ _ _ _ _ H1.out hc).mono ?_
      rintro e w2 ⟨rfl, h2, g2⟩
      have B2 := hide (Blk.fr B1.out g2 hne)
      have G2 := hide (G1.out.trans g2)
      have H2 := hide h2
      have x1 : w2.cell? ⟨w.heap.size, 1, none⟩ = some (.int .i64 (r.S c).label) := by rw [Blk.cell B2.out]; rfl
      clear h2 g2 B1 G1 H1
      go_wp2_with fail
      refine (read_any _ _ _ _ _ _ _ _ H2.out HLC.out).mono ?_
      rintro e w3 ⟨rfl, h3, g3⟩
      have B3 := hide (Blk.fr B2.out g3 hne)
      have G3 := hide (G2.out.trans g3)
      have H3 := hide h3
      clear x1
      have x1 : w3.cell? ⟨w.heap.size, 1, none⟩ = some (.int .i64 (r.S c).label) := by rw [Blk.cell B3.out]; rfl
      clear h3 g3 B2 G2 H2
      go_wp2_with fail
      refine (write_any _ _ _ _ _ _ _ _ H3.out HLC.out).mono ?_
      rintro e w4 ⟨rfl, h4, g4⟩
      have B4 := hide (Blk.fr B3.out g4 hne)
      have G4 := hide (G3.out.trans g4)
      have H4 := hide h4
      clear h4 g4 B3 G3 H3 x1
      go_wp2_with fail
      refine (kind_any _ _ _ _ _ _ _ _ _ H4.out hc).mono ?_
      rintro e w5 ⟨rfl, h5, g5⟩
      have B5 := hide (Blk.fr B4.out g5 hne)
      have G5 := hide (G4.out.trans g5)
      obtain ⟨k0, -⟩ := h5.rk.things hs
      obtain ⟨d0, d1, -⟩ := h5.ask.cells
      have H5 := hide h5
      clear h5 g5 B4 G4 H4
      go_wp2_with fail
      have B6 := B5
      have G6 := G5
      have H6 := H5
      clear B5 G5 H5 k0 d0 d1
      refine (fail_any _ _ _ _ _ _ _ 7 H6.out (by omega)).mono ?_
      rintro e w7 ⟨rfl, h7, g7⟩
      have B7 := hide (Blk.fr B6.out g7 hne)
      have G7 := hide (G6.out.trans g7)
      have H7 := hide h7
      have x1 : w7.cell? ⟨w.heap.size, 1, none⟩ = some (.int .i64 (r.S c).label) := by rw [Blk.cell B7.out]; rfl
      clear h7 g7 B6 G6 H6
      go_wp2_with fail
      refine (in_any _ _ _ HLC.out HL.out).mono ?_
      rintro e w8 ⟨rfl, rfl⟩
      rw [HS.out]
      obtain ⟨z0, z1, -⟩ := H7.out.ask.cells
      clear x1
      go_wp2_with fail
      have G8 := G7
      have H8 := H7
      refine (check_any _ _ _ _ _ _ _ _ _ H8.out H8.out.hT HL.out).mono ?_
      rintro e wz ⟨rfl, hz, gz⟩
      go_wp2_with fail
      go_end0
      exact ⟨rfl, by rw [EM.out]; exact hz, G8.out.trans gz⟩
    · rw [if_neg hs1] at E0
      have hs2 : sub (r.S c).label l = false := by simpa using hs1
      have HS := hide hs2
      clear hs1 hs2
      have EM := hide E0
      clear E0
      go_enter Tryz.func71, Tryz.ntmps71
      go_wp2_with fail
      have HB : Hid (Blk (w.alloc (.cells #[.int .i64 (r.S c).kind, .int .i64 (r.S c).label, .int .i64 (r.S c).id, .slice (r.S c).Wa (r.S c).Wn (r.S c).Wc, .int .i64 (r.S c).owns, .bool (r.S c).awake, .int .i64 (r.S c).A, .int .i64 (r.S c).B, .int .i64 (r.S c).G, .int .i64 (r.S c).H] 71)) w.heap.size _) := Blk.new w _ _
      have F0 := hide ((Fr.refl (fun k => k = ab) w).alloc (.cells #[.int .i64 (r.S c).kind, .int .i64 (r.S c).label, .int .i64 (r.S c).id, .slice (r.S c).Wa (r.S c).Wn (r.S c).Wc, .int .i64 (r.S c).owns, .bool (r.S c).awake, .int .i64 (r.S c).A, .int .i64 (r.S c).B, .int .i64 (r.S c).G, .int .i64 (r.S c).H] 71))
      refine (path_any n _ _ _ _ _ _ _ _ (H.out.fr ((Fr.refl _ _).alloc _)) hc HD.out).mono ?_
      rintro e w1 ⟨rfl, h1, g1⟩
      have B1 := hide (Blk.fr HB.out g1 hne)
      have G1 := hide (F0.out.trans g1)
      have H1 := hide h1
      clear h1 g1 F0 HB a0 a1 a2 a3 a4 f3 f4 c0 c1 c2 c3 c4 c5 c6 c7 c8 c9
      go_wp2_with fail
      refine (there_any _ _ _ _ _ _ _ _ H1.out hc).mono ?_
      rintro e w2 ⟨rfl, h2, g2⟩
      have B2 := hide (Blk.fr B1.out g2 hne)
      have G2 := hide (G1.out.trans g2)
      have H2 := hide h2
      have x1 : w2.cell? ⟨w.heap.size, 1, none⟩ = some (.int .i64 (r.S c).label) := by rw [Blk.cell B2.out]; rfl
      clear h2 g2 B1 G1 H1
      go_wp2_with fail
      refine (read_any _ _ _ _ _ _ _ _ H2.out HLC.out).mono ?_
      rintro e w3 ⟨rfl, h3, g3⟩
      have B3 := hide (Blk.fr B2.out g3 hne)
      have G3 := hide (G2.out.trans g3)
      have H3 := hide h3
      clear x1
      have x1 : w3.cell? ⟨w.heap.size, 1, none⟩ = some (.int .i64 (r.S c).label) := by rw [Blk.cell B3.out]; rfl
      clear h3 g3 B2 G2 H2
      go_wp2_with fail
      refine (write_any _ _ _ _ _ _ _ _ H3.out HLC.out).mono ?_
      rintro e w4 ⟨rfl, h4, g4⟩
      have B4 := hide (Blk.fr B3.out g4 hne)
      have G4 := hide (G3.out.trans g4)
      have H4 := hide h4
      clear h4 g4 B3 G3 H3 x1
      go_wp2_with fail
      refine (kind_any _ _ _ _ _ _ _ _ _ H4.out hc).mono ?_
      rintro e w5 ⟨rfl, h5, g5⟩
      have B5 := hide (Blk.fr B4.out g5 hne)
      have G5 := hide (G4.out.trans g5)
      obtain ⟨k0, -⟩ := h5.rk.things hs
      obtain ⟨d0, d1, -⟩ := h5.ask.cells
      have H5 := hide h5
      clear h5 g5 B4 G4 H4
      go_wp2_with fail
      have B6 := B5
      have G6 := G5
      have H6 := H5
      clear B5 G5 H5 k0 d0 d1
      refine (fail_any _ _ _ _ _ _ _ 7 H6.out (by omega)).mono ?_
      rintro e w7 ⟨rfl, h7, g7⟩
      have B7 := hide (Blk.fr B6.out g7 hne)
      have G7 := hide (G6.out.trans g7)
      have H7 := hide h7
      have x1 : w7.cell? ⟨w.heap.size, 1, none⟩ = some (.int .i64 (r.S c).label) := by rw [Blk.cell B7.out]; rfl
      clear h7 g7 B6 G6 H6
      go_wp2_with fail
      refine (in_any _ _ _ HLC.out HL.out).mono ?_
      rintro e w8 ⟨rfl, rfl⟩
      rw [HS.out]
      clear x1
      go_wp2_with fail
      refine (fail_any _ _ _ _ _ _ _ 4 H7.out (by omega)).mono ?_
      rintro e w9 ⟨rfl, h9, g9⟩
      have G8 := hide (G7.out.trans g9)
      have H8 := hide h9
      obtain ⟨z0, z1, -⟩ := h9.ask.cells
      clear h9 g9
      go_wp2_with fail
      refine (check_any _ _ _ _ _ _ _ _ _ H8.out H8.out.hT HL.out).mono ?_
      rintro e wz ⟨rfl, hz, gz⟩
      go_wp2_with fail
      go_end0
      exact ⟨rfl, by rw [EM.out]; exact hz, G8.out.trans gz⟩

end Go.Proofs.YtloppmepfkkblaaGreat
end

section
/- What the reference's 'put' does. -/
open Go Go.Proofs Go.RowKit
namespace Go.Proofs.YtloppmepfkkblaaGreat

def Th.val (t : Th) : Value := .agg #[.int .i64 t.kind, .int .i64 t.label, .int .i64 t.id, .slice t.Wa t.Wn t.Wc, .int .i64 t.owns, .bool t.awake, .int .i64 t.A, .int .i64 t.B, .int .i64 t.G, .int .i64 t.H]

set_option maxHeartbeats 1000000 in
theorem put_any (w : World) (ab b T O : Nat) (u : Nat) (r : RSt) (s : Nat) (t : Th) (h : AK w ab b T O (u, 0) r) (hs : s < 32) (ht : t.wf) (hm : 0 ≤ r.made) (hm2 : r.made < 4611686018427387904) :
    Calls Tryz.prog 72 #[.pointer (some ⟨ab, 0, none⟩), .int .i64 s, .agg #[.int .i64 t.kind, .int .i64 t.label, .int .i64 t.id, .slice t.Wa t.Wn t.Wc, .int .i64 t.owns, .bool t.awake, .int .i64 t.A, .int .i64 t.B, .int .i64 t.G, .int .i64 t.H]] w fun e' w' =>
      e' = .returned (.tuple #[]) ∧ AK w' ab b T O (u, 0) ((r.mk1 (r.made + 1)).put s { t with id := r.made + 1 }) ∧ Fr (fun k => k = b) w w' := by
  obtain ⟨a0, a1, a2, a3, a4, -, -⟩ := h.ask.cells
  have hlt := h.rk.lt
  have hlt2 : ab < w.heap.size := Blk.lt h.ask
  have hne := h.ne
  have hsi : (s : Int) < 32 := by omega
  have m0 := h.rk.made
  have hfr : ∀ n, w.frozen? ⟨b, n, none⟩ = false := fun n => h.rk.frozen n
  have H := hide h
  clear h
  obtain ⟨c0, c1, c2, c3, c4, c5, c6, c7, c8, c9⟩ := H.out.rk.things hs
  go_enter Tryz.func72, Tryz.ntmps72
  go_wp2_with fail
  go_region
  all_goals go_wp2_with fail
  go_end0
  have F1 := (Fr.own w b 337 (.int .i64 (r.made + 1))).trans (Fr.putTh _ b (s * 10) { t with id := r.made + 1 })
  have F2 := (F1.alloc (.cells #[.int .i64 t.kind, .int .i64 t.label, .int .i64 (r.made + 1), .slice t.Wa t.Wn t.Wc, .int .i64 t.owns, .bool t.awake, .int .i64 t.A, .int .i64 t.B, .int .i64 t.G, .int .i64 t.H] 71)).drew
  have R1 := (H.out.rk.putMade (r.made + 1)).put hs { t with id := r.made + 1 }
  have R2 := (R1.alloc (.cells #[.int .i64 t.kind, .int .i64 t.label, .int .i64 (r.made + 1), .slice t.Wa t.Wn t.Wc, .int .i64 t.owns, .bool t.awake, .int .i64 t.A, .int .i64 t.B, .int .i64 t.G, .int .i64 t.H] 71)).drew
  have A2 := H.out.kturned F2 R2 (RSt.wf.put H.out.wf s ht)
  unfold World.putTh at F2 A2
  dsimp only at F2 A2
  exact ⟨rfl, A2, F2⟩

theorem put_not (w : World) (ab b T O : Nat) (p : Nat × Int) (r : RSt) (s : Nat) (t : Th) (h : AK w ab b T O p r) (hp : p.2 ≠ 0) :
    Calls Tryz.prog 72 #[.pointer (some ⟨ab, 0, none⟩), .int .i64 s, .agg #[.int .i64 t.kind, .int .i64 t.label, .int .i64 t.id, .slice t.Wa t.Wn t.Wc, .int .i64 t.owns, .bool t.awake, .int .i64 t.A, .int .i64 t.B, .int .i64 t.G, .int .i64 t.H]] w fun e' w' =>
      e' = .returned (.tuple #[]) ∧ AK w' ab b T O p r ∧ Fr (fun _ => False) w w' := by
  obtain ⟨a0, a1, a2, a3, a4, -, -⟩ := h.ask.cells
  have hlt2 : ab < w.heap.size := Blk.lt h.ask
  have hp' : (p.2 == 0) = false := by simpa using hp
  have H := hide h
  clear h hp
  go_enter Tryz.func72, Tryz.ntmps72
  go_wp2_with fail
  ((try simp only [Exit.inBlock, Exit.then]); refine bodyPost_ret (results_none rfl _ _ _) rfl ?_)
  exact ⟨rfl, H.out.fr ((Fr.refl _ _).alloc _), (Fr.refl _ _).alloc _⟩

end Go.Proofs.YtloppmepfkkblaaGreat
end

section
/- Arguments in memory; what a trap's words are in memory. -/
open Go Go.Proofs Go.RowKit
namespace Go.Proofs.YtloppmepfkkblaaGreat

/-- The words of a thing: its slice's block g, in which they lie from the first cell on. -/
structure Words (w : World) (t : Th) (ws : List Int) : Prop where
  n : t.Wn = ws.length
  cap : t.Wn ≤ t.Wc
  at' : (t.Wa = none ∧ t.Wc = 0) ∨ ∃ (g : Nat) (cs : Array Value), t.Wa = some ⟨g, 0, none⟩ ∧ Blk w g cs ∧ t.Wc ≤ cs.size ∧ (∀ i, i < t.Wn → ∃ y : Int, cs[i]? = some (Value.int .i64 y)) ∧ ∀ (i : Nat) (x : Int), ws[i]? = some x → cs[i]? = some (Value.int .i64 x)

/-- The block of a thing's words. -/
def Th.wb (t : Th) (g : Nat) : Prop := ∃ o s, t.Wa = some ⟨g, o, s⟩

/-- All words of the reference's kernel in block b; no two things' words share a block; none lies in the kernel's. -/
structure WS (w : World) (b : Nat) (S : Nat → Th) (ws : Nat → List Int) : Prop where
  words : ∀ i, i < 32 → Words w (S i) (ws i)
  apart : ∀ i j g, i < 32 → j < 32 → (S i).wb g → (S j).wb g → i = j
  off : ∀ i g, i < 32 → (S i).wb g → g ≠ b

theorem Words.lt {w : World} {t : Th} {ws : List Int} (h : Words w t ws) {g : Nat} (hg : t.wb g) : g < w.heap.size := by
  obtain ⟨o, s, hg⟩ := hg
  rcases h.at' with ⟨h1, _⟩ | ⟨g', cs, h1, h2, _⟩
  · rw [h1] at hg; cases hg
  · rw [h1] at hg; injection hg with hg; injection hg with hg; rw [← hg]; exact h2.lt

theorem Words.same {w w' : World} {t : Th} {ws : List Int} (h : Words w t ws) (e : ∀ g, t.wb g → w'.heap[g]? = w.heap[g]?) : Words w' t ws := by
  refine ⟨h.n, h.cap, ?_⟩
  rcases h.at' with h1 | ⟨g, cs, h1, h2, h3⟩
  · exact Or.inl h1
  · exact Or.inr ⟨g, cs, h1, h2.same (e g ⟨0, none, h1⟩), h3⟩

theorem WS.fr {P : Nat → Prop} {w w' : World} {b : Nat} {S : Nat → Th} {ws : Nat → List Int} (h : WS w b S ws) (f : Fr P w w') (hp : ∀ i g, i < 32 → (S i).wb g → ¬ P g) : WS w' b S ws :=
  ⟨fun i hi => (h.words i hi).same fun g hg => f.block g ((h.words i hi).lt hg) (hp i g hi hg), h.apart, h.off⟩

end Go.Proofs.YtloppmepfkkblaaGreat
end

section
/- What the law's 'roomy' does. -/
open Go Go.Proofs Go.RowKit
namespace Go.Proofs.YtloppmepfkkblaaGreat

theorem roomy_nil (w : World) :
    Calls Tryz.prog 29 #[.slice none 0 0] w fun e w' => e = .returned (.slice none 0 0) ∧ w' = w := by
  have he := @Lib.run_eql_slice_nil Tryz.prog
  go_enter Tryz.func29, Tryz.ntmps29
  go_wp2_with fail
  go_ret
  exact ⟨rfl, rfl⟩

/-- The caller's own numbers with eight behind them. -/
def padded (xs : List Int) : List Int := xs ++ [-77, -77, -77, -77, -77, -77, -77, -77]

/-- Numbers lie in block g from its first cell on; it may be written. -/
structure Row (w : World) (g : Nat) (xs : List Int) : Prop where
  blk : ∃ cs : Array Value, Blk w g cs ∧ xs.length ≤ cs.size ∧ ∀ (i : Nat) (x : Int), xs[i]? = some x → cs[i]? = some (Value.int .i64 x)

theorem row_of_owns {w : World} {base : Nat} {e : TypeId} {v : Value} {n : Nat} {xs : List Int} (h : w.ownsRow base e 1 v n (xs.map (Value.int .i64))) (hn : 0 < n) :
    ∃ g cap, v = .slice (some ⟨g, 0, none⟩) n cap ∧ base ≤ g ∧ n ≤ cap ∧ Row w g xs := by
  rcases h.2 with ⟨_, h0⟩ | ⟨g, cap, cur, hv, hb, hg, hc, _, hsz, htk⟩
  · omega
  · refine ⟨g, cap, hv, hb, hc, cur, ⟨e, hg⟩, ?_, fun i x hx => ?_⟩
    · have h1 := h.1
      simp at h1
      omega
    · have hi : i < xs.length := (List.getElem?_eq_some_iff.1 hx).1
      have h1 := h.1
      simp at h1
      have h2 : (xs.map (Value.int .i64))[i]? = some (Value.int .i64 x) := by simp [hx]
      rw [← htk, List.getElem?_take_of_lt (by omega)] at h2
      simpa using h2

theorem owns_alloc {w : World} {base : Nat} {e : TypeId} {size : Nat} {v : Value} {n : Nat} {xs : List Value} (h : w.ownsRow base e size v n xs) (o : Obj) : (w.alloc o).ownsRow base e size v n xs := by
  refine ⟨h.1, ?_⟩
  rcases h.2 with h1 | ⟨g, cap, cur, h1, h2, h3, h4⟩
  · exact Or.inl h1
  · exact Or.inr ⟨g, cap, cur, h1, h2, by rw [Below.heap_alloc _ _ _ (Array.getElem?_eq_some_iff.1 h3).1]; exact h3, h4⟩

set_option maxHeartbeats 2000000 in
theorem roomy_any (w : World) (lb lo cap : Nat) (xs : List Int) (hx0 : 0 < xs.length) (hm : xs.length ≤ 17592186043904) (ha : Arg w lb lo xs) :
    Calls Tryz.prog 29 #[.slice (some ⟨lb, lo, none⟩) xs.length cap] w fun e w' => ∃ g c, e = .returned (.slice (some ⟨g, 0, none⟩) xs.length c) ∧ xs.length + 8 ≤ c ∧ w.heap.size ≤ g ∧ Row w' g (padded xs) ∧ Below w.heap.size w w' := by
  have he := fun w => Lib.run_eql_slice_nil (P := Tryz.prog) w 32 3 (some ⟨lb, lo, none⟩) xs.length cap 0 0 Tryz.underlying32
  have HA := hide ha
  clear ha
  go_enter Tryz.func29, Tryz.ntmps29
  iterate 30 (first | go_step | go_simp)
  refine wpList_append_lies _ (by rfl) _ _ 32 (by rfl) w.heap.size 3 Tryz.t3 (.int .i64 0) 1 8 Tryz.underlying32 (by kernel_rfl) (by kernel_rfl) (by kernel_rfl) (by kernel_rfl) (by rfl) (by omega) (.slice none 0 0) 0 [] (by rfl) ⟨by simp, Or.inl ⟨rfl, rfl⟩⟩ ⟨lb, lo, none⟩ xs.length cap (xs.map (Value.int .i64)) (by rfl) (by simp) ?_ ?_ hx0 (by unfold maxLen; omega) (by omega) (Nat.le_refl _) w.heap.size rfl ?_
  · intro j u hu
    have hj : (⟨lb, lo, none⟩ : Addr).add j = ⟨lb, lo + j, none⟩ := by unfold Addr.add; split <;> simp_all
    rw [hj]
    simp at hu
    obtain ⟨x, hx, rfl⟩ := hu
    exact HA.out.cell j x hx
  · intro u hu
    obtain ⟨x, _, rfl⟩ := List.mem_map.1 hu
    rfl
  intro g1 cap1 w1 hown1 hgr1 hat1 hlt1
  have hg1 : g1 = w.heap.size := by
    rcases hat1 with h | h
    · cases h
    · exact h
  subst hg1
  simp only [Nat.zero_add, List.nil_append] at hown1
  have HO1 := hide hown1
  have HG1 := hide hgr1
  clear hown1 hgr1 hat1
  iterate 3 (first | go_step | go_simp)
  have BN := Blk.new w1 #[.int .i64 (-77), .int .i64 (-77), .int .i64 (-77), .int .i64 (-77), .int .i64 (-77), .int .i64 (-77), .int .i64 (-77), .int .i64 (-77)] 3
  refine wpList_append_lies _ (by rfl) _ _ 32 (by rfl) w.heap.size 3 Tryz.t3 (.int .i64 0) 1 8 Tryz.underlying32 (by kernel_rfl) (by kernel_rfl) (by kernel_rfl) (by kernel_rfl) (by rfl) (by omega) (.slice (some ⟨w.heap.size, 0, none⟩) xs.length cap1) xs.length (xs.map (Value.int .i64)) (by rfl) (owns_alloc HO1.out _) ⟨w1.heap.size, 0, none⟩ 8 8 ([-77, -77, -77, -77, -77, -77, -77, -77].map (Value.int .i64)) (by rfl) (by simp) ?_ ?_ (by omega) (by unfold maxLen; omega) (by omega) (by have := HG1.out.size; simp; omega) (w1.heap.size + 1) (by simp) ?_
  · intro j u hu
    obtain ⟨T, hT⟩ := BN
    exact World.news_of_block hT j u hu
  · intro u hu
    obtain ⟨x, _, rfl⟩ := List.mem_map.1 hu
    rfl
  intro g2 cap2 w2 hown2 hgr2 hat2 hlt2
  have hpad : xs.map (Value.int .i64) ++ ([-77, -77, -77, -77, -77, -77, -77, -77].map (Value.int .i64)) = (padded xs).map (Value.int .i64) := by unfold padded; simp
  rw [hpad] at hown2
  obtain ⟨g3, cap3, hv, hb3, hc3, hrow⟩ := row_of_owns hown2 (by omega)
  injection hv with hv1 hv2 hv3
  injection hv1 with hv1
  injection hv1 with hv1
  subst hv1 hv3
  have HR := hide hrow
  have HB : Hid (Below w.heap.size w w2) := by
    have h1 : Below w.heap.size w w1 := (Below.refl _ _).grown HG1.out (Nat.le_refl _) (fun k hk => by cases hk)
    exact (h1.alloc h1.size _).grown hgr2 (by have := h1.size; simp; omega) (fun k hk => by injection hk with hk; subst hk; simp)
  have hc3' : (xs.length : Int) ≤ (cap2 : Int) := by omega
  clear hown2 hgr2 hat2 BN hrow hpad
  go_wp2_with fail
  go_ret
  exact ⟨g2, cap2, rfl, by omega, hb3, HR.out, HB.out⟩

set_option maxHeartbeats 2000000 in
theorem roomy_empty (w : World) (a : Addr) (cap : Nat) :
    Calls Tryz.prog 29 #[.slice (some a) 0 cap] w fun e w' => ∃ g c, e = .returned (.slice (some ⟨g, 0, none⟩) 0 c) ∧ 8 ≤ c ∧ w.heap.size ≤ g ∧ Row w' g (padded []) ∧ Below w.heap.size w w' := by
  have he := fun w => Lib.run_eql_slice_nil (P := Tryz.prog) w 32 3 (some a) 0 cap 0 0 Tryz.underlying32
  have hap : ∀ w, (Builtin.append_ #[32, 32] 32 #[.slice none 0 0, .slice (some a) 0 cap]).run Tryz.prog w = .ok (.slice none 0 0) w := fun w => by kernel_rfl
  go_enter Tryz.func29, Tryz.ntmps29
  iterate 36 (first | go_step | go_simp)
  have BN := Blk.new w #[.int .i64 (-77), .int .i64 (-77), .int .i64 (-77), .int .i64 (-77), .int .i64 (-77), .int .i64 (-77), .int .i64 (-77), .int .i64 (-77)] 3
  refine wpList_append_lies _ (by rfl) _ _ 32 (by rfl) w.heap.size 3 Tryz.t3 (.int .i64 0) 1 8 Tryz.underlying32 (by kernel_rfl) (by kernel_rfl) (by kernel_rfl) (by kernel_rfl) (by rfl) (by omega) (.slice none 0 0) 0 [] (by rfl) ⟨by simp, Or.inl ⟨rfl, rfl⟩⟩ ⟨w.heap.size, 0, none⟩ 8 8 ([-77, -77, -77, -77, -77, -77, -77, -77].map (Value.int .i64)) (by rfl) (by simp) ?_ ?_ (by omega) (by unfold maxLen; omega) (by omega) (by simp) (w.heap.size + 1) (by simp) ?_
  · intro j u hu
    obtain ⟨T, hT⟩ := BN
    exact World.news_of_block hT j u hu
  · intro u hu
    obtain ⟨x, _, rfl⟩ := List.mem_map.1 hu
    rfl
  intro g2 cap2 w2 hown2 hgr2 hat2 hlt2
  have hpad : [] ++ ([-77, -77, -77, -77, -77, -77, -77, -77].map (Value.int .i64)) = (padded []).map (Value.int .i64) := rfl
  rw [hpad] at hown2
  obtain ⟨g3, cap3, hv, hb3, hc3, hrow⟩ := row_of_owns hown2 (by omega)
  injection hv with hv1 hv2 hv3
  injection hv1 with hv1
  injection hv1 with hv1
  subst hv1 hv3
  have HR := hide hrow
  have HB : Hid (Below w.heap.size w w2) := ((Below.refl _ _).alloc (Nat.le_refl _) _).grown hgr2 (by simp) (fun k hk => by cases hk)
  have hc3' : (8 : Int) ≤ (cap2 : Int) := by omega
  clear hown2 hgr2 hat2 BN hrow hpad
  go_wp2_with fail
  go_ret
  exact ⟨g2, cap2, rfl, by omega, hb3, HR.out, HB.out⟩

end Go.Proofs.YtloppmepfkkblaaGreat
end

section
/- What the law's 'kept' does. -/
open Go Go.Proofs Go.RowKit
namespace Go.Proofs.YtloppmepfkkblaaGreat

theorem kept_nil (w : World) :
    Calls Tryz.prog 31 #[.slice none 0 0, .slice none 0 0] w fun e w' => e = .returned (.bool true) ∧ w' = w := by
  have he := fun w => Lib.run_eql_slice_nil (P := Tryz.prog) w 32 3 none 0 0 0 0 Tryz.underlying32
  go_enter Tryz.func31, Tryz.ntmps31
  go_wp2_with fail
  go_ret
  exact ⟨rfl, rfl⟩

theorem Row.cell {w : World} {g : Nat} {xs : List Int} (h : Row w g xs) {i : Nat} {x : Int} (hx : xs[i]? = some x) : w.cell? ⟨g, i, none⟩ = some (.int .i64 x) := by
  obtain ⟨cs, h1, _, h3⟩ := h.blk
  rw [h1.cell, h3 i x hx]

theorem padded_lo {xs : List Int} {i : Nat} (h : i < xs.length) : (padded xs)[i]? = some (xs.getD i 0) := by
  unfold padded
  rw [List.getElem?_append_left h, List.getElem?_eq_getElem h, List.getD_eq_getElem?_getD, List.getElem?_eq_getElem h]; rfl
theorem padded_hi {xs : List Int} {i : Nat} (h : xs.length ≤ i) (h2 : i < xs.length + 8) : (padded xs)[i]? = some (-77) := by
  unfold padded
  rw [List.getElem?_append_right h]
  have : i - xs.length < 8 := by omega
  generalize i - xs.length = j at *
  have hj : j = 0 ∨ j = 1 ∨ j = 2 ∨ j = 3 ∨ j = 4 ∨ j = 5 ∨ j = 6 ∨ j = 7 := by omega
  rcases hj with rfl | rfl | rfl | rfl | rfl | rfl | rfl | rfl <;> rfl

set_option maxHeartbeats 2000000 in
theorem kept_any (w : World) (g c cap : Nat) (la : Addr) (xs : List Int) (hm : xs.length ≤ 17592186043904) (hc : xs.length + 8 ≤ c) (hr : Row w g (padded xs)) (hl : xs = [] ∨ ∃ lb lo, la = ⟨lb, lo, none⟩ ∧ Arg w lb lo xs) :
    Calls Tryz.prog 31 #[.slice (some ⟨g, 0, none⟩) xs.length c, .slice (some la) xs.length cap] w fun e w' => e = .returned (.bool true) ∧ w' = w := by
  have he := fun w => Lib.run_eql_slice_nil (P := Tryz.prog) w 32 3 (some la) xs.length cap 0 0 Tryz.underlying32
  have HR := hide hr
  have HL := hide hl
  have hci : (xs.length : Int) + 8 ≤ (c : Int) := by omega
  clear hr hl
  go_enter Tryz.func31, Tryz.ntmps31
  go_wp2_with fail
  go_loop [6] (fun i => ∃ k : Nat, k ≤ xs.length + 8 ∧ i = .int .i64 k) (fun i => xs.length + 8 - (intOf i).toNat)
  case atStart => exact ⟨0, by omega, rfl⟩
  case round =>
    obtain ⟨k, hk, rfl⟩ := hrel
    by_cases hkn : k < xs.length
    · have hki : (k : Int) < (xs.length : Int) := by omega
      have hki2 : (k : Int) < (xs.length : Int) + 8 := by omega
      rcases HL.out with h | ⟨lb, lo, h, ha⟩
      · subst h; simp at hkn
      · subst h
        have c0 := HR.out.cell (padded_lo hkn)
        have c1 := ha.cell k (xs.getD k 0) (by rw [List.getD_eq_getElem?_getD, List.getElem?_eq_getElem hkn]; rfl)
        clear ha
        go_wp2_with fail
        go_round
        case rel => exact ⟨k + 1, by omega, by go_num⟩
        case measure => simp [intOf]; omega
    · by_cases hk8 : k < xs.length + 8
      · have hki : ¬ (k : Int) < (xs.length : Int) := by omega
        have hki2 : (k : Int) < (xs.length : Int) + 8 := by omega
        have c0 := HR.out.cell (padded_hi (by omega) hk8)
        go_wp2_with fail
        go_round
        case rel => exact ⟨k + 1, by omega, by go_num⟩
        case measure => simp [intOf]; omega
      · have hki2 : ¬ (k : Int) < (xs.length : Int) + 8 := by omega
        go_wp2_with fail
        go_ret
        exact ⟨rfl, rfl⟩

end Go.Proofs.YtloppmepfkkblaaGreat
end

section
/- What the reference's 'Shape' does. -/
open Go Go.Proofs Go.RowKit
namespace Go.Proofs.YtloppmepfkkblaaGreat

theorem shape_not (w : World) (n : Int) (h : n < 1 ∨ 17 ≤ n) :
    Calls Tryz.prog 39 #[.int .i64 n] w fun e w' => e = .returned (.tuple #[.string ⟨#[]⟩, .bool false]) ∧ Below w.heap.size w w' := by
  rcases h with h | h
  · go_enter Tryz.func39, Tryz.ntmps39
    go_wp2_with fail
    go_ret2
    exact ⟨rfl, by (repeat (first | exact Below.refl _ _ | refine Below.drew ?_ | refine below_drewN ?_ _ | refine Below.alloc ?_ (by simp <;> omega) _))⟩
  · have h1 : ¬ n < 1 := by omega
    go_enter Tryz.func39, Tryz.ntmps39
    go_wp2_with fail
    go_ret2
    exact ⟨rfl, by (repeat (first | exact Below.refl _ _ | refine Below.drew ?_ | refine below_drewN ?_ _ | refine Below.alloc ?_ (by simp <;> omega) _))⟩

set_option maxHeartbeats 4000000 in
theorem shape_yes (w : World) (n : Int) (h1 : 1 ≤ n) (h2 : n < 17) :
    Calls Tryz.prog 39 #[.int .i64 n] w fun e w' => e = .returned (.tuple #[.string ⟨(shapeL n).toArray⟩, .bool true]) ∧ Below w.heap.size w w' := by
  have hn : n = 1 ∨ n = 2 ∨ n = 3 ∨ n = 4 ∨ n = 5 ∨ n = 6 ∨ n = 7 ∨ n = 8 ∨ n = 9 ∨ n = 10 ∨ n = 11 ∨ n = 12 ∨ n = 13 ∨ n = 14 ∨ n = 15 ∨ n = 16 := by omega
  clear h1 h2
  rcases hn with rfl | rfl | rfl | rfl | rfl | rfl | rfl | rfl | rfl | rfl | rfl | rfl | rfl | rfl | rfl | rfl
  all_goals
    go_enter Tryz.func39, Tryz.ntmps39
    go_wp2_with fail
    go_ret2
    exact ⟨rfl, by (repeat (first | exact Below.refl _ _ | refine Below.drew ?_ | refine below_drewN ?_ _ | refine Below.alloc ?_ (by simp <;> omega) _))⟩

end Go.Proofs.YtloppmepfkkblaaGreat
end

section
/- What the reference's 'within' does. -/
open Go Go.Proofs Go.RowKit
namespace Go.Proofs.YtloppmepfkkblaaGreat

theorem within_any (w : World) (n lo hi : Int) :
    Calls Tryz.prog 68 #[.int .i64 n, .int .i64 lo, .int .i64 hi] w fun e w' => e = .returned (.bool (decide (lo ≤ n ∧ n ≤ hi))) ∧ w' = w := by
  by_cases h1 : lo ≤ n
  · by_cases h2 : n ≤ hi
    · go_enter Tryz.func68, Tryz.ntmps68
      go_wp2
      go_ret
      exact ⟨ret_bool (by simp [h1, h2]), rfl⟩
    · go_enter Tryz.func68, Tryz.ntmps68
      go_wp2
      go_ret
      exact ⟨ret_bool (by simp; omega), rfl⟩
  · go_enter Tryz.func68, Tryz.ntmps68
    go_wp2
    go_ret
    exact ⟨ret_bool (by simp; omega), rfl⟩

theorem within_yes (w : World) (n lo hi : Int) (h : lo ≤ n ∧ n ≤ hi) :
    Calls Tryz.prog 68 #[.int .i64 n, .int .i64 lo, .int .i64 hi] w fun e w' => e = .returned (.bool true) ∧ w' = w := by
  have := within_any w n lo hi
  rw [decide_eq_true h] at this
  exact this
theorem within_no (w : World) (n lo hi : Int) (h : ¬ (lo ≤ n ∧ n ≤ hi)) :
    Calls Tryz.prog 68 #[.int .i64 n, .int .i64 lo, .int .i64 hi] w fun e w' => e = .returned (.bool false) ∧ w' = w := by
  have := within_any w n lo hi
  rw [decide_eq_false h] at this
  exact this

end Go.Proofs.YtloppmepfkkblaaGreat
end
