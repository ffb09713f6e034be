/- What the reference's 'lies' and 'has' do: the container with the least range of slots. -/
import Derived.Test.YtflniddofmnkaaaProg
import Derived.Test.YtflniddofmnkaaaRefBase
open Go Go.Proofs Go.RowKit
namespace Go.Proofs.Ytflniddofmnkaaa

set_option maxHeartbeats 1000000 in
theorem lies_any (w : World) (b : Nat) (r : RSt) (s : Int) (hr : RK w b r) (hw : r.wf) :
    Calls Try.prog 65 #[.pointer (some ⟨b, 0, none⟩), .int .i64 s] w fun e w' => e = .returned (.int .i64 (oi (lies r.S s))) ∧ Below w.heap.size w w' := by
  have hlt := hr.lt
  have HR : Hid (RK w b r) := hr
  have HW : Hid r.wf := hw
  clear hr hw
  go_enter Try.func65, Try.ntmps65
  go_wp2_with fail
  go_loopw [5, 6] (fun best c w' => ∃ k : Nat, k ≤ 32 ∧ c = .int .i64 k ∧ best = .int .i64 (seek r.S Th.A Th.B s k) ∧ Below w.heap.size w w') (fun _ c _ => 32 - (intOf c).toNat)
  case atStart => exact ⟨0, by omega, rfl, rfl, Below.refl _ _⟩
  case round =>
    obtain ⟨k, hk, rfl, rfl, hb⟩ := hrel
    by_cases hk32 : k < 32
    · have hr := RK.below HR.out hb hlt
      obtain ⟨c0, c1, c2, c3, c4, c5, c6, c7, c8, c9⟩ := hr.things hk32
      have HR' : Hid (RK wr b r) := hr
      have hlt' := hr.lt
      clear hr
      have hB : ∀ o, Below w.heap.size w (wr.alloc o) := fun o => hb.alloc hb.size o
      go_wp2_with fail
      rotate_left
      · obtain ⟨bd1, bd2, bd3, bd4, -, -⟩ := HW.out k hk32
        have hll := seek_lt r.S Th.A Th.B s k
        by_cases hneg : seek r.S Th.A Th.B s k < 0
        · have hd : decide (seek r.S Th.A Th.B s k < 0) = true := by simpa using hneg
          go_quiet (fail)
          go_wp2_with fail
          exact ⟨⟨k + 1, by omega, by go_num, by rw [seek_take ‹_› ‹_› (by omega) (Or.inl hneg)], below_drewN (hB _) _⟩, by simp [intOf]; omega⟩
        · obtain ⟨n, hn⟩ := Int.eq_ofNat_of_zero_le (Int.not_lt.1 hneg)
          have hn32 : n < 32 := by omega
          obtain ⟨-, -, -, -, -, -, d6, d7, -⟩ := (HR'.out).things hn32
          obtain ⟨be1, be2, be3, be4, -, -⟩ := HW.out n hn32
          simp only [hn]
          have HN : Hid (seek r.S Th.A Th.B s k = (n : Int)) := hn
          have hd : decide ((n : Int) < 0) = false := by simp
          have hn0 : (0 : Int) ≤ (n : Int) := by omega
          have hn1 : (n : Int) < 32 := by omega
          clear hn hneg hll
          go_quiet (fail)
          go_wp2_with fail
          · exact ⟨⟨k + 1, by omega, by go_num, by rw [seek_take ‹_› ‹_› (by omega) (Or.inr (by rw [HN.out, Int.toNat_natCast]; assumption))], below_drewN (hB _) _⟩, by simp [intOf]; omega⟩
          · exact ⟨⟨k + 1, by omega, by go_num, by rw [seek_stay HN.out (by omega)], below_drewN (hB _) _⟩, by simp [intOf]; omega⟩
      all_goals exact ⟨⟨k + 1, by omega, by go_num, by rw [seek_skip (by omega)], hB _⟩, by simp [intOf]; omega⟩
    · go_wp2_with fail
      go_ret
      have : k = 32 := by omega
      subst this
      exact ⟨ret_i64 (lies_oi _ _), hb⟩

set_option maxHeartbeats 1000000 in
theorem has_any (w : World) (b : Nat) (r : RSt) (s : Int) (hr : RK w b r) (hw : r.wf) :
    Calls Try.prog 67 #[.pointer (some ⟨b, 0, none⟩), .int .i64 s] w fun e w' => e = .returned (.int .i64 (oi (has r.S s))) ∧ Below w.heap.size w w' := by
  have hlt := hr.lt
  have HR : Hid (RK w b r) := hr
  have HW : Hid r.wf := hw
  clear hr hw
  go_enter Try.func67, Try.ntmps67
  go_wp2_with fail
  go_loopw [5, 6] (fun best c w' => ∃ k : Nat, k ≤ 32 ∧ c = .int .i64 k ∧ best = .int .i64 (seek r.S Th.G Th.H s k) ∧ Below w.heap.size w w') (fun _ c _ => 32 - (intOf c).toNat)
  case atStart => exact ⟨0, by omega, rfl, rfl, Below.refl _ _⟩
  case round =>
    obtain ⟨k, hk, rfl, rfl, hb⟩ := hrel
    by_cases hk32 : k < 32
    · have hr := RK.below HR.out hb hlt
      obtain ⟨c0, c1, c2, c3, c4, c5, c6, c7, c8, c9⟩ := hr.things hk32
      have HR' : Hid (RK wr b r) := hr
      have hlt' := hr.lt
      clear hr
      have hB : ∀ o, Below w.heap.size w (wr.alloc o) := fun o => hb.alloc hb.size o
      go_wp2_with fail
      rotate_left
      · obtain ⟨bd1, bd2, bd3, bd4, -, -⟩ := HW.out k hk32
        have hll := seek_lt r.S Th.G Th.H s k
        by_cases hneg : seek r.S Th.G Th.H s k < 0
        · have hd : decide (seek r.S Th.G Th.H s k < 0) = true := by simpa using hneg
          go_quiet (fail)
          go_wp2_with fail
          exact ⟨⟨k + 1, by omega, by go_num, by rw [seek_take ‹_› ‹_› (by omega) (Or.inl hneg)], below_drewN (hB _) _⟩, by simp [intOf]; omega⟩
        · obtain ⟨n, hn⟩ := Int.eq_ofNat_of_zero_le (Int.not_lt.1 hneg)
          have hn32 : n < 32 := by omega
          obtain ⟨-, -, -, -, -, -, d6, d7, -⟩ := (HR'.out).things hn32
          obtain ⟨be1, be2, be3, be4, -, -⟩ := HW.out n hn32
          simp only [hn]
          have HN : Hid (seek r.S Th.G Th.H s k = (n : Int)) := hn
          have hd : decide ((n : Int) < 0) = false := by simp
          have hn0 : (0 : Int) ≤ (n : Int) := by omega
          have hn1 : (n : Int) < 32 := by omega
          clear hn hneg hll
          go_quiet (fail)
          go_wp2_with fail
          · exact ⟨⟨k + 1, by omega, by go_num, by rw [seek_take ‹_› ‹_› (by omega) (Or.inr (by rw [HN.out, Int.toNat_natCast]; assumption))], below_drewN (hB _) _⟩, by simp [intOf]; omega⟩
          · exact ⟨⟨k + 1, by omega, by go_num, by rw [seek_stay HN.out (by omega)], below_drewN (hB _) _⟩, by simp [intOf]; omega⟩
      all_goals exact ⟨⟨k + 1, by omega, by go_num, by rw [seek_skip (by omega)], hB _⟩, by simp [intOf]; omega⟩
    · go_wp2_with fail
      go_ret
      have : k = 32 := by omega
      subst this
      exact ⟨ret_i64 (has_oi _ _), hb⟩

end Go.Proofs.Ytflniddofmnkaaa
