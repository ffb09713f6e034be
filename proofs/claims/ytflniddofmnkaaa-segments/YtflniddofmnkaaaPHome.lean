/- What the program's 'home' does: the container in which a slot lies. -/
import Derived.Test.YtflniddofmnkaaaPCur
import Derived.Deep.MidRow
open Go Go.Proofs Go.RowKit
namespace Go.Proofs.Ytflniddofmnkaaa

def slotVs (S : Nat → Th) (ob : Nat → Nat) : List Value := (List.range 32).map fun i => obV (S i) (ob i)

theorem slotVs_at {S : Nat → Th} {ob : Nat → Nat} {k : Nat} (hk : k < 32) : (slotVs S ob)[k]? = some (obV (S k) (ob k)) := by
  unfold slotVs
  simp [hk]

theorem run_index_slots (w : World) (S : Nat → Th) (ob : Nat → Nat) (k : Nat) (hk : k < 32) :
    (Instr.index 74 (.agg (slotVs S ob).toArray) (.int .i64 k)).run Try.prog w = .ok (obV (S k) (ob k)) w := by
  have hs := slotVs_at (S := S) (ob := ob) hk
  simp [Instr.index, go_sem, part, hs]
  intro h
  omega

/-- The search, as a slot or none. -/
def sk (S : Nat → Th) (s : Int) (k : Nat) : Option Nat := if seek S Th.A Th.B s k < 0 then none else some (seek S Th.A Th.B s k).toNat

section
variable {S : Nat → Th} {s : Int} {k : Nat}
theorem sk_lies : sk S s 32 = lies S s := rfl
theorem sk_skip (h : (S k).kind ≠ 1 ∨ s < (S k).A ∨ (S k).B ≤ s) : sk S s (k + 1) = sk S s k := by
  unfold sk
  rw [seek_skip (lo := Th.A) (hi := Th.B) h]
theorem sk_seek {n : Nat} (h : sk S s k = some n) : seek S Th.A Th.B s k = n := by
  unfold sk at h
  split at h
  · cases h
  · injection h with h
    omega
theorem sk_none (h : sk S s k = none) : seek S Th.A Th.B s k < 0 := by
  unfold sk at h
  split at h
  · assumption
  · cases h
theorem sk_some {n : Nat} (h : seek S Th.A Th.B s k = n) : sk S s k = some n := by
  unfold sk
  rw [h, if_neg (by omega), Int.toNat_natCast]
theorem sk_take (h1 : (S k).kind = 1) (h2 : (S k).A ≤ s) (h3 : s < (S k).B) (h : sk S s k = none ∨ ∃ n, sk S s k = some n ∧ (S k).B - (S k).A < (S n).B - (S n).A) : sk S s (k + 1) = some k := by
  refine sk_some (seek_take h1 h2 h3 ?_)
  rcases h with h | ⟨n, h, h'⟩
  · exact Or.inl (sk_none h)
  · right
    rw [sk_seek h, Int.toNat_natCast]
    exact h'
theorem sk_stay {n : Nat} (hn : sk S s k = some n) (h : (S n).B - (S n).A ≤ (S k).B - (S k).A) : sk S s (k + 1) = some n := sk_some (seek_stay (sk_seek hn) h)
end
theorem sk_at {S : Nat → Th} {s : Int} : ∀ {k n : Nat}, sk S s k = some n → k ≤ 32 → n < 32 ∧ (S n).kind = 1
  | 0, n, h, _ => by simp [sk, seek] at h
  | k + 1, n, h, hk => by
    by_cases h1 : (S k).kind ≠ 1 ∨ s < (S k).A ∨ (S k).B ≤ s
    · rw [sk_skip h1] at h
      exact sk_at h (by omega)
    · cases hs : sk S s k with
      | none =>
        rw [sk_take (by omega) (by omega) (by omega) (Or.inl hs)] at h
        injection h with h
        subst h
        exact ⟨by omega, by omega⟩
      | some m =>
        by_cases h2 : (S k).B - (S k).A < (S m).B - (S m).A
        · rw [sk_take (by omega) (by omega) (by omega) (Or.inr ⟨m, hs, h2⟩)] at h
          injection h with h
          subst h
          exact ⟨by omega, by omega⟩
        · rw [sk_stay hs (by omega)] at h
          injection h with h
          subst h
          exact sk_at hs (by omega)

set_option maxRecDepth 100000 in
set_option maxHeartbeats 2000000 in
theorem home_any {w : World} {kb : Nat} {S : Nat → Th} {ws : Nat → List Int} {lq : Nat → Option Nat} {ph : Nat} {ob : Nat → Nat} {qp : Nat → Option Nat} (h : PK w kb S ws lq ph ob qp) (s : Int) :
    Calls Try.prog 80 #[.pointer (some ⟨kb, 0, none⟩), .int .i64 s] w fun e w' => e = .returned (ptrV ((lies S s).map ob)) ∧ Below w.heap.size w w' := by
  have hR : w.rangeAt kb 0 (slotVs S ob) := fun j v hv => by
    have hj : j < 32 := by
      have := (List.getElem?_eq_some_iff.1 hv).1
      simpa [slotVs] using this
    rw [slotVs_at hj] at hv
    injection hv with hv
    rw [← hv, Nat.zero_add]
    exact h.slot hj
  have HR := hide hR
  have H := hide h
  have hlt := h.lt
  clear hR h
  go_enter Try.func80, Try.ntmps80
  go_wp2_with (refine wpList_load_mid rfl 74 _ rfl kb 0 rfl (slotVs S ob) _ HR.out Try.underlying74 rfl (by kernel_rfl) ?_)
  go_loopw [5, 14] (fun best c w' => ∃ k : Nat, k ≤ 32 ∧ c = .int .i64 k ∧ best = ptrV ((sk S s k).map ob) ∧ Below w.heap.size w w') (fun _ c _ => 32 - (intOf c).toNat)
  case atStart => exact ⟨0, by omega, rfl, rfl, Below.refl _ _⟩
  case round =>
    obtain ⟨k, hk, rfl, rfl, hb⟩ := hrel
    by_cases hk32 : k < 32
    · have hP := H.out.below hb
      have hix : ∀ w, (Instr.index 74 (.agg (slotVs S ob).toArray) (.int .i64 k)).run Try.prog w = .ok (obV (S k) (ob k)) w := fun w => run_index_slots w S ob k hk32
      have HB := hide hb
      have hki : (k : Int) < 32 := by omega
      have HP := hide hP
      clear hb hP
      rcases H.out.kinds k hk32 with e | e | e | e
      · have ev : obV (S k) (ob k) = .nilIface := by simp [obV, e]
        have E1 := hide (sk_skip (S := S) (s := s) (k := k) (Or.inl (by omega)))
        rw [ev] at hix
        clear ev e
        have hta := ta_container_nil
        go_wp2_with fail
        exact ⟨⟨k + 1, by omega, by go_num, by rw [E1.out], HB.out⟩, by simp [intOf]; omega⟩
      · have ev : obV (S k) (ob k) = .iface 116 (.pointer (some ⟨ob k, 0, none⟩)) := by simp [obV, e]
        rw [ev] at hix
        have hta := fun w => ta_container_container w (ob k)
        obtain ⟨c3, c4, -, -⟩ := HP.out.cont hk32 e
        have hol := HP.out.oblt hk32 (by omega)
        have E := hide e
        clear ev e
        by_cases hin : (S k).A ≤ s ∧ s < (S k).B
        · have HIN := hide hin
          clear hin
          go_wp2_with fail
          refine (has_yes _ _ _ _ HIN.out.1 HIN.out.2).mono ?_
          rintro e w1 ⟨rfl, hb1⟩
          have HB1 := hide (HB.out.trans (hb1.mono HB.out.size))
          have HP1 := hide (HP.out.below hb1)
          obtain ⟨d3, d4, -, -⟩ := HP1.out.cont hk32 E.out
          have hol1 := HP1.out.oblt hk32 (by have := E.out; omega)
          have u3 := later_cell d3 hol1
          have u4 := later_cell d4 hol1
          obtain ⟨f1, f2, f3, f4, -, -⟩ := HP1.out.wf k hk32
          clear hb1 c3 c4 d3 d4
          go_wp2_with fail
          rcases hsk : sk S s k with _ | n
          · simp only [Option.map, ptrV]
            have E1 := hide (sk_take (S := S) (s := s) (k := k) E.out HIN.out.1 HIN.out.2 (Or.inl hsk))
            clear hsk
            have hne : Nonempty (Later w1) := ⟨⟨w1, Below.refl _ _⟩⟩
            refine wp_region_later (by kernel_rfl) (by kernel_rfl) ?_
            repeat (go_big_quiet_step (fail))
            refine wpQuiet_nil ?_
            rintro _ ⟨wl, rfl⟩
            clear hne
            go_wp2_with fail
            exact ⟨⟨k + 1, by omega, by go_num, by rw [E1.out]; rfl, HB1.out.trans (wl.2.mono HB1.out.size)⟩, by simp [intOf]; omega⟩
          · obtain ⟨hn32, hn1⟩ := sk_at hsk (by omega)
            simp only [Option.map, ptrV]
            obtain ⟨g3, g4, -, -⟩ := HP1.out.cont hn32 hn1
            have holn := HP1.out.oblt hn32 (by omega)
            have v3 := later_cell g3 holn
            have v4 := later_cell g4 holn
            obtain ⟨j1, j2, j3, j4, -, -⟩ := HP1.out.wf n hn32
            clear g3 g4
            by_cases hlt2 : (S k).B - (S k).A < (S n).B - (S n).A
            · have E1 := hide (sk_take (S := S) (s := s) (k := k) E.out HIN.out.1 HIN.out.2 (Or.inr ⟨n, hsk, hlt2⟩))
              clear hsk hn1
              have hne : Nonempty (Later w1) := ⟨⟨w1, Below.refl _ _⟩⟩
              refine wp_region_later (by kernel_rfl) (by kernel_rfl) ?_
              repeat (go_big_quiet_step (((go_at_call 83; exact Calls.later_of (size_any _ _ _ (by omega) (by omega) (by omega) (by omega))))))
              refine wpQuiet_nil ?_
              rintro _ ⟨wl, rfl⟩
              clear hne
              go_wp2_with fail
              exact ⟨⟨k + 1, by omega, by go_num, by rw [E1.out]; rfl, HB1.out.trans (wl.2.mono HB1.out.size)⟩, by simp [intOf]; omega⟩
            · have E1 := hide (sk_stay (S := S) (s := s) (k := k) hsk (by omega))
              clear hsk hn1
              have hne : Nonempty (Later w1) := ⟨⟨w1, Below.refl _ _⟩⟩
              refine wp_region_later (by kernel_rfl) (by kernel_rfl) ?_
              repeat (go_big_quiet_step (((go_at_call 83; exact Calls.later_of (size_any _ _ _ (by omega) (by omega) (by omega) (by omega))))))
              refine wpQuiet_nil ?_
              rintro _ ⟨wl, rfl⟩
              clear hne
              go_wp2_with fail
              exact ⟨⟨k + 1, by omega, by go_num, by rw [E1.out]; rfl, HB1.out.trans (wl.2.mono HB1.out.size)⟩, by simp [intOf]; omega⟩
        · have E1 := hide (sk_skip (S := S) (s := s) (k := k) (Or.inr (by omega)))
          have HIN : Hid (s < (S k).A ∨ (S k).B ≤ s) := by unfold Hid; omega
          clear hin
          go_wp2_with fail
          refine (has_no _ _ _ _ HIN.out).mono ?_
          rintro e w1 ⟨rfl, hb1⟩
          go_wp2_with fail
          exact ⟨⟨k + 1, by omega, by go_num, by rw [E1.out], HB.out.trans (hb1.mono HB.out.size)⟩, by simp [intOf]; omega⟩
      · have ev : obV (S k) (ob k) = .iface 75 (.pointer (some ⟨ob k, 0, none⟩)) := by simp [obV, e]
        have E1 := hide (sk_skip (S := S) (s := s) (k := k) (Or.inl (by omega)))
        rw [ev] at hix
        clear ev e
        have hta := fun w => ta_container_thread w (ob k)
        go_wp2_with fail
        exact ⟨⟨k + 1, by omega, by go_num, by rw [E1.out], HB.out⟩, by simp [intOf]; omega⟩
      · have ev : obV (S k) (ob k) = .iface 136 (.pointer (some ⟨ob k, 0, none⟩)) := by simp [obV, e]
        have E1 := hide (sk_skip (S := S) (s := s) (k := k) (Or.inl (by omega)))
        rw [ev] at hix
        clear ev e
        have hta := fun w => ta_container_segment w (ob k)
        go_wp2_with fail
        exact ⟨⟨k + 1, by omega, by go_num, by rw [E1.out], HB.out⟩, by simp [intOf]; omega⟩
    · have : k = 32 := by omega
      subst this
      go_wp2_with fail
      go_ret
      exact ⟨rfl, hb⟩

end Go.Proofs.Ytflniddofmnkaaa
