/- What the reference's small functions do: In, fail, check, read, write, there, kind. -/
import Derived.Test.YtflniddofmnkaaaProg
import Derived.Test.YtflniddofmnkaaaRefBase
open Go Go.Proofs Go.RowKit
namespace Go.Proofs.Ytflniddofmnkaaa

theorem in_any (w : World) (a b : Nat) (ha : a < 256) (hb : b < 256) :
    Calls Try.prog 64 #[.int .i64 a, .int .i64 b] w fun e w' => e = .returned (.bool (sub a b)) ∧ w' = w := by
  have hor := i64_or a b ha hb
  go_enter Try.func64, Try.ntmps64
  go_wp2
  go_ret
  exact ⟨ret_bool (by unfold sub; rw [Bool.eq_iff_iff]; simp only [beq_iff_eq]; exact Int.ofNat_inj), rfl⟩

theorem fail_any (w : World) (ab b T O : Nat) (p : Nat × Int) (r : RSt) (e : Int) (h : AK w ab b T O p r) (_he : -128 ≤ e ∧ e ≤ 127) :
    Calls Try.prog 76 #[.pointer (some ⟨ab, 0, none⟩), .int .i64 e] w fun e' w' => e' = .returned (.tuple #[]) ∧ AK w' ab b T O (failed e p) r ∧ Fr (fun k => k = ab) w w' := by
  obtain ⟨c0, c1, c2, c3, c4, f3, f4⟩ := h.ask.cells
  have H : Hid (AK w ab b T O p r) := h
  clear h
  by_cases hp : p.2 = 0
  · have e1 : failed e p = (p.1, e) := by unfold failed; rw [if_pos hp]
    have E1 := hide e1
    rw [hp] at c4
    clear e1
    go_enter Try.func76, Try.ntmps76
    go_wp2
    go_end0
    refine ⟨rfl, ?_, Fr.own _ _ _ _⟩
    rw [unhide E1]
    exact H.out.turned (Fr.own _ _ _ _) (H.out.ask.err e) H.out.hu
  · have hp' : (p.2 == 0) = false := by simpa using hp
    have e1 : failed e p = p := by unfold failed; rw [if_neg hp]
    have E1 := hide e1
    clear e1
    go_enter Try.func76, Try.ntmps76
    go_wp2
    go_end0
    refine ⟨rfl, ?_, Fr.refl _ _⟩
    rw [unhide E1]
    exact H.out

set_option maxHeartbeats 400000 in
theorem check_any (w : World) (ab b T O : Nat) (p : Nat × Int) (r : RSt) (x y : Nat) (h : AK w ab b T O p r) (hx : x < 256) (hy : y < 256) :
    Calls Try.prog 78 #[.pointer (some ⟨ab, 0, none⟩), .int .i64 x, .int .i64 y] w fun e' w' => e' = .returned (.tuple #[]) ∧ AK w' ab b T O (chk O x y p) r ∧ Fr (fun k => k = ab) w w' := by
  obtain ⟨c0, c1, c2, c3, c4, f3, f4⟩ := h.ask.cells
  have H : Hid (AK w ab b T O p r) := h
  have hO := h.hO
  have hu := h.hu
  clear h
  by_cases hp : p.2 = 0
  · rw [hp] at c4
    have hand := i64_and x y hx hy
    have hle := and_le_self x y
    have hm := mis_lt y hx
    have hmis : (x : Int) - ((x &&& y : Nat) : Int) = ((mis x y : Nat) : Int) := by unfold mis; omega
    have hor := i64_or p.1 (mis x y) hu hm
    have HM := hide hmis
    clear hmis
    by_cases hs : sub (mis x y) O = true
    · have e1 : chk O x y p = (p.1 ||| mis x y, 0) := by unfold chk; rw [if_neg (by simp [hp]), if_pos hs]
      have E1 := hide e1
      clear e1
      go_enter Try.func78, Try.ntmps78
      go_wp2_with fail
      rw [unhide HM]
      refine (in_any _ _ _ hm hO).mono ?_
      rintro e w' ⟨rfl, rfl⟩
      rw [hs]
      go_wp2_with fail
      go_end0
      refine ⟨rfl, ?_, Fr.own _ _ _ _⟩
      rw [unhide E1]
      have ha := H.out.ask.used (p.1 ||| mis x y)
      rw [hp] at ha
      exact H.out.turned (Fr.own _ _ _ _) ha (or_lt hu hm)
    · have hs' : sub (mis x y) O = false := by simpa using hs
      have e1 : chk O x y p = failed 4 p := by unfold chk failed; rw [if_neg (by simp [hp]), if_neg hs, if_pos hp]
      have E1 := hide e1
      clear e1
      go_enter Try.func78, Try.ntmps78
      go_wp2_with fail
      rw [unhide HM]
      refine (in_any _ _ _ hm hO).mono ?_
      rintro e w' ⟨rfl, rfl⟩
      rw [hs']
      go_wp2_with fail
      refine (fail_any _ _ _ _ _ _ _ 4 H.out (by omega)).mono ?_
      rintro e w' ⟨rfl, h1, h2⟩
      go_wp2_with fail
      ((try simp only [Exit.inBlock, Exit.then]); refine bodyPost_ret (results_none rfl _ _ _) rfl ?_)
      rw [unhide E1]
      exact ⟨rfl, h1, h2⟩
  · have hp' : (p.2 == 0) = false := by simpa using hp
    have e1 : chk O x y p = p := by unfold chk; rw [if_pos hp]
    have E1 := hide e1
    clear e1
    go_enter Try.func78, Try.ntmps78
    go_wp2_with fail
    ((try simp only [Exit.inBlock, Exit.then]); refine bodyPost_ret (results_none rfl _ _ _) rfl ?_)
    rw [unhide E1]
    exact ⟨rfl, H.out, Fr.refl _ _⟩

theorem read_any (w : World) (ab b T O : Nat) (p : Nat × Int) (r : RSt) (x : Nat) (h : AK w ab b T O p r) (hx : x < 256) :
    Calls Try.prog 73 #[.pointer (some ⟨ab, 0, none⟩), .int .i64 x] w fun e' w' => e' = .returned (.tuple #[]) ∧ AK w' ab b T O (chk O x T p) r ∧ Fr (fun k => k = ab) w w' := by
  obtain ⟨c0, c1, c2, c3, c4, f3, f4⟩ := h.ask.cells
  have H : Hid (AK w ab b T O p r) := h
  clear h
  go_enter Try.func73, Try.ntmps73
  go_wp2_with fail
  refine (check_any _ _ _ _ _ _ _ _ _ H.out hx H.out.hT).mono ?_
  rintro e w' ⟨rfl, h1, h2⟩
  go_wp2_with fail
  go_end0
  exact ⟨rfl, h1, h2⟩

theorem write_any (w : World) (ab b T O : Nat) (p : Nat × Int) (r : RSt) (x : Nat) (h : AK w ab b T O p r) (hx : x < 256) :
    Calls Try.prog 74 #[.pointer (some ⟨ab, 0, none⟩), .int .i64 x] w fun e' w' => e' = .returned (.tuple #[]) ∧ AK w' ab b T O (chk O T x p) r ∧ Fr (fun k => k = ab) w w' := by
  obtain ⟨c0, c1, c2, c3, c4, f3, f4⟩ := h.ask.cells
  have H : Hid (AK w ab b T O p r) := h
  clear h
  go_enter Try.func74, Try.ntmps74
  go_wp2_with fail
  refine (check_any _ _ _ _ _ _ _ _ _ H.out H.out.hT hx).mono ?_
  rintro e w' ⟨rfl, h1, h2⟩
  go_wp2_with fail
  go_end0
  exact ⟨rfl, h1, h2⟩

/-- 'there': ErrDead, if the slot is free. -/
theorem there_any (w : World) (ab b T O : Nat) (p : Nat × Int) (r : RSt) (s : Nat) (h : AK w ab b T O p r) (hs : s < 32) :
    Calls Try.prog 70 #[.pointer (some ⟨ab, 0, none⟩), .int .i64 s] w fun e' w' => e' = .returned (.tuple #[]) ∧ AK w' ab b T O (if (r.S s).kind = 0 then failed 5 p else p) r ∧ Fr (fun k => k = ab) w w' := by
  obtain ⟨c0, c1, c2, c3, c4, f3, f4⟩ := h.ask.cells
  obtain ⟨k0, -⟩ := h.rk.things hs
  have H : Hid (AK w ab b T O p r) := h
  have hsi : (s : Int) < 32 := by omega
  clear h
  by_cases hk : (r.S s).kind = 0
  · rw [hk] at k0
    rw [if_pos hk]
    clear hk
    go_enter Try.func70, Try.ntmps70
    go_wp2_with fail
    refine (fail_any _ _ _ _ _ _ _ 5 H.out (by omega)).mono ?_
    rintro e w' ⟨rfl, h1, h2⟩
    go_wp2_with fail
    go_end0
    exact ⟨rfl, h1, h2⟩
  · have hp' : ((r.S s).kind == 0) = false := by simpa using hk
    rw [if_neg hk]
    go_enter Try.func70, Try.ntmps70
    go_wp2_with fail
    go_end0
    exact ⟨rfl, H.out, Fr.refl _ _⟩

/-- 'kind': ErrKind, if it is another one. -/
theorem kind_any (w : World) (ab b T O : Nat) (p : Nat × Int) (r : RSt) (s : Nat) (k : Int) (h : AK w ab b T O p r) (hs : s < 32) :
    Calls Try.prog 75 #[.pointer (some ⟨ab, 0, none⟩), .int .i64 s, .int .i64 k] w fun e' w' => e' = .returned (.tuple #[]) ∧ AK w' ab b T O (if (r.S s).kind = k then p else failed 6 p) r ∧ Fr (fun k => k = ab) w w' := by
  obtain ⟨c0, c1, c2, c3, c4, f3, f4⟩ := h.ask.cells
  obtain ⟨k0, -⟩ := h.rk.things hs
  have H : Hid (AK w ab b T O p r) := h
  have hsi : (s : Int) < 32 := by omega
  clear h
  by_cases hk : (r.S s).kind = k
  · rw [hk] at k0
    rw [if_pos hk]
    clear hk
    go_enter Try.func75, Try.ntmps75
    go_wp2_with fail
    go_end0
    exact ⟨rfl, H.out, Fr.refl _ _⟩
  · have hp' : ((r.S s).kind == k) = false := by simpa using hk
    rw [if_neg hk]
    go_enter Try.func75, Try.ntmps75
    go_wp2_with fail
    refine (fail_any _ _ _ _ _ _ _ 6 H.out (by omega)).mono ?_
    rintro e w' ⟨rfl, h1, h2⟩
    go_wp2_with fail
    go_end0
    exact ⟨rfl, h1, h2⟩

end Go.Proofs.Ytflniddofmnkaaa
