/- What the reference's 'first' does: the traps 1 to 6. -/
import Derived.Test.YtflniddofmnkaaaRefArgs
import Derived.Deep.RegionHeld3
import Derived.StillTailTactics
open Go Go.Proofs Go.RowKit
namespace Go.Proofs.Ytflniddofmnkaaa

theorem there_F (w : World) (ab b T O : Nat) (p : Nat × Int) (r : RSt) (s : Nat) (h : AK w ab b T O p r) (hs : s < 32) :
    Calls Try.prog 70 #[.pointer (some ⟨ab, 0, none⟩), .int .i64 s] w fun e' w' => e' = .returned (.tuple #[]) ∧ AK w' ab b T O (thereF r.S s p) r ∧ Fr (fun k => k = ab) w w' := there_any w ab b T O p r s h hs
theorem kind_F (w : World) (ab b T O : Nat) (p : Nat × Int) (r : RSt) (s : Nat) (k : Int) (h : AK w ab b T O p r) (hs : s < 32) :
    Calls Try.prog 75 #[.pointer (some ⟨ab, 0, none⟩), .int .i64 s, .int .i64 k] w fun e' w' => e' = .returned (.tuple #[]) ∧ AK w' ab b T O (kindF r.S s k p) r ∧ Fr (fun k => k = ab) w w' := kind_any w ab b T O p r s k h hs

theorem first_self (w : World) (ab me : Nat) (v : Value) :
    Calls Try.prog 55 #[.pointer (some ⟨ab, 0, none⟩), .int .i64 1, .int .i64 me, v] w fun e' w' => e' = .returned (.int .i64 me) ∧ w' = w := by
  go_enter Try.func55, Try.ntmps55
  go_wp2_with fail
  go_ret
  exact ⟨rfl, rfl⟩

set_option maxHeartbeats 1000000 in
theorem first_kind (n : Nat) (w : World) (ab b T O me lb lo cap : Nat) (p : Nat × Int) (r : RSt) (s : Nat) (h : AK w ab b T O p r) (hs : s < 32) (hd : deep r.S n s) (ha : Arg w lb lo [(s : Int)]) (hab : lb ≠ ab) :
    Calls Try.prog 55 #[.pointer (some ⟨ab, 0, none⟩), .int .i64 2, .int .i64 me, .slice (some ⟨lb, lo, none⟩) 1 cap] w fun e' w' => e' = .returned (.int .i64 (r.S s).kind) ∧ AK w' ab b T O (pathF r.S O T n s p) r ∧ Fr (fun k => k = ab) w w' := by
  have l0 := ha.c0
  have hsi : (s : Int) < 32 := by omega
  have H := hide h
  have HA := hide ha
  have HD := hide hd
  clear h ha hd
  go_enter Try.func55, Try.ntmps55
  go_wp2_with fail
  refine (path_any n _ _ _ _ _ _ _ _ H.out hs HD.out).mono ?_
  rintro e w1 ⟨rfl, h1, g1⟩
  have m0 := (HA.out.fr g1 hab).c0
  obtain ⟨a0, -⟩ := h1.ask.cells
  obtain ⟨k0, -⟩ := h1.rk.things hs
  have H1 := hide h1
  have G1 := hide g1
  clear h1 g1 l0
  go_wp2_with fail
  go_quiet (fail)
  go_wp2_with fail
  go_ret
  exact ⟨rfl, H1.out.fr ((Fr.refl _ _).drewN _), G1.out.drewN _⟩

set_option maxHeartbeats 1000000 in
theorem first_label (n : Nat) (w : World) (ab b T O me lb lo cap : Nat) (p : Nat × Int) (r : RSt) (s : Nat) (h : AK w ab b T O p r) (hs : s < 32) (hd : deep r.S n s) (ha : Arg w lb lo [(s : Int)]) (hab : lb ≠ ab) :
    Calls Try.prog 55 #[.pointer (some ⟨ab, 0, none⟩), .int .i64 3, .int .i64 me, .slice (some ⟨lb, lo, none⟩) 1 cap] w fun e' w' => e' = .returned (.int .i64 (r.S s).label) ∧
      AK w' ab b T O (thereF r.S s (pathF r.S O T n s p)) r ∧ Fr (fun k => k = ab) w w' := by
  have l0 := ha.c0
  have hsi : (s : Int) < 32 := by omega
  have H := hide h
  have HA := hide ha
  have HD := hide hd
  clear h ha hd
  go_enter Try.func55, Try.ntmps55
  go_wp2_with fail
  refine (path_any n _ _ _ _ _ _ _ _ H.out hs HD.out).mono ?_
  rintro e w1 ⟨rfl, h1, g1⟩
  have m0 := (HA.out.fr g1 hab).c0
  have H1 := hide h1
  have G1 := hide g1
  clear h1 g1 l0
  go_wp2_with fail
  refine (there_F _ _ _ _ _ _ _ _ H1.out hs).mono ?_
  rintro e w2 ⟨rfl, h2, g2⟩
  have o0 := (HA.out.fr (G1.out.trans g2) hab).c0
  obtain ⟨a0, -⟩ := h2.ask.cells
  obtain ⟨-, k1, -⟩ := h2.rk.things hs
  have H2 := hide h2
  have G2 := hide (G1.out.trans g2)
  clear h2 g2 m0
  go_wp2_with fail
  go_quiet (fail)
  go_wp2_with fail
  go_ret
  exact ⟨rfl, H2.out.fr ((Fr.refl _ _).drewN _), G2.out.drewN _⟩

/-- What Read asks. -/
def readF (S : Nat → Th) (O T n s : Nat) (p : Nat × Int) : Nat × Int := kindF S s 3 (chk O (S s).label T (thereF S s (pathF S O T n s p)))
/-- What Write asks. -/
def writeF (S : Nat → Th) (O T n s : Nat) (p : Nat × Int) : Nat × Int := kindF S s 3 (chk O T (S s).label (thereF S s (pathF S O T n s p)))


set_option maxHeartbeats 2000000 in
theorem first_read_no (n : Nat) (w : World) (ab b T O me lb lo cap : Nat) (p : Nat × Int) (r : RSt) (s : Nat) (i : Nat) (h : AK w ab b T O p r) (hs : s < 32) (hd : deep r.S n s) (ha : Arg w lb lo [(s : Int), (i : Int)]) (_hab : lb ≠ ab) (hp : (readF r.S O T n s p).2 ≠ 0) :
    Calls Try.prog 55 #[.pointer (some ⟨ab, 0, none⟩), .int .i64 5, .int .i64 me, .slice (some ⟨lb, lo, none⟩) 2 cap] w fun e' w' => e' = .returned (.int .i64 0) ∧
      AK w' ab b T O (readF r.S O T n s p) r ∧ Fr (fun k => k = ab) w w' := by
  have l0 := ha.c0
  have hsi : (s : Int) < 32 := by omega
  have H := hide h
  have HA := hide ha
  have HD := hide hd
  have HLS := hide (wf_label h.wf hs)
  clear h ha hd
  have hpb : ((readF r.S O T n s p).2 == 0) = false := by simpa using hp
  have HP := hide hp
  clear hp
  go_enter Try.func55, Try.ntmps55
  go_wp2_with fail
  refine (path_any n _ _ _ _ _ _ _ _ H.out hs HD.out).mono ?_
  rintro e w1 ⟨rfl, h1, g1⟩
  have H1 := hide h1
  have G1 := hide g1
  clear h1 g1 l0
  go_wp2_with fail
  refine (there_F _ _ _ _ _ _ _ _ H1.out hs).mono ?_
  rintro e w2 ⟨rfl, h2, g2⟩
  obtain ⟨a0, -⟩ := h2.ask.cells
  obtain ⟨-, k1, -⟩ := h2.rk.things hs
  have H2 := hide h2
  have G2 := hide (G1.out.trans g2)
  clear h2 g2
  go_wp2_with fail
  refine (read_any _ _ _ _ _ _ _ _ H2.out HLS.out).mono ?_
  rintro e w3 ⟨rfl, h3, g3⟩
  have H3 := hide h3
  have G3 := hide (G2.out.trans g3)
  clear h3 g3 a0 k1
  go_wp2_with fail
  refine (kind_F _ _ _ _ _ _ _ _ 3 H3.out hs).mono ?_
  rintro e w4 ⟨rfl, h4, g4⟩
  have H4 : Hid (AK w4 ab b T O (readF r.S O T n s p) r) := h4
  have G4 := hide (G3.out.trans g4)
  clear h4 g4
  obtain ⟨b0, b1, b2, b3, b4, -⟩ := H4.out.ask.cells
  go_wp2_with fail
  go_ret
  exact ⟨rfl, H4.out, G4.out⟩

set_option maxHeartbeats 2000000 in
theorem first_write_no (n : Nat) (w : World) (ab b T O me lb lo cap : Nat) (p : Nat × Int) (r : RSt) (s : Nat) (i : Nat) (v : Int) (h : AK w ab b T O p r) (hs : s < 32) (hd : deep r.S n s) (ha : Arg w lb lo [(s : Int), (i : Int), v]) (_hab : lb ≠ ab) (hp : (writeF r.S O T n s p).2 ≠ 0) :
    Calls Try.prog 55 #[.pointer (some ⟨ab, 0, none⟩), .int .i64 6, .int .i64 me, .slice (some ⟨lb, lo, none⟩) 3 cap] w fun e' w' => e' = .returned (.int .i64 0) ∧
      AK w' ab b T O (writeF r.S O T n s p) r ∧ Fr (fun k => k = ab) w w' := by
  have l0 := ha.c0
  have hsi : (s : Int) < 32 := by omega
  have H := hide h
  have HA := hide ha
  have HD := hide hd
  have HLS := hide (wf_label h.wf hs)
  clear h ha hd
  have hpb : ((writeF r.S O T n s p).2 == 0) = false := by simpa using hp
  have HP := hide hp
  clear hp
  go_enter Try.func55, Try.ntmps55
  go_wp2_with fail
  refine (path_any n _ _ _ _ _ _ _ _ H.out hs HD.out).mono ?_
  rintro e w1 ⟨rfl, h1, g1⟩
  have H1 := hide h1
  have G1 := hide g1
  clear h1 g1 l0
  go_wp2_with fail
  refine (there_F _ _ _ _ _ _ _ _ H1.out hs).mono ?_
  rintro e w2 ⟨rfl, h2, g2⟩
  obtain ⟨a0, -⟩ := h2.ask.cells
  obtain ⟨-, k1, -⟩ := h2.rk.things hs
  have H2 := hide h2
  have G2 := hide (G1.out.trans g2)
  clear h2 g2
  go_wp2_with fail
  refine (write_any _ _ _ _ _ _ _ _ H2.out HLS.out).mono ?_
  rintro e w3 ⟨rfl, h3, g3⟩
  have H3 := hide h3
  have G3 := hide (G2.out.trans g3)
  clear h3 g3 a0 k1
  go_wp2_with fail
  refine (kind_F _ _ _ _ _ _ _ _ 3 H3.out hs).mono ?_
  rintro e w4 ⟨rfl, h4, g4⟩
  have H4 : Hid (AK w4 ab b T O (writeF r.S O T n s p) r) := h4
  have G4 := hide (G3.out.trans g4)
  clear h4 g4
  obtain ⟨b0, b1, b2, b3, b4, -⟩ := H4.out.ask.cells
  go_wp2_with fail
  go_ret
  exact ⟨rfl, H4.out, G4.out⟩

end Go.Proofs.Ytflniddofmnkaaa
