/- What a trap of the plain kernel tells lies in its range; a refused one changes nothing. Without conditions. -/
import Derived.Test.YtloppmepfkkblaaJMKeepsToViewM
import Derived.Test.YtloppmepfkkblaaJBaseToTreeKeeps
open Go Go.RowKit
namespace Go.Proofs.Ytloppmepfkkblaa

/-- Used and the first wrong thing lie in their ranges. -/
def Rng (p : Nat × Int) : Prop := p.1 < 256 ∧ 0 ≤ p.2 ∧ p.2 ≤ 9

theorem rng_zero : Rng (0, 0) := ⟨by decide, by decide, by decide⟩
theorem rng_failed {e : Int} {p : Nat × Int} (he : 0 ≤ e ∧ e ≤ 9) (h : Rng p) : Rng (failed e p) := by
  unfold failed
  split
  · exact ⟨h.1, he⟩
  · exact h
theorem rng_ite {c : Prop} [Decidable c] {a b : Nat × Int} (ha : Rng a) (hb : Rng b) : Rng (if c then a else b) := by
  split
  · exact ha
  · exact hb
theorem sub_lt {a b : Nat} (h : sub a b = true) (hb : b < 256) : a < 256 := by
  have : a ||| b = b := by simpa [sub] using h
  have h2 : a ≤ a ||| b := Nat.left_le_or
  omega
theorem or_lt256 {a b : Nat} (ha : a < 256) (hb : b < 256) : a ||| b < 256 := Nat.or_lt_two_pow (n := 8) ha hb
theorem rng_chk {O x y : Nat} {p : Nat × Int} (hO : O < 256) (h : Rng p) : Rng (chk O x y p) := by
  unfold chk
  split
  · exact h
  · split
    · rename_i hs
      exact ⟨or_lt256 h.1 (sub_lt hs hO), Int.le_refl 0, by show (0 : Int) ≤ 9; decide⟩
    · exact ⟨h.1, by show (0 : Int) ≤ 4; decide, by show (4 : Int) ≤ 9; decide⟩
theorem rng_path {S : Nat → Th} {O T : Nat} (hO : O < 256) : ∀ (n : Nat) (s : Int) (p : Nat × Int), Rng p → Rng (pathF S O T n s p)
  | 0, _, _, h => h
  | n + 1, s, p, h => by
    unfold pathF
    split
    · exact h
    · exact rng_chk hO (rng_path hO n _ p h)
theorem rng_there {S : Nat → Th} {s : Nat} {p : Nat × Int} (h : Rng p) : Rng (thereF S s p) := by
  unfold thereF
  split
  · exact rng_failed (by decide) h
  · exact h
theorem rng_kind {S : Nat → Th} {s : Nat} {k : Int} {p : Nat × Int} (h : Rng p) : Rng (kindF S s k p) := by
  unfold kindF
  split
  · exact h
  · exact rng_failed (by decide) h
theorem rng_making {S : Nat → Th} {O T n c s l : Nat} {p : Nat × Int} (hO : O < 256) (h : Rng p) : Rng (makingF S O T n c s l p) := by
  unfold makingF
  have ite : ∀ {c : Prop} [Decidable c] {e : Int} {q : Nat × Int}, (0 ≤ e ∧ e ≤ 9) → Rng q → Rng (if c then q else failed e q) := fun he hq => by
    split
    · exact hq
    · exact rng_failed he hq
  have ite' : ∀ {c : Prop} [Decidable c] {e : Int} {q : Nat × Int}, (0 ≤ e ∧ e ≤ 9) → Rng q → Rng (if c then failed e q else q) := fun he hq => by
    split
    · exact rng_failed he hq
    · exact hq
  exact rng_chk hO (ite (by decide) (ite (by decide) (ite (by decide) (rng_chk hO (rng_chk hO (ite' (by decide) (rng_path hO _ _ _ h)))))))

theorem rng_ask {M : MS} (me : Nat) (n : Int) (xs : List Int) (hO : (M.S me).owns < 256) : Rng (M.ask me n xs) := by
  have find : ∀ s, Rng (mFind M.S (M.S me).owns (M.S me).label s) := fun s => rng_there (rng_path hO _ _ _ rng_zero)
  have make : ∀ c s l, Rng (mMake M.S (M.S me).owns (M.S me).label c s l) := fun c s l => rng_making hO rng_zero
  have drop : ∀ q, Rng (mDrop M.S (M.S me).owns (M.S me).label q) := fun q => rng_chk hO (rng_chk hO (rng_path hO _ _ _ rng_zero))
  have free : ∀ s, Rng (mFree M.S (M.S me).owns (M.S me).label s) := fun s => rng_ite (rng_failed (by decide) (rng_path hO _ _ _ rng_zero)) (rng_chk hO (find _))
  have cont : ∀ c s l a e g h, Rng (mCont M.S (M.S me).owns (M.S me).label c s l a e g h) := fun c s l a e g h => rng_ite (rng_failed (by decide) (make _ _ _)) (make _ _ _)
  have thread : ∀ c s l o, Rng (mThread M.S (M.S me).owns (M.S me).label c s l o) := fun c s l o => rng_ite (make _ _ _) (rng_failed (by decide) (make _ _ _))
  have send : ∀ s n, Rng (mSend M.S (M.S me).owns (M.S me).label s n) := fun s n => rng_ite (rng_failed (by decide) (rng_kind (rng_chk hO (find _)))) (rng_kind (rng_chk hO (find _)))
  have recv : ∀ s n, Rng (mRecv M.S (M.S me).owns (M.S me).label s n) := fun s n => rng_ite (rng_failed (by decide) (rng_kind (rng_chk hO (rng_chk hO (find _))))) (rng_kind (rng_chk hO (rng_chk hO (find _))))
  have give : ∀ q s, Rng (mGive M.S (M.S me).owns (M.S me).label q s) := fun q s => rng_chk hO (rng_kind (rng_there (rng_path hO _ _ _ (drop _))))
  exact rng_ite (rng_path hO _ _ _ rng_zero) (rng_ite (find _) (rng_ite (make _ _ _) (rng_ite (rng_kind (rng_chk hO (find _))) (rng_ite (rng_kind (rng_chk hO (find _))) (rng_ite (cont _ _ _ _ _ _ _) (rng_ite (free _) (rng_ite (thread _ _ _ _) (rng_ite (give _ _) (rng_ite (drop _) (rng_ite (rng_kind (rng_chk hO (find _))) (rng_ite (make _ _ _) (rng_ite (send _ _) (rng_ite (recv _ _) rng_zero)))))))))))))

/-- What Refused asks of what a trap tells and leaves. -/
def Fine (M : MS) (r : (Int × Int × Nat) × MS) : Prop := 0 ≤ r.1.1 ∧ r.1.1 ≤ 9 ∧ r.1.2.2 < 256 ∧ (r.1.1 ≠ 0 → r.2 = M ∧ r.1.2.1 = 0)
theorem fine_stop {M : MS} {e : Int} {u : Nat} (he : 0 ≤ e ∧ e ≤ 9) (hu : u < 256) : Fine M ((e, 0, u), M) := ⟨he.1, he.2, hu, fun _ => ⟨rfl, rfl⟩⟩
theorem fine_ite {M : MS} {c : Prop} [Decidable c] {a b : (Int × Int × Nat) × MS} (ha : Fine M a) (hb : Fine M b) : Fine M (if c then a else b) := by
  split
  · exact ha
  · exact hb

theorem trap_range {M : MS} (h : MInv M) (n : Int) (xs : List Int) : Fine M (M.trap n xs) := by
  unfold MS.trap
  cases hc : M.cur with
  | none => exact fine_stop (by decide) (by decide)
  | some me =>
    have hr := rng_ask (M := M) me n xs (h.tree.wf me (h.cur_some hc).1).2
    exact fine_ite (fine_stop (by decide) (by decide)) (fine_ite (fine_stop (by decide) (by decide)) (fine_ite ⟨Int.le_refl 0, by show (0 : Int) ≤ 9; decide, hr.1, fun h => absurd rfl h⟩ (fine_stop hr.2 hr.1)))

/-- Where no thread is current, and where there is no such trap. -/
theorem trap_idle {M : MS} (hc : M.cur = none) (n : Int) (xs : List Int) : M.trap n xs = ((1, 0, 0), M) := by
  unfold MS.trap; rw [hc]
theorem trap_nosuch {M : MS} {me : Nat} (hc : M.cur = some me) (n : Int) (xs : List Int) (hn : n < 1 ∨ 17 ≤ n) : M.trap n xs = ((2, 0, 0), M) := by
  unfold MS.trap
  rw [hc]
  dsimp only
  rw [if_pos (by omega)]

end Go.Proofs.Ytloppmepfkkblaa
