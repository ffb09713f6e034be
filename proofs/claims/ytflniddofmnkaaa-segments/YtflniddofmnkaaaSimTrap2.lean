/- One trap on both kernels: each of the traps 1 to 6. -/
import Derived.Test.YtflniddofmnkaaaSimTrap
open Go Go.Proofs Go.RowKit
namespace Go.Proofs.Ytflniddofmnkaaa

theorem kindF_zero {S : Nat → Th} {s : Nat} {k : Int} {p : Nat × Int} (h : (kindF S s k p).2 = 0) : (S s).kind = k := by
  unfold kindF at h
  by_cases e : (S s).kind = k
  · exact e
  · rw [if_neg e] at h
    by_cases e2 : p.2 = 0
    · rw [failed_ok e2] at h; simp at h
    · rw [failed_err e2] at h; exact absurd h e2

theorem making_free {S : Nat → Th} {O T n c s l : Nat} {p : Nat × Int} (h : (makingF S O T n c s l p).2 = 0) : (S s).kind = 0 := by
  by_cases e : (S s).kind = 0
  · exact e
  · exfalso
    have h5 : (mk5 S O T n c s p).2 ≠ 0 := by
      unfold mk5
      rw [if_neg (fun h => e h.1)]
      by_cases e4 : (mk4 S O T n c p).2 = 0
      · rw [failed_ok e4]; simp
      · rw [failed_err e4]; exact e4
    rw [mk6_of h5] at h
    exact h5 h

section
variable {w : World} {kb b : Nat} {r : RSt} {ws : Nat → List Int} {ob : Nat → Nat} {qp : Nat → Option Nat} {pb : Nat} {la : Addr} {cap : Nat}

theorem one_some (h : Sim w kb b r ws ob qp) (hp : Blk w pb #[.pointer (some ⟨kb, 0, none⟩), .pointer (some ⟨b, 0, none⟩)]) (ha : ArgS w (SFoot kb b r.S ob qp) la []) :
    Calls Try.prog 26 #[.pointer (some ⟨pb, 0, none⟩), .int .i64 1, .slice (some la) 0 cap] w fun e w' => e = .returned (.bool true) ∧ Goes w kb b r ob qp w' :=
  still_some h hp 1 0 1 0 la cap [] ha (fun _ _ c hpk _ => pa_1 hpk h.curP _ c) (fun _ hs _ => ra_1 hs.rk hs.wq hs.wf hs.curF _ cap)

theorem two_some (h : Sim w kb b r ws ob qp) (hp : Blk w pb #[.pointer (some ⟨kb, 0, none⟩), .pointer (some ⟨b, 0, none⟩)]) (s : Nat) (hs : s < 32) (ha : ArgS w (SFoot kb b r.S ob qp) la [(s : Int)]) :
    Calls Try.prog 26 #[.pointer (some ⟨pb, 0, none⟩), .int .i64 2, .slice (some la) 1 cap] w fun e w' => e = .returned (.bool true) ∧ Goes w kb b r ob qp w' :=
  still_some h hp 2 _ _ _ la cap [(s : Int)] ha (fun _ g c hpk har => pa_2 hpk h.curP 2 s hs (deep2 h.inv hs) _ c (Or.inr ⟨g, 0, rfl, har⟩))
    (fun _ hs' har => ra_2 hs'.rk hs'.wq hs'.wf hs'.curF 2 s hs (deep2 h.inv hs) _ cap (argv_y (Or.inr (by simp)) har))

theorem three_some (h : Sim w kb b r ws ob qp) (hp : Blk w pb #[.pointer (some ⟨kb, 0, none⟩), .pointer (some ⟨b, 0, none⟩)]) (s : Nat) (hs : s < 32) (ha : ArgS w (SFoot kb b r.S ob qp) la [(s : Int)]) :
    Calls Try.prog 26 #[.pointer (some ⟨pb, 0, none⟩), .int .i64 3, .slice (some la) 1 cap] w fun e w' => e = .returned (.bool true) ∧ Goes w kb b r ob qp w' :=
  still_some h hp 3 _ _ _ la cap [(s : Int)] ha (fun _ g c hpk har => pa_3 hpk h.curP 2 s hs (deep2 h.inv hs) _ c (Or.inr ⟨g, 0, rfl, har⟩))
    (fun _ hs' har => ra_3 hs'.rk hs'.wq hs'.wf hs'.curF 2 s hs (deep2 h.inv hs) _ cap (argv_y (Or.inr (by simp)) har))

/-- A segment's words in the reference's memory. -/
theorem Sim.seg (h : Sim w kb b r ws ob qp) {s : Nat} (hs : s < 32) (hk : (r.S s).kind = 3) :
    ∃ (g : Nat) (cs : Array Value), (r.S s).Wa = some ⟨g, 0, none⟩ ∧ (r.S s).Wn = 8 ∧ (r.S s).Wc ≤ cs.size ∧ Blk w g cs ∧ (ws s).length = 8 ∧ (∀ i, i < cs.size → ∃ y : Int, cs[i]? = some (Value.int .i64 y)) ∧ ∀ (i : Nat) (x : Int), (ws s)[i]? = some x → cs[i]? = some (Value.int .i64 x) := by
  have hw := h.wsx.words s hs
  have h8 := h.inv.segs s hs hk
  rcases hw.at' with ⟨_, h0⟩ | ⟨g, cs, h1, h2, h3, h4, h5⟩
  · have := hw.cap; omega
  · exact ⟨g, cs, h1, h8, h3, h2, h.pk.segs s hs hk, h4, h5⟩

theorem five_some (h : Sim w kb b r ws ob qp) (hp : Blk w pb #[.pointer (some ⟨kb, 0, none⟩), .pointer (some ⟨b, 0, none⟩)]) (s i : Nat) (hs : s < 32) (hi : i < 8) (ha : ArgS w (SFoot kb b r.S ob qp) la [(s : Int), (i : Int)]) :
    Calls Try.prog 26 #[.pointer (some ⟨pb, 0, none⟩), .int .i64 5, .slice (some la) 2 cap] w fun e w' => e = .returned (.bool true) ∧ Goes w kb b r ob qp w' := by
  by_cases hz : (rdF r.S (r.S 1).owns (r.S 1).label 2 s (0, 0)).2 = 0
  · have hk : (r.S s).kind = 3 := kindF_zero hz
    have hlen := h.pk.segs s hs hk
    have hx : (ws s)[i]? = some ((ws s).getD i 0) := by rw [List.getD_eq_getElem?_getD, List.getElem?_eq_getElem (by omega)]; rfl
    refine still_some h hp 5 0 ((ws s).getD i 0) _ la cap [(s : Int), (i : Int)] ha (fun _ g c hpk har => pa_5yes hpk h.curP 2 s i _ hs hi (deep2 h.inv hs) hx hz _ c (Or.inr ⟨g, 0, rfl, har⟩)) (fun w2 hs' har => ?_)
    obtain ⟨g, cs, h1, h2, h3, h4, h5, _, h6⟩ := hs'.seg hs hk
    have := ra_5yes hs'.rk hs'.wq hs'.wf hs'.curF 2 s i g ((ws s).getD i 0) hs hi (deep2 h.inv hs) h1 h2 h4.lt (by rw [h4.cell]; exact h6 i _ hx) hz (some la) cap (argv_y (Or.inr (by simp)) har)
    rw [hz] at this
    exact this
  · exact still_some h hp 5 _ 0 _ la cap [(s : Int), (i : Int)] ha (fun _ g c hpk har => pa_5no hpk h.curP 2 s i hs hi (deep2 h.inv hs) hz _ c (Or.inr ⟨g, 0, rfl, har⟩))
      (fun _ hs' har => ra_5no hs'.rk hs'.wq hs'.wf hs'.curF 2 s i hs hi (deep2 h.inv hs) hz _ cap (argv_y (Or.inr (by simp)) har))
end

end Go.Proofs.Ytflniddofmnkaaa
