/- What the reference's 'gone' does: an object goes, and all that lie in it. -/
import Derived.StillTailTactics
import Derived.Deep.RegionHeld3
import Derived.Test.YtloppmepfkkblaaGreatJRefAskToRefWithin
import Derived.Test.YtloppmepfkkblaaGreatJBaseToTreeKeeps
import Derived.Test.YtloppmepfkkblaaGreatJMKeepsToViewM
import Derived.Test.YtloppmepfkkblaaGreatJRefMayToRefOwn

section
open Go Go.Proofs Go.RowKit
namespace Go.Proofs.YtloppmepfkkblaaGreat

/-- A free slot. -/
abbrev th0 : Th := fth

theorem th0_wf : th0.wf := by simp [th0, fth, Th.wf]

/-- All slots from a to k - 1 are free. -/
def RSt.wipe (r : RSt) (a k : Int) : RSt := { r with S := fun i => if a ≤ (i : Int) ∧ (i : Int) < k then th0 else r.S i }
/-- All quanta from g to k - 1 have no threads. -/
def RSt.idle (r : RSt) (g k : Int) : RSt := { r with qs := fun q => if g ≤ (q : Int) ∧ (q : Int) < k then 0 else r.qs q, qi := fun q => if g ≤ (q : Int) ∧ (q : Int) < k then 0 else r.qi q }

theorem RSt.wipe_self (r : RSt) (a : Int) : r.wipe a a = r := by
  unfold RSt.wipe
  congr 1
  funext i
  rw [if_neg (by omega)]

theorem RSt.wipe_succ (r : RSt) {a : Int} {k : Nat} (h : a ≤ k) : (r.wipe a k).put k th0 = r.wipe a ((k : Int) + 1) := by
  unfold RSt.wipe RSt.put
  congr 1
  funext i
  unfold upd
  dsimp only
  by_cases e : i = k
  · subst e; rw [if_pos rfl, if_pos (by omega)]
  · rw [if_neg e]
    by_cases h2 : a ≤ (i : Int) ∧ (i : Int) < k
    · rw [if_pos h2, if_pos (by omega)]
    · rw [if_neg h2, if_neg (by omega)]

theorem RSt.idle_self (r : RSt) (a : Int) : r.idle a a = r := by
  unfold RSt.idle
  congr 1 <;> (funext i; rw [if_neg (by omega)])

theorem RSt.idle_succ (r : RSt) {a : Int} {k : Nat} (h : a ≤ k) : (r.idle a k).turn k 0 0 = r.idle a ((k : Int) + 1) := by
  unfold RSt.idle RSt.turn
  congr 1
  all_goals
    funext i
    unfold upd
    dsimp only
    by_cases e : i = k
    · subst e; rw [if_pos rfl, if_pos (by omega)]
    · rw [if_neg e]
      by_cases h2 : a ≤ (i : Int) ∧ (i : Int) < k
      · rw [if_pos h2, if_pos (by omega)]
      · rw [if_neg h2, if_neg (by omega)]

/-- An object goes. -/
def RSt.gone (r : RSt) (s : Nat) : RSt :=
  if (r.S s).kind = 1 then (((r.put s th0).wipe (r.S s).A (r.S s).B).idle (r.S s).G (r.S s).H) else r.put s th0

set_option maxHeartbeats 1000000 in
theorem gone_any (w : World) (b : Nat) (r : RSt) (s : Nat) (hr : RK w b r) (hs : s < 32) (h1 : 0 ≤ (r.S s).A ∧ (r.S s).A ≤ (r.S s).B ∧ (r.S s).B ≤ 32) (h2 : 0 ≤ (r.S s).G ∧ (r.S s).G ≤ (r.S s).H ∧ (r.S s).H ≤ 8) :
    Calls Tryz.prog 77 #[.pointer (some ⟨b, 0, none⟩), .int .i64 s] w fun e w' => e = .returned (.tuple #[]) ∧ RK w' b (r.gone s) ∧ Fr (fun k => k = b) w w' := by
  have hlt := hr.lt
  obtain ⟨c0, c1, c2, c3, c4, c5, c6, c7, c8, c9⟩ := hr.things hs
  have hsi : (s : Int) < 32 := by omega
  have hfr : ∀ n, w.frozen? ⟨b, n, none⟩ = false := fun n => hr.frozen n
  have HR := hide hr
  clear hr
  by_cases hk : (r.S s).kind = 1
  · have EG : r.gone s = (((r.put s th0).wipe (r.S s).A (r.S s).B).idle (r.S s).G (r.S s).H) := if_pos hk
    rw [hk] at c0
    go_enter Tryz.func77, Tryz.ntmps77
    go_wp2_with fail
    have hsz : (World.putTh w b (s * 10) th0).heap.size = w.heap.size := by simp [World.putTh, World.setCell]
    have R0 := HR.out.put hs th0
    generalize hw2 : World.alloc (World.setCell (World.setCell _ _ _) _ _) _ = w2
    have R1 : Hid (RK w2 b (r.put s th0)) := by rw [← hw2]; exact R0.alloc _
    have F1 : Hid (Fr (fun k => k = b) w w2) := by rw [← hw2]; exact (Fr.putTh w b (s * 10) th0).alloc _
    have B1 : Hid (Blk w2 w.heap.size #[.int .i64 1, .int .i64 (r.S s).label, .int .i64 (r.S s).id, .slice (r.S s).Wa (r.S s).Wn (r.S s).Wc, .int .i64 (r.S s).owns, .bool (r.S s).awake, .int .i64 (r.S s).A, .int .i64 (r.S s).B, .int .i64 (r.S s).G, .int .i64 (r.S s).H]) := by rw [← hw2]; exact Blk.new' hsz.symm
    clear hw2 c0 c1 c2 c3 c4 c5 c6 c7 c8 c9 hfr R0 hsz
    go_loopw [5] (fun c w' => ∃ k : Nat, (r.S s).A ≤ k ∧ k ≤ (r.S s).B ∧ c = .int .i64 k ∧ RK w' b ((r.put s th0).wipe (r.S s).A k) ∧ Blk w' w.heap.size #[.int .i64 1, .int .i64 (r.S s).label, .int .i64 (r.S s).id, .slice (r.S s).Wa (r.S s).Wn (r.S s).Wc, .int .i64 (r.S s).owns, .bool (r.S s).awake, .int .i64 (r.S s).A, .int .i64 (r.S s).B, .int .i64 (r.S s).G, .int .i64 (r.S s).H] ∧ Fr (fun k => k = b) w w') (fun c _ => 32 - (intOf c).toNat)
    case atStart =>
      refine ⟨(r.S s).A.toNat, by omega, by omega, by congr 1; omega, ?_, B1.out, F1.out⟩
      have : (((r.S s).A.toNat : Nat) : Int) = (r.S s).A := by omega
      rw [this, RSt.wipe_self]
      exact R1.out
    case round =>
      obtain ⟨k, hk1, hk2, rfl, hrk, hB, hF⟩ := hrel
      have HF := hide hF
      have HB := hide hB
      have HK := hide hrk
      have y7 : wr.cell? ⟨w.heap.size, 7, none⟩ = some (.int .i64 (r.S s).B) := by rw [Blk.cell hB]; rfl
      have y8 : wr.cell? ⟨w.heap.size, 8, none⟩ = some (.int .i64 (r.S s).G) := by rw [Blk.cell hB]; rfl
      have hbw := hrk.lt
      have hfr : ∀ n, wr.frozen? ⟨b, n, none⟩ = false := fun n => hrk.frozen n
      by_cases hkB : (k : Int) < (r.S s).B
      · have hk32 : k < 32 := by omega
        obtain ⟨c0, c1, c2, c3, c4, c5, c6, c7, c8, c9⟩ := hrk.things hk32
        clear hrk hB hF
        go_wp2_with fail
        refine ⟨⟨k + 1, by omega, by omega, by go_num, ?_, ?_, ?_⟩, by simp [intOf]; omega⟩
        · have := HK.out.put hk32 th0
          rw [RSt.wipe_succ _ hk1] at this
          exact this
        · exact Blk.fr HB.out (Fr.putTh wr b (k * 10) th0) (by omega)
        · exact HF.out.trans (Fr.putTh wr b (k * 10) th0)
      · clear hrk hB hF
        have hkB' : (k : Int) = (r.S s).B := by omega
        rw [hkB'] at HK
        go_wp2_with fail
        clear hkB hkB' hk1 hk2 hfr y7
        go_loopw [6] (fun c w' => ∃ k : Nat, (r.S s).G ≤ k ∧ k ≤ (r.S s).H ∧ c = .int .i64 k ∧ RK w' b (((r.put s th0).wipe (r.S s).A (r.S s).B).idle (r.S s).G k) ∧ Blk w' w.heap.size #[.int .i64 1, .int .i64 (r.S s).label, .int .i64 (r.S s).id, .slice (r.S s).Wa (r.S s).Wn (r.S s).Wc, .int .i64 (r.S s).owns, .bool (r.S s).awake, .int .i64 (r.S s).A, .int .i64 (r.S s).B, .int .i64 (r.S s).G, .int .i64 (r.S s).H] ∧ Fr (fun k => k = b) w w') (fun c _ => 8 - (intOf c).toNat)
        case atStart =>
          refine ⟨(r.S s).G.toNat, by omega, by omega, by congr 1; omega, ?_, HB.out, HF.out⟩
          have : (((r.S s).G.toNat : Nat) : Int) = (r.S s).G := by omega
          rw [this, RSt.idle_self]
          exact HK.out
        case round =>
          clear HF HB HK y8 hbw
          obtain ⟨k, hk1, hk2, rfl, hrk, hB, hF⟩ := hrel
          have HF := hide hF
          have HB := hide hB
          have HK := hide hrk
          have y9 : wr.cell? ⟨w.heap.size, 9, none⟩ = some (.int .i64 (r.S s).H) := by rw [Blk.cell hB]; rfl
          have hbw := hrk.lt
          have hfr : ∀ n, wr.frozen? ⟨b, n, none⟩ = false := fun n => hrk.frozen n
          by_cases hkB : (k : Int) < (r.S s).H
          · have hk8 : k < 8 := by omega
            obtain ⟨c0, c1⟩ := hrk.turn hk8
            clear hrk hB hF
            go_wp2_with fail
            refine ⟨⟨k + 1, by omega, by omega, by go_num, ?_, ?_, ?_⟩, by simp [intOf]; omega⟩
            · have := HK.out.putTurn hk8 0 0
              rw [RSt.idle_succ _ hk1] at this
              exact this
            · exact Blk.fr HB.out ((Fr.own wr b _ _).trans (Fr.own _ b _ _)) (by omega)
            · exact HF.out.trans ((Fr.own wr b _ _).trans (Fr.own _ b _ _))
          · clear hrk hB hF
            have hkB' : (k : Int) = (r.S s).H := by omega
            rw [hkB'] at HK
            go_wp2_with fail
            go_end0
            exact ⟨rfl, HK.out, HF.out⟩
  · have EG : r.gone s = r.put s th0 := if_neg hk
    have hk' : ((r.S s).kind != 1) = true := by simpa using hk
    go_enter Tryz.func77, Tryz.ntmps77
    go_wp2_with fail
    ((try simp only [Exit.inBlock, Exit.then]); refine bodyPost_ret (results_none rfl _ _ _) rfl ?_)
    exact ⟨rfl, by rw [EG]; exact (HR.out.put hs th0).alloc _, (Fr.putTh w b (s * 10) th0).alloc _⟩

end Go.Proofs.YtloppmepfkkblaaGreat
end

section
/- The reference's kernel in memory as the plain kernel. -/
open Go Go.Proofs Go.RowKit
namespace Go.Proofs.YtloppmepfkkblaaGreat

/-- A thing without what the reference alone has. -/
def clean (t : Th) : Th := { t with id := 0, Wa := none, Wn := 0, Wc := 0 }

theorem seek_clean (S : Nat → Th) (lo hi : Th → Int) (hlo : ∀ t, lo (clean t) = lo t) (hhi : ∀ t, hi (clean t) = hi t) (s : Int) : ∀ k, seek (fun i => clean (S i)) lo hi s k = seek S lo hi s k
  | 0 => rfl
  | k + 1 => by
    unfold seek
    rw [seek_clean S lo hi hlo hhi s k]
    simp only [hlo, hhi]
    rfl

theorem lies_clean (S : Nat → Th) (s : Int) : lies (fun i => clean (S i)) s = lies S s := by
  unfold lies
  rw [seek_clean S Th.A Th.B (fun _ => rfl) (fun _ => rfl)]
theorem has_clean (S : Nat → Th) (s : Int) : has (fun i => clean (S i)) s = has S s := by
  unfold has
  rw [seek_clean S Th.G Th.H (fun _ => rfl) (fun _ => rfl)]

theorem path_clean (S : Nat → Th) (O T : Nat) : ∀ (n : Nat) (s : Int) (p : Nat × Int), pathF (fun i => clean (S i)) O T n s p = pathF S O T n s p
  | 0, _, _ => rfl
  | n + 1, s, p => by
    unfold pathF
    rw [lies_clean]
    cases lies S s with
    | none => rfl
    | some c =>
      dsimp only
      rw [path_clean S O T n c p]
      rfl

theorem making_clean (S : Nat → Th) (O T n c s l : Nat) (p : Nat × Int) : makingF (fun i => clean (S i)) O T n c s l p = makingF S O T n c s l p := by
  unfold makingF
  rw [path_clean, lies_clean]
  rfl

theorem find_clean (S : Nat → Th) (O T s : Nat) : mFind (fun i => clean (S i)) O T s = thereF S s (pathF S O T DEEP s (0, 0)) := by
  unfold mFind
  rw [path_clean]
  rfl

theorem deep_clean (S : Nat → Th) : ∀ (n : Nat) (s : Int), deep (fun i => clean (S i)) n s → deep S n s
  | 0, _, h => h
  | n + 1, s, h => by
    unfold deep at h ⊢
    rw [lies_clean] at h
    cases hl : lies S s with
    | none => trivial
    | some c =>
      rw [hl] at h
      exact deep_clean S n c h

/-- What holds of the reference's numbers. -/
structure RIds (r : RSt) : Prop where
  zero : ∀ i, (r.S i).kind = 0 → r.S i = fth
  pos : ∀ i, (r.S i).kind ≠ 0 → 1 ≤ (r.S i).id ∧ (r.S i).id ≤ r.made
  inj : ∀ i j, (r.S i).kind ≠ 0 → (r.S j).kind ≠ 0 → (r.S i).id = (r.S j).id → i = j
  qi : ∀ q, 0 ≤ r.qi q ∧ r.qi q ≤ r.made
  qs : ∀ q, r.qs q < 32
  live : ∀ q, r.qi q ≠ 0 → (r.S (r.qs q)).id = r.qi q → (r.S (r.qs q)).kind = 2
  made : 0 ≤ r.made

/-- The thread of a quantum. -/
def lqR (r : RSt) (q : Nat) : Option Nat := if r.qi q = 0 ∨ (r.S (r.qs q)).id ≠ r.qi q then none else some (r.qs q)

theorem lqR_none {r : RSt} {q : Nat} (h : r.qi q = 0 ∨ (r.S (r.qs q)).id ≠ r.qi q) : lqR r q = none := if_pos h
theorem lqR_some {r : RSt} {q : Nat} (h : ¬ (r.qi q = 0 ∨ (r.S (r.qs q)).id ≠ r.qi q)) : lqR r q = some (r.qs q) := if_neg h
theorem lqR_same {r r' : RSt} {q : Nat} (h1 : r'.qi q = r.qi q) (h2 : r'.qs q = r.qs q) (h3 : (r'.S (r.qs q)).id = (r.S (r.qs q)).id) : lqR r' q = lqR r q := by
  by_cases h : r.qi q = 0 ∨ (r.S (r.qs q)).id ≠ r.qi q
  · rw [lqR_none h, lqR_none (by rw [h1, h2, h3]; exact h)]
  · rw [lqR_some h, lqR_some (by rw [h1, h2, h3]; exact h), h2]

theorem idle_in (r : RSt) {g e q : Nat} (h : g ≤ q ∧ q < e) : (r.idle g e).qi q = 0 ∧ (r.idle g e).qs q = 0 := by
  have h' : (g : Int) ≤ q ∧ (q : Int) < e := by omega
  exact ⟨if_pos h', if_pos h'⟩
theorem idle_out (r : RSt) {g e q : Nat} (h : ¬ (g ≤ q ∧ q < e)) : (r.idle g e).qi q = r.qi q ∧ (r.idle g e).qs q = r.qs q := by
  have h' : ¬ ((g : Int) ≤ q ∧ (q : Int) < e) := by omega
  exact ⟨if_neg h', if_neg h'⟩

/-- The reference's own blocks. -/
def RFt (b : Nat) (S : Nat → Th) (k : Nat) : Prop := k = b ∨ ∃ i, i < 32 ∧ (S i).wb k

/-- All but the kernel's own block. -/
structure RQ (w : World) (b : Nat) (r : RSt) (M : MS) : Prop where
  blt : b < w.heap.size
  wsx : WS w b r.S M.ws
  own : ∀ i, i < 32 → (r.S i).kind = 4 → Own w (r.S i) (M.ws i)
  S : (fun i => clean (r.S i)) = M.S
  lq : ∀ q, lqR r q = M.lq q
  ph : r.phase = M.ph
  ids : RIds r

structure RR (w : World) (b : Nat) (r : RSt) (M : MS) : Prop extends RQ w b r M where
  rk : RK w b r

section
variable {w w' : World} {b : Nat} {r : RSt} {M : MS}

theorem RQ.kind (h : RQ w b r M) (i : Nat) : (M.S i).kind = (r.S i).kind := by rw [← h.S]; rfl
theorem RQ.label (h : RQ w b r M) (i : Nat) : (M.S i).label = (r.S i).label := by rw [← h.S]; rfl
theorem RQ.owns (h : RQ w b r M) (i : Nat) : (M.S i).owns = (r.S i).owns := by rw [← h.S]; rfl
theorem RQ.A (h : RQ w b r M) (i : Nat) : (M.S i).A = (r.S i).A := by rw [← h.S]; rfl
theorem RQ.B (h : RQ w b r M) (i : Nat) : (M.S i).B = (r.S i).B := by rw [← h.S]; rfl
theorem RQ.G (h : RQ w b r M) (i : Nat) : (M.S i).G = (r.S i).G := by rw [← h.S]; rfl
theorem RQ.H (h : RQ w b r M) (i : Nat) : (M.S i).H = (r.S i).H := by rw [← h.S]; rfl
theorem RQ.lies (h : RQ w b r M) (s : Int) : lies M.S s = Go.Proofs.YtloppmepfkkblaaGreat.lies r.S s := by rw [← h.S, lies_clean]
theorem RQ.has (h : RQ w b r M) (s : Int) : has M.S s = Go.Proofs.YtloppmepfkkblaaGreat.has r.S s := by rw [← h.S, has_clean]
theorem RQ.deep (h : RQ w b r M) (hi : MInv M) (s : Int) : deep r.S DEEP s := deep_clean r.S DEEP s (by rw [h.S]; exact hi.tree.deep s)
theorem RQ.path (h : RQ w b r M) (O T n : Nat) (s : Int) (p : Nat × Int) : pathF M.S O T n s p = pathF r.S O T n s p := by rw [← h.S, path_clean]
theorem RQ.there (h : RQ w b r M) (s : Nat) (p : Nat × Int) : thereF M.S s p = thereF r.S s p := by unfold thereF; rw [h.kind]
theorem RQ.kindF (h : RQ w b r M) (s : Nat) (k : Int) (p : Nat × Int) : kindF M.S s k p = Go.Proofs.YtloppmepfkkblaaGreat.kindF r.S s k p := by unfold Go.Proofs.YtloppmepfkkblaaGreat.kindF; rw [h.kind]
theorem RQ.making (h : RQ w b r M) (O T n c s l : Nat) (p : Nat × Int) : makingF M.S O T n c s l p = makingF r.S O T n c s l p := by rw [← h.S, making_clean]

theorem RQ.wf (h : RQ w b r M) (hi : MInv M) : r.wf := fun i hi32 => by
  have h1 := hi.tree.wf i hi32
  have hr : 0 ≤ (r.S i).A ∧ (r.S i).A ≤ 32 ∧ 0 ≤ (r.S i).B ∧ (r.S i).B ≤ 32 := by
    rw [← h.A, ← h.B]
    by_cases hk : (M.S i).kind = 1
    · have := hi.tree.rng i hi32 hk; omega
    · have := hi.tree.oth i hi32 hk; omega
  refine ⟨hr.1, hr.2.1, hr.2.2.1, hr.2.2.2, by rw [← h.label]; exact h1.1, by rw [← h.owns]; exact h1.2⟩

theorem RQ.wq (h : RQ w b r M) (hi : MInv M) : r.wq := ⟨by rw [h.ph]; exact hi.ph, fun q _ => h.ids.qs q⟩

theorem RQ.cur (h : RQ w b r M) : curF r = M.cur := by
  unfold MS.cur
  rw [← h.lq, ← h.ph]
  unfold curF lqR
  by_cases h1 : r.qi r.phase = 0 ∨ (r.S (r.qs r.phase)).id ≠ r.qi r.phase
  · rw [if_pos h1, if_pos]
    rcases h1 with h1 | h1
    · exact Or.inl h1
    · exact Or.inr (Or.inl h1)
  · rw [if_neg h1]
    dsimp only
    have haw : (M.S (r.qs r.phase)).awake = (r.S (r.qs r.phase)).awake := by rw [← h.S]; rfl
    rw [haw]
    by_cases h2 : (r.S (r.qs r.phase)).awake = true
    · rw [if_pos h2, if_neg]
      rintro (h3 | h3 | h3)
      · exact h1 (Or.inl h3)
      · exact h1 (Or.inr h3)
      · rw [h2] at h3; cases h3
    · rw [if_neg h2, if_pos (Or.inr (Or.inr (by simpa using h2)))]

theorem RR.lt (h : RR w b r M) {k : Nat} (hk : RFt b r.S k) : k < w.heap.size := by
  rcases hk with rfl | ⟨i, hi, hg⟩
  · exact h.rk.lt
  · exact (h.wsx.words i hi).lt hg

theorem RR.fr {P : Nat → Prop} (h : RR w b r M) (f : Fr P w w') (hp : ∀ k, RFt b r.S k → ¬ P k) : RR w' b r M :=
  ⟨⟨Nat.lt_of_lt_of_le h.blt f.size, h.wsx.fr f (fun i g hi hg => hp g (Or.inr ⟨i, hi, hg⟩)),
   fun i hi hk => (h.own i hi hk).same (fun g hg => f.block g (h.lt (Or.inr ⟨i, hi, hg⟩)) (hp g (Or.inr ⟨i, hi, hg⟩))), h.S, h.lq, h.ph, h.ids⟩, h.rk.fr f (hp b (Or.inl rfl))⟩

theorem RR.still (h : RR w b r M) (f : Fr (fun _ => False) w w') : RR w' b r M := h.fr f (fun _ _ => id)

/-- What a trap leaves. -/
def RGoes (w : World) (b : Nat) (r : RSt) (M' : MS) (w' : World) : Prop :=
  ∃ r', RR w' b r' M' ∧ r'.made ≤ r.made + 1 ∧ (∀ k, RFt b r'.S k → RFt b r.S k ∨ w.heap.size ≤ k) ∧ Fr (RFt b r.S) w w'

theorem RGoes.still (h : RR w b r M) (f : Fr (fun _ => False) w w') : RGoes w b r M w' :=
  ⟨r, h.still f, by omega, fun _ hk => Or.inl hk, f.mono (fun _ _ h => h.elim)⟩

/-! ### what is done, in memory -/

theorem clean_upd (S : Nat → Th) (s : Nat) (t : Th) : (fun i => clean (upd S s t i)) = upd (fun i => clean (S i)) s (clean t) := by
  funext i
  unfold upd
  split <;> rfl

/-- An object is put. -/
theorem RQ.put (h : RQ w b r M) {s : Nat} (hk : (r.S s).kind = 0) (t : Th) (ht : t.kind ≠ 0) (ws : List Int)
    (hw : Words w' { t with id := r.made + 1 } ws) (hnew : ∀ k, t.wb k → w.heap.size ≤ k) (ho : t.kind = 4 → Own w' { t with id := r.made + 1 } ws) {P : Nat → Prop} (f : Fr P w w') (hP : ∀ k i, i < 32 → (r.S i).wb k → ¬ P k) :
    RQ w' b ((r.mk1 (r.made + 1)).put s { t with id := r.made + 1 }) (M.put s (clean t) ws) := by
  have hoff : ∀ k, (∃ i, i < 32 ∧ (r.S i).wb k) → k ≠ b := fun k ⟨i, hi, hg⟩ => h.wsx.off i k hi hg
  have hid : ∀ q, r.qi q ≠ r.made + 1 := fun q e => by have := h.ids.qi q; omega
  have hS : ((r.mk1 (r.made + 1)).put s { t with id := r.made + 1 }).S = upd r.S s { t with id := r.made + 1 } := rfl
  have hnb : ∀ k, ({ t with id := r.made + 1 } : Th).wb k → w.heap.size ≤ k := fun k hk => hnew k hk
  refine ⟨Nat.lt_of_lt_of_le h.blt f.size, ⟨fun i hi => ?_, fun i j g hi hj h1 h2 => ?_, fun i g hi h1 => ?_⟩, fun i hi h4 => ?_, ?_, fun q => ?_, h.ph, ?_⟩
  · rw [hS]
    show Words w' (upd r.S s _ i) (upd M.ws s ws i)
    unfold upd
    split
    · exact hw
    · exact (h.wsx.words i hi).same (fun g hg => f.block g ((h.wsx.words i hi).lt hg) (hP g i hi hg))
  · rw [hS] at h1 h2
    unfold upd at h1 h2
    split at h1
    · split at h2
      · omega
      · have := hnb g h1
        have := (h.wsx.words j hj).lt h2
        omega
    · split at h2
      · have := hnb g h2
        have := (h.wsx.words i hi).lt h1
        omega
      · exact h.wsx.apart i j g hi hj h1 h2
  · rw [hS] at h1
    unfold upd at h1
    split at h1
    · have := hnb g h1
      have := h.blt
      omega
    · exact hoff g ⟨i, hi, h1⟩
  · rw [hS] at h4 ⊢
    show Own w' (upd r.S s _ i) (upd M.ws s ws i)
    unfold upd at h4 ⊢
    split at h4
    · rename_i e
      rw [if_pos e, if_pos e]
      exact ho h4
    · rename_i e
      rw [if_neg e, if_neg e]
      exact (h.own i hi h4).same (fun g hg => f.block g ((h.wsx.words i hi).lt hg) (hP g i hi hg))
  · rw [hS, clean_upd]
    show upd _ s _ = upd M.S s _
    rw [h.S]
    rfl
  · show lqR _ q = M.lq q
    rw [← h.lq q]
    by_cases e : r.qs q = s
    · have h2 : r.qi q = 0 ∨ (r.S (r.qs q)).id ≠ r.qi q := by
        by_cases h0 : r.qi q = 0
        · exact Or.inl h0
        · refine Or.inr (fun h3 => h0 ?_)
          rw [e, h.ids.zero s hk] at h3
          exact h3.symm
      rw [lqR_none h2]
      refine lqR_none (Or.inr ?_)
      show (upd r.S s _ (r.qs q)).id ≠ r.qi q
      rw [e, upd_same]
      exact fun h3 => hid q h3.symm
    · exact lqR_same rfl rfl (by show (upd r.S s _ (r.qs q)).id = _; rw [upd_ne _ _ e])
  · refine ⟨fun i hi => ?_, fun i hi => ?_, fun i j hi hj hij => ?_, fun q => ⟨(h.ids.qi q).1, Int.le_trans (h.ids.qi q).2 (by show r.made ≤ r.made + 1; omega)⟩, h.ids.qs, fun q hq hl => ?_, by show 0 ≤ r.made + 1; have := h.ids.made; omega⟩
    · rw [hS] at hi ⊢
      unfold upd at hi ⊢
      split at hi
      · exact absurd hi ht
      · rename_i e; rw [if_neg e]; exact h.ids.zero i hi
    · rw [hS] at hi ⊢
      show 1 ≤ (upd r.S s _ i).id ∧ (upd r.S s _ i).id ≤ r.made + 1
      unfold upd at hi ⊢
      split at hi
      · rename_i e
        rw [if_pos e]
        have := h.ids.made
        exact ⟨by show 1 ≤ r.made + 1; omega, Int.le_refl _⟩
      · rename_i e
        rw [if_neg e]
        have := h.ids.pos i hi
        omega
    · rw [hS] at hi hj hij
      unfold upd at hi hj hij
      by_cases e1 : i = s
      · by_cases e2 : j = s
        · omega
        · rw [if_pos e1, if_neg e2] at hij
          rw [if_neg e2] at hj
          have := (h.ids.pos j hj).2
          change r.made + 1 = (r.S j).id at hij
          omega
      · rw [if_neg e1] at hi
        by_cases e2 : j = s
        · rw [if_neg e1, if_pos e2] at hij
          have := (h.ids.pos i hi).2
          change (r.S i).id = r.made + 1 at hij
          omega
        · rw [if_neg e2] at hj
          rw [if_neg e1, if_neg e2] at hij
          exact h.ids.inj i j hi hj hij
    · rw [hS] at hl ⊢
      change r.qi q ≠ 0 at hq
      change (upd r.S s _ (r.qs q)).id = r.qi q at hl
      show (upd r.S s _ (r.qs q)).kind = 2
      by_cases e : r.qs q = s
      · rw [e, upd_same] at hl
        exact absurd hl.symm (hid q)
      · rw [upd_ne _ _ e] at hl ⊢
        exact h.ids.live q hq hl

theorem put_foot {s : Nat} {t : Th} {k : Nat} (hk : RFt b ((r.mk1 (r.made + 1)).put s { t with id := r.made + 1 }).S k) : RFt b r.S k ∨ t.wb k := by
  rcases hk with e | ⟨i, hi, hg⟩
  · exact Or.inl (Or.inl e)
  · change (upd r.S s _ i).wb k at hg
    unfold upd at hg
    split at hg
    · exact Or.inr hg
    · exact Or.inl (Or.inr ⟨i, hi, hg⟩)

theorem wake_foot {s k : Nat} {v : Bool} (hk : RFt b (r.put s { r.S s with awake := v }).S k) : RFt b r.S k := by
  rcases hk with e | ⟨i, hi, hg⟩
  · exact Or.inl e
  · refine Or.inr ⟨i, hi, ?_⟩
    change (upd r.S s _ i).wb k at hg
    unfold upd at hg
    split at hg
    · rename_i e; subst e; exact hg
    · exact hg

/-- Quanta lose their threads. -/
theorem RQ.idle (h : RQ w b r M) (g e : Nat) {P : Nat → Prop} (f : Fr P w w') (hP : ∀ k i, i < 32 → (r.S i).wb k → ¬ P k) : RQ w' b (r.idle g e) (M.idle g e) := by
  have hoff : ∀ k, (∃ i, i < 32 ∧ (r.S i).wb k) → k ≠ b := fun k ⟨i, hi, hg⟩ => h.wsx.off i k hi hg
  refine ⟨Nat.lt_of_lt_of_le h.blt f.size, h.wsx.fr f (fun i g hi hg => hP g i hi hg), fun i hi hk => (h.own i hi hk).same (fun g hg => f.block g ((h.wsx.words i hi).lt hg) (hP g i hi hg)), h.S, fun q => ?_, h.ph, ⟨h.ids.zero, h.ids.pos, h.ids.inj, fun q => ?_, fun q => ?_, fun q hq hl => ?_, h.ids.made⟩⟩
  · show lqR (r.idle g e) q = (if g ≤ q ∧ q < e then none else M.lq q)
    rw [← h.lq q]
    by_cases h1 : g ≤ q ∧ q < e
    · rw [if_pos h1]; exact lqR_none (Or.inl (idle_in r h1).1)
    · rw [if_neg h1]; exact lqR_same (idle_out r h1).1 (idle_out r h1).2 rfl
  · have h2 := h.ids.made
    by_cases h1 : g ≤ q ∧ q < e
    · rw [(idle_in r h1).1]; exact ⟨Int.le_refl _, h2⟩
    · rw [(idle_out r h1).1]; exact h.ids.qi q
  · by_cases h1 : g ≤ q ∧ q < e
    · rw [(idle_in r h1).2]; omega
    · rw [(idle_out r h1).2]; exact h.ids.qs q
  · by_cases h1 : g ≤ q ∧ q < e
    · exact absurd (idle_in r h1).1 hq
    · rw [(idle_out r h1).1] at hq hl
      rw [(idle_out r h1).2] at hl ⊢
      exact h.ids.live q hq hl

/-- A quantum's thread. -/
theorem RQ.turn (h : RQ w b r M) (q : Nat) (s : Nat) (hs : s < 32) (i : Int) (t : Option Nat) (hi : i = 0 ∧ t = none ∨ i = (r.S s).id ∧ (r.S s).kind = 2 ∧ t = some s) {P : Nat → Prop} (f : Fr P w w') (hP : ∀ k i, i < 32 → (r.S i).wb k → ¬ P k) : RQ w' b (r.turn q s i) (M.turn q t) := by
  have hoff : ∀ k, (∃ i, i < 32 ∧ (r.S i).wb k) → k ≠ b := fun k ⟨i, hi, hg⟩ => h.wsx.off i k hi hg
  refine ⟨Nat.lt_of_lt_of_le h.blt f.size, h.wsx.fr f (fun i g hi hg => hP g i hi hg), fun i hi hk => (h.own i hi hk).same (fun g hg => f.block g ((h.wsx.words i hi).lt hg) (hP g i hi hg)), h.S, fun q' => ?_, h.ph, ⟨h.ids.zero, h.ids.pos, h.ids.inj, fun q' => ?_, fun q' => ?_, fun q' hq hl => ?_, h.ids.made⟩⟩
  · show lqR (r.turn q s i) q' = upd M.lq q t q'
    by_cases e : q' = q
    · subst e
      have e1 : (r.turn q' s i).qi q' = i := upd_same _ _ _
      have e2 : (r.turn q' s i).qs q' = s := upd_same _ _ _
      rw [upd_same]
      rcases hi with ⟨h1, rfl⟩ | ⟨h1, h2, rfl⟩
      · exact lqR_none (Or.inl (e1.trans h1))
      · have := h.ids.pos s (by omega)
        have h4 : lqR (r.turn q' s i) q' = some ((r.turn q' s i).qs q') := lqR_some (by
          rw [e1, e2]
          rintro (h3 | h3)
          · omega
          · exact h3 h1.symm)
        rw [h4, e2]
    · rw [upd_ne _ _ e, ← h.lq q']
      exact lqR_same (upd_ne _ _ e) (upd_ne _ _ e) rfl
  · show 0 ≤ upd r.qi q i q' ∧ upd r.qi q i q' ≤ r.made
    unfold upd
    split
    · rcases hi with ⟨rfl, _⟩ | ⟨rfl, h2, _⟩
      · exact ⟨Int.le_refl _, h.ids.made⟩
      · have := h.ids.pos s (by omega); omega
    · exact h.ids.qi q'
  · show upd r.qs q s q' < 32
    unfold upd
    split
    · exact hs
    · exact h.ids.qs q'
  · change upd r.qi q i q' ≠ 0 at hq
    change (r.S (upd r.qs q s q')).id = upd r.qi q i q' at hl
    show (r.S (upd r.qs q s q')).kind = 2
    by_cases e : q' = q
    · subst e
      rw [upd_same] at hq ⊢
      rcases hi with ⟨rfl, _⟩ | ⟨_, h2, _⟩
      · exact absurd rfl hq
      · exact h2
    · rw [upd_ne _ _ e] at hq ⊢
      rw [upd_ne _ _ e, upd_ne _ _ e] at hl
      exact h.ids.live q' hq hl

/-- A thread is awake, or asleep. -/
theorem RQ.wake (h : RQ w b r M) (s : Nat) (v : Bool) (hk : (r.S s).kind ≠ 0) {P : Nat → Prop} (f : Fr P w w') (hP : ∀ k i, i < 32 → (r.S i).wb k → ¬ P k) : RQ w' b (r.put s { r.S s with awake := v }) (M.awake s v) := by
  have hoff : ∀ k, (∃ i, i < 32 ∧ (r.S i).wb k) → k ≠ b := fun k ⟨i, hi, hg⟩ => h.wsx.off i k hi hg
  have hU : ∀ i, ((r.put s { r.S s with awake := v }).S i).kind = (r.S i).kind ∧ ((r.put s { r.S s with awake := v }).S i).id = (r.S i).id ∧ ((r.put s { r.S s with awake := v }).S i).Wa = (r.S i).Wa ∧ ((r.put s { r.S s with awake := v }).S i).Wn = (r.S i).Wn ∧ ((r.put s { r.S s with awake := v }).S i).Wc = (r.S i).Wc := fun i => by
    unfold RSt.put upd
    dsimp only
    split
    · rename_i e; subst e; exact ⟨rfl, rfl, rfl, rfl, rfl⟩
    · exact ⟨rfl, rfl, rfl, rfl, rfl⟩
  have hwb : ∀ i g, ((r.put s { r.S s with awake := v }).S i).wb g → (r.S i).wb g := fun i g hg => by
    unfold Th.wb at hg ⊢
    rw [(hU i).2.2.1] at hg
    exact hg
  refine ⟨Nat.lt_of_lt_of_le h.blt f.size, ⟨fun i hi => ?_, fun i j g hi hj h1 h2 => h.wsx.apart i j g hi hj (hwb i g h1) (hwb j g h2), fun i g hi h1 => h.wsx.off i g hi (hwb i g h1)⟩, fun i hi h4 => ?_, ?_, fun q => ?_, h.ph, ⟨fun i hi => ?_, fun i hi => ?_, fun i j hi hj hij => ?_, h.ids.qi, h.ids.qs, fun q hq hl => ?_, h.ids.made⟩⟩
  · have h0 := (h.wsx.words i hi).same (w' := w') (fun g hg => f.block g ((h.wsx.words i hi).lt hg) (hP g i hi hg))
    refine ⟨by rw [(hU i).2.2.2.1]; exact h0.n, by rw [(hU i).2.2.2.1, (hU i).2.2.2.2]; exact h0.cap, ?_⟩
    rw [(hU i).2.2.1, (hU i).2.2.2.2, (hU i).2.2.2.1]
    exact h0.at'
  · rw [(hU i).1] at h4
    have h0 := (h.own i hi h4).same (w' := w') (fun g hg => f.block g ((h.wsx.words i hi).lt hg) (hP g i hi hg))
    unfold Own at h0 ⊢
    rw [(hU i).2.2.1, (hU i).2.2.2.1, (hU i).2.2.2.2]
    exact h0
  · show (fun i => clean (upd r.S s _ i)) = upd M.S s _
    rw [clean_upd, ← h.S]
    rfl
  · show lqR _ q = M.lq q
    rw [← h.lq q]
    exact lqR_same rfl rfl (hU (r.qs q)).2.1
  · rw [(hU i).1] at hi
    have : i ≠ s := fun e => hk (e ▸ hi)
    show upd r.S s _ i = fth
    rw [upd_ne _ _ this]
    exact h.ids.zero i hi
  · rw [(hU i).1] at hi
    rw [(hU i).2.1]
    exact h.ids.pos i hi
  · rw [(hU i).1] at hi
    rw [(hU j).1] at hj
    rw [(hU i).2.1, (hU j).2.1] at hij
    exact h.ids.inj i j hi hj hij
  · rw [(hU _).2.1] at hl
    rw [(hU _).1]
    exact h.ids.live q hq hl

theorem own_words {w : World} {t : Th} {xs : List Int} (h : Own w t xs) : Words w t xs := by
  have hn := h.len
  rcases h.2 with ⟨h1, h2⟩ | ⟨g, cap, cur, h1, _, h3, h4, _, h5, h6⟩
  · injection h1 with h1 h1' h1''
    exact ⟨hn, by omega, Or.inl ⟨h1, h1''⟩⟩
  · injection h1 with h1 _ h1''
    have hx : ∀ (i : Nat) (x : Int), xs[i]? = some x → cur[i]? = some (Value.int .i64 x) := fun i x hx => by
      have hi : i < xs.length := (List.getElem?_eq_some_iff.1 hx).1
      have h2 : (xs.map (Value.int .i64))[i]? = some (Value.int .i64 x) := by simp [hx]
      rw [← h6, List.getElem?_take_of_lt (by omega)] at h2
      simpa using h2
    refine ⟨hn, by omega, Or.inr ⟨g, cur, h1, ⟨_, h3⟩, by omega, fun i hi => ?_, hx⟩⟩
    exact ⟨xs[i]'(by omega), hx i _ (List.getElem?_eq_getElem (by omega))⟩

/-- A port's words stand elsewhere. -/
theorem RQ.rewords (h : RQ w b r M) {s : Nat} (hs : s < 32) (hk : (r.S s).kind = 4) (t : Th) (ht : t = { r.S s with Wa := t.Wa, Wn := t.Wn, Wc := t.Wc }) (ws : List Int) (ho : Own w' t ws) (hnew : ∀ g, t.wb g → (r.S s).wb g ∨ w.heap.size ≤ g)
    {P : Nat → Prop} (f : Fr P w w') (hP : ∀ k i, i < 32 → i ≠ s → (r.S i).wb k → ¬ P k) : RQ w' b (r.put s t) (M.words s ws) := by
  have hU : ∀ i, ((r.put s t).S i).kind = (r.S i).kind ∧ ((r.put s t).S i).id = (r.S i).id := fun i => by
    show (upd r.S s t i).kind = _ ∧ (upd r.S s t i).id = _
    unfold upd
    split
    · rename_i e; subst e; rw [ht]; exact ⟨rfl, rfl⟩
    · exact ⟨rfl, rfl⟩
  have hof : ∀ g, t.wb g → g ≠ b := fun g hg e => by
    rcases hnew g hg with h1 | h1
    · exact h.wsx.off s g hs h1 e
    · have := h.blt; omega
  have hap : ∀ j g, j < 32 → j ≠ s → (r.S j).wb g → ¬ t.wb g := fun j g hj hjs hg ht' => by
    rcases hnew g ht' with h1 | h1
    · exact hjs (h.wsx.apart j s g hj hs hg h1)
    · have := (h.wsx.words j hj).lt hg; omega
  refine ⟨Nat.lt_of_lt_of_le h.blt f.size, ⟨fun i hi => ?_, fun i j g hi hj h1 h2 => ?_, fun i g hi h1 => ?_⟩, fun i hi h4 => ?_, ?_, fun q => ?_, h.ph, ⟨fun i hi => ?_, fun i hi => ?_, fun i j hi hj hij => ?_, h.ids.qi, h.ids.qs, fun q hq hl => ?_, h.ids.made⟩⟩
  · show Words w' (upd r.S s t i) (upd M.ws s ws i)
    by_cases e : i = s
    · subst e; rw [upd_same, upd_same]; exact own_words ho
    · rw [upd_ne _ _ e, upd_ne _ _ e]
      exact (h.wsx.words i hi).same (fun g hg => f.block g ((h.wsx.words i hi).lt hg) (hP g i hi e hg))
  · change (upd r.S s t i).wb g at h1
    change (upd r.S s t j).wb g at h2
    by_cases e1 : i = s
    · by_cases e2 : j = s
      · omega
      · rw [e1, upd_same] at h1
        rw [upd_ne _ _ e2] at h2
        exact absurd h1 (hap j g hj e2 h2)
    · rw [upd_ne _ _ e1] at h1
      by_cases e2 : j = s
      · rw [e2, upd_same] at h2
        exact absurd h2 (hap i g hi e1 h1)
      · rw [upd_ne _ _ e2] at h2
        exact h.wsx.apart i j g hi hj h1 h2
  · change (upd r.S s t i).wb g at h1
    by_cases e1 : i = s
    · rw [e1, upd_same] at h1; exact hof g h1
    · rw [upd_ne _ _ e1] at h1; exact h.wsx.off i g hi h1
  · show Own w' (upd r.S s t i) (upd M.ws s ws i)
    rw [(hU i).1] at h4
    by_cases e : i = s
    · subst e; rw [upd_same, upd_same]; exact ho
    · rw [upd_ne _ _ e, upd_ne _ _ e]
      exact (h.own i hi h4).same (fun g hg => f.block g ((h.wsx.words i hi).lt hg) (hP g i hi e hg))
  · show (fun i => clean (upd r.S s t i)) = M.S
    rw [clean_upd, ← h.S]
    funext i
    unfold upd
    split
    · rename_i e; subst e; rw [ht]; rfl
    · rfl
  · show lqR _ q = M.lq q
    rw [← h.lq q]
    exact lqR_same rfl rfl (hU (r.qs q)).2
  · rw [(hU i).1] at hi
    have : i ≠ s := fun e => by rw [e] at hi; omega
    show upd r.S s t i = fth
    rw [upd_ne _ _ this]
    exact h.ids.zero i hi
  · rw [(hU i).1] at hi
    rw [(hU i).2]
    exact h.ids.pos i hi
  · rw [(hU i).1] at hi
    rw [(hU j).1] at hj
    rw [(hU i).2, (hU j).2] at hij
    exact h.ids.inj i j hi hj hij
  · rw [(hU _).2] at hl
    rw [(hU _).1]
    exact h.ids.live q hq hl

theorem rewords_foot {s k : Nat} {t : Th} (hk : RFt b (r.put s t).S k) : RFt b r.S k ∨ t.wb k := by
  rcases hk with e | ⟨i, hi, hg⟩
  · exact Or.inl (Or.inl e)
  · change (upd r.S s t i).wb k at hg
    unfold upd at hg
    split at hg
    · exact Or.inr hg
    · exact Or.inl (Or.inr ⟨i, hi, hg⟩)

theorem gone_S (r : RSt) (s : Nat) : (r.gone s).S = fun i => if goes r.S s i then fth else r.S i := by
  funext i
  show (r.gone s).S i = if goes r.S s i then fth else r.S i
  by_cases hk : (r.S s).kind = 1
  · have e0 : r.gone s = (((r.put s th0).wipe (r.S s).A (r.S s).B).idle (r.S s).G (r.S s).H) := if_pos hk
    rw [e0]
    show (if (r.S s).A ≤ (i : Int) ∧ (i : Int) < (r.S s).B then th0 else upd r.S s th0 i) = _
    by_cases h1 : (r.S s).A ≤ i ∧ (i : Int) < (r.S s).B
    · rw [if_pos h1, if_pos (c := goes r.S s i) (Or.inr ⟨hk, h1⟩)]
    · rw [if_neg h1]
      by_cases e : i = s
      · rw [e, upd_same, if_pos (c := goes r.S s s) (Or.inl rfl)]
      · rw [upd_ne _ _ e, if_neg (c := goes r.S s i)]
        rintro (h2 | h2)
        · exact e h2
        · exact h1 h2.2
  · have e0 : r.gone s = r.put s th0 := if_neg hk
    rw [e0]
    show upd r.S s th0 i = _
    by_cases e : i = s
    · rw [e, upd_same, if_pos (c := goes r.S s s) (Or.inl rfl)]
    · rw [upd_ne _ _ e, if_neg (c := goes r.S s i)]
      rintro (h2 | h2)
      · exact e h2
      · exact hk h2.1

theorem gone_foot {s k : Nat} (hk : RFt b (r.gone s).S k) : RFt b r.S k := by
  rcases hk with e | ⟨i, hi, hg⟩
  · exact Or.inl e
  · refine Or.inr ⟨i, hi, ?_⟩
    rw [gone_S] at hg
    dsimp only at hg
    split at hg
    · obtain ⟨o, s, h⟩ := hg; cases h
    · exact hg

theorem gone_q (r : RSt) (s q : Nat) : ((r.gone s).qi q = if (r.S s).kind = 1 ∧ (r.S s).G ≤ q ∧ (q : Int) < (r.S s).H then 0 else r.qi q) ∧ ((r.gone s).qs q = if (r.S s).kind = 1 ∧ (r.S s).G ≤ q ∧ (q : Int) < (r.S s).H then 0 else r.qs q) := by
  unfold RSt.gone
  by_cases hk : (r.S s).kind = 1
  · rw [if_pos hk]
    unfold RSt.idle RSt.wipe RSt.put
    dsimp only
    by_cases h1 : (r.S s).G ≤ q ∧ (q : Int) < (r.S s).H
    · rw [if_pos h1, if_pos ⟨hk, h1⟩, if_pos h1, if_pos ⟨hk, h1⟩]; exact ⟨rfl, rfl⟩
    · rw [if_neg h1, if_neg (fun h => h1 h.2), if_neg h1, if_neg (fun h => h1 h.2)]; exact ⟨rfl, rfl⟩
  · rw [if_neg hk, if_neg (fun h => hk h.1), if_neg (fun h => hk h.1)]; exact ⟨rfl, rfl⟩

theorem gone_rest (r : RSt) (s : Nat) : (r.gone s).phase = r.phase ∧ (r.gone s).made = r.made := by
  unfold RSt.gone
  split <;> exact ⟨rfl, rfl⟩

theorem goes_clean (S : Nat → Th) (s i : Nat) : goes (fun i => clean (S i)) s i ↔ goes S s i := Iff.rfl

theorem fth_wb (k : Nat) : ¬ fth.wb k := by
  rintro ⟨o, s, h⟩
  cases h

/-- An object goes. -/
theorem RQ.gone (h : RQ w b r M) (s : Nat) {P : Nat → Prop} (f : Fr P w w') (hP : ∀ k i, i < 32 → (r.S i).wb k → ¬ P k) : RQ w' b (r.gone s) (M.gone s) := by
  have hoff : ∀ k, (∃ i, i < 32 ∧ (r.S i).wb k) → k ≠ b := fun k ⟨i, hi, hg⟩ => h.wsx.off i k hi hg
  have hS := gone_S r s
  have hgo : ∀ i, goes M.S s i ↔ goes r.S s i := fun i => by rw [← h.S]; exact Iff.rfl
  have hwb : ∀ i g, ((r.gone s).S i).wb g → (r.S i).wb g := fun i g hg => by
    rw [hS] at hg
    dsimp only at hg
    split at hg
    · exact absurd hg (fth_wb g)
    · exact hg
  have hMS : (M.gone s).S = fun i => if goes r.S s i then fth else M.S i := by
    unfold MS.gone
    funext i
    dsimp only
    by_cases e : goes r.S s i
    · rw [if_pos e, if_pos ((hgo i).2 e)]
    · rw [if_neg e, if_neg (fun e' => e ((hgo i).1 e'))]
  have hMw : ∀ i, (M.gone s).ws i = if goes r.S s i then [] else M.ws i := fun i => by
    unfold MS.gone
    dsimp only
    by_cases e : goes r.S s i
    · rw [if_pos e, if_pos ((hgo i).2 e)]
    · rw [if_neg e, if_neg (fun e' => e ((hgo i).1 e'))]
  refine ⟨Nat.lt_of_lt_of_le h.blt f.size, ⟨fun i hi => ?_, fun i j g hi hj h1 h2 => h.wsx.apart i j g hi hj (hwb i g h1) (hwb j g h2), fun i g hi h1 => h.wsx.off i g hi (hwb i g h1)⟩, fun i hi h4 => ?_, ?_, fun q => ?_, ?_, ⟨fun i hi => ?_, fun i hi => ?_, fun i j hi hj hij => ?_, fun q => ?_, fun q => ?_, fun q hq hl => ?_, ?_⟩⟩
  · rw [hS, hMw]
    dsimp only
    split
    · exact ⟨rfl, Nat.le_refl _, Or.inl ⟨rfl, rfl⟩⟩
    · exact (h.wsx.words i hi).same (fun g hg => f.block g ((h.wsx.words i hi).lt hg) (hP g i hi hg))
  · rw [hMw]
    rw [hS] at h4 ⊢
    dsimp only at h4 ⊢
    split at h4
    · exact absurd h4 (by simp [fth])
    · rename_i e
      rw [if_neg e, if_neg e]
      exact (h.own i hi h4).same (fun g hg => f.block g ((h.wsx.words i hi).lt hg) (hP g i hi hg))
  · rw [hMS, hS, ← h.S]
    funext i
    dsimp only
    split <;> rfl
  · have h1 : ((M.S s).kind = 1 ∧ (M.S s).G ≤ q ∧ (q : Int) < (M.S s).H) ↔ ((r.S s).kind = 1 ∧ (r.S s).G ≤ q ∧ (q : Int) < (r.S s).H) := by rw [h.kind, h.G, h.H]
    show lqR (r.gone s) q = (if (M.S s).kind = 1 ∧ (M.S s).G ≤ q ∧ (q : Int) < (M.S s).H then none else (M.lq q).bind fun t => if goes M.S s t then none else some t)
    rw [← h.lq q]
    obtain ⟨q1, q2⟩ := gone_q r s q
    by_cases e : (r.S s).kind = 1 ∧ (r.S s).G ≤ q ∧ (q : Int) < (r.S s).H
    · rw [if_pos (h1.2 e)]
      exact lqR_none (Or.inl (by rw [q1, if_pos e]))
    · rw [if_neg e] at q1 q2
      rw [if_neg (fun e' => e (h1.1 e'))]
      by_cases e3 : goes r.S s (r.qs q)
      · have hn : lqR (r.gone s) q = none := by
          refine lqR_none ?_
          rw [q1, q2, hS]
          dsimp only
          rw [if_pos e3]
          by_cases e4 : r.qi q = 0
          · exact Or.inl e4
          · exact Or.inr (fun e5 => e4 e5.symm)
        rw [hn]
        by_cases e2 : r.qi q = 0 ∨ (r.S (r.qs q)).id ≠ r.qi q
        · rw [lqR_none e2]; rfl
        · rw [lqR_some e2]
          show none = (if goes M.S s (r.qs q) then none else some (r.qs q))
          rw [if_pos ((hgo _).2 e3)]
      · have hn : lqR (r.gone s) q = lqR r q := lqR_same q1 q2 (by rw [hS]; dsimp only; rw [if_neg e3])
        rw [hn]
        by_cases e2 : r.qi q = 0 ∨ (r.S (r.qs q)).id ≠ r.qi q
        · rw [lqR_none e2]; rfl
        · rw [lqR_some e2]
          show some (r.qs q) = (if goes M.S s (r.qs q) then none else some (r.qs q))
          rw [if_neg (fun e' => e3 ((hgo _).1 e'))]
  · rw [(gone_rest r s).1]; exact h.ph
  · rw [hS] at hi ⊢
    dsimp only at hi ⊢
    split at hi
    · rename_i e; rw [if_pos e]
    · rename_i e; rw [if_neg e]; exact h.ids.zero i hi
  · rw [(gone_rest r s).2]
    rw [hS] at hi ⊢
    dsimp only at hi ⊢
    split at hi
    · exact absurd rfl hi
    · rename_i e; rw [if_neg e]; exact h.ids.pos i hi
  · rw [hS] at hi hj hij
    dsimp only at hi hj hij
    split at hi
    · exact absurd rfl hi
    · rename_i e1
      split at hj
      · exact absurd rfl hj
      · rename_i e2
        rw [if_neg e1, if_neg e2] at hij
        exact h.ids.inj i j hi hj hij
  · rw [(gone_q r s q).1, (gone_rest r s).2]
    have := h.ids.made
    split
    · omega
    · exact h.ids.qi q
  · rw [(gone_q r s q).2]
    split
    · omega
    · exact h.ids.qs q
  · rw [(gone_q r s q).1] at hq hl
    rw [(gone_q r s q).2] at hl ⊢
    by_cases e : (r.S s).kind = 1 ∧ (r.S s).G ≤ q ∧ (q : Int) < (r.S s).H
    · rw [if_pos e] at hq; exact absurd rfl hq
    · rw [if_neg e] at hq
      rw [if_neg e, if_neg e] at hl
      rw [if_neg e]
      rw [hS] at hl ⊢
      dsimp only at hl ⊢
      split at hl
      · exact absurd hl.symm hq
      · rename_i e3; rw [if_neg e3]; exact h.ids.live q hq hl
  · rw [(gone_rest r s).2]; exact h.ids.made
end

end Go.Proofs.YtloppmepfkkblaaGreat
end

section
/- What the reference's 'Trap' does, on the way to the traps behind the sixth. -/
open Go Go.Proofs Go.RowKit
namespace Go.Proofs.YtloppmepfkkblaaGreat

set_option maxHeartbeats 2000000 in
theorem rtrap_second (w : World) (b : Nat) (r : RSt) (n : Int) (la : Option Addr) (ln cap : Nat) (s : Nat) (F : Nat → Prop) (R : World → Nat × Int → Prop) (hr : RK w b r) (hq : r.wq) (hwf : r.wf) (hc : curF r = some s) (h1 : 1 ≤ n) (h6 : ¬ n ≤ 6) (h7 : n ≤ 9) (h2 : n < 17) (hln : (shapeL n).length = ln)
    (hmay : ∀ w2, Below w.heap.size w w2 → Calls Tryz.prog 40 #[.string ⟨(shapeL n).toArray⟩, .slice la ln cap] w2 fun e w' => e = .returned (.bool true) ∧ ∃ m, w' = w2.drewN m)
    (hin : ∀ w1 ab, AK w1 ab b (r.S s).label (r.S s).owns (0, 0) r → Below w.heap.size w w1 → w.heap.size < ab → Calls Tryz.prog 42 #[.pointer (some ⟨ab, 0, none⟩), .int .i64 n, .slice la ln cap] w1 fun e w' =>
      ∃ p, e = .returned (.tuple #[]) ∧ AskAt w' ab b (r.S s).label (r.S s).owns p ∧ R w' p ∧ Fr (fun k => k = ab ∨ F k) w1 w')
    (hF : ¬ F w.heap.size)
    (hst : ∀ w' w'' p, R w' p → Fr (fun k => k = w.heap.size) w' w'' → R w'' p) :
    Calls Tryz.prog 30 #[.pointer (some ⟨b, 0, none⟩), .int .i64 n, .slice la ln cap] w fun e w' => ∃ p, e = .returned (outV p.2 0 p.1) ∧ R w' p ∧ Fr F w w' := by
  have HMAY := hide hmay
  have HIN := hide hin
  have HST := hide hst
  have HWF := hide hwf
  have HF := hide hF
  have hs := curF_lt hq hc
  have hsi : (s : Int) < 32 := by omega
  clear hmay hin hst hwf hF
  have hlt := hr.lt
  have HR := hide hr
  have HQ := hide hq
  have HC := hide hc
  have hs0 : ¬ (s : Int) < 0 := by omega
  have HLN := hide hln
  clear hr hq hc hln
  go_enter Tryz.func30, Tryz.ntmps30
  go_wp2_with fail
  refine (current_any _ _ _ (HR.out.alloc _) HQ.out).mono ?_
  rintro e w1 ⟨rfl, hb⟩
  rw [HC.out, oi]
  have B1 := hide (Blk.zero3 hb)
  have HB := hide (Below.first hb)
  have hz1 : w.heap.size + 1 ≤ w1.heap.size := by have := hb.size; simp at this; omega
  have HR1 := hide ((HR.out.alloc _).below hb (by simp; omega))
  clear hb
  go_wp2_with fail
  refine (shape_yes _ _ h1 h2).mono ?_
  rintro e w2 ⟨rfl, hb2⟩
  have B2 := hide (Blk.below B1.out hb2 (by omega))
  have HB2 := hide (HB.out.trans (hb2.mono (by omega)))
  have HR2 := hide (HR1.out.below hb2 (by have := HR1.out.lt; omega))
  have hz2 : w.heap.size + 1 ≤ w2.heap.size := by have := hb2.size; omega
  clear hb2 B1 HB HR1
  generalize hL : shapeL n = L at *
  have HL := hide hL
  clear hL
  have hll : L.length = ln := HLN.out
  clear HLN
  go_wp2_with fail
  refine (HMAY.out _ HB2.out).mono ?_
  rintro e w3 ⟨rfl, m, rfl⟩
  have B3 := hide (B2.out.drewN m)
  have HB3 := hide (below_drewN HB2.out m)
  have HR3 := hide (HR2.out.drewN m)
  have hz3 : w.heap.size + 1 ≤ (w2.drewN m).heap.size := hz2
  generalize w2.drewN m = w3 at *
  clear B2 HB2 HR2 hz2
  obtain ⟨-, k1, -, -, k4, -⟩ := HR3.out.things hs
  go_wp2_with fail
  go_region
  go_wp2_with fail
  have A3 : AK ((w3.alloc (.cells #[.pointer (some ⟨b, 0, none⟩), .int .i64 (r.S s).label, .int .i64 (r.S s).owns, .int .i64 0, .int .i64 0] 108)).drew) w3.heap.size b (r.S s).label (r.S s).owns (0, 0) r := ⟨(Blk.new w3 _ _).drew, (HR3.out.alloc _).drew, by have := HR3.out.lt; omega, wf_label HWF.out hs, (HWF.out s hs).2.2.2.2.2, by simp, HWF.out⟩
  refine (HIN.out _ _ A3 (by have := HB3.out.size; exact ((HB3.out.alloc this _).drew)) (by omega)).mono ?_
  rintro e w4 ⟨p, rfl, a4, r4, f4⟩
  have B4 : Blk w4 w.heap.size _ := Blk.fr ((B3.out.alloc _).drew) f4 (by rintro (h | h); omega; exact HF.out h)
  have x0 : w4.cell? ⟨w.heap.size, 0, none⟩ = some (.int .i64 0) := by rw [Blk.cell B4]; rfl
  have x1 : w4.cell? ⟨w.heap.size, 1, none⟩ = some (.int .i64 0) := by rw [Blk.cell B4]; rfl
  have x2 : w4.cell? ⟨w.heap.size, 2, none⟩ = some (.int .i64 0) := by rw [Blk.cell B4]; rfl
  have y0 := Blk.frozen B4 0
  have y1 := Blk.frozen B4 1
  have y2 := Blk.frozen B4 2
  obtain ⟨q0, q1, q2, q3, q4, -⟩ := AskAt.cells a4
  have hne : ¬ w3.heap.size = w.heap.size := by omega
  have F0 : Fr F w w4 := Fr.trans' (S' := fun k => k = w3.heap.size ∨ F k) (Fr.of_below ((HB3.out.alloc HB3.out.size _).drew)) f4 (by rintro i hi (h | h); have := HB3.out.size; omega; exact h)
  have R4 := hide r4
  have F4 := hide F0
  clear a4 r4 f4 F0 B4 A3
  by_cases hp : p.2 = 0
  · rw [hp] at q4
    go_wp2_with fail
    go_region
    go_wp2_with fail
    refine bodyPost_ret (v := .agg #[.int .i64 0, .int .i64 0, .int .i64 p.1]) (by simp [results, Tryz.results30, go_sem, x0, x1, x2]) rfl ⟨p, by rw [hp]; rfl, ?_, ?_⟩
    · exact HST.out _ _ _ R4.out ((((Fr.own _ _ _ _).trans (Fr.own _ _ _ _)).trans (Fr.own _ _ _ _)).drew)
    · exact (((F4.out.setCell (Or.inr (Nat.le_refl _)) _).setCell (Or.inr (Nat.le_refl _)) _).setCell (Or.inr (Nat.le_refl _)) _).drew
  · go_wp2_with fail
    go_region
    go_wp2_with fail
    refine bodyPost_ret (v := .agg #[.int .i64 p.2, .int .i64 0, .int .i64 p.1]) (by simp [results, Tryz.results30, go_sem, x0, x1, x2]) rfl ⟨p, rfl, ?_, ?_⟩
    · exact HST.out _ _ _ R4.out ((((Fr.own _ _ _ _).trans (Fr.own _ _ _ _)).trans (Fr.own _ _ _ _)).drew)
    · exact (((F4.out.setCell (Or.inr (Nat.le_refl _)) _).setCell (Or.inr (Nat.le_refl _)) _).setCell (Or.inr (Nat.le_refl _)) _).drew

set_option maxHeartbeats 2000000 in
theorem rtrap_third (w : World) (b : Nat) (r : RSt) (n : Int) (la : Option Addr) (ln cap : Nat) (s : Nat) (F : Nat → Prop) (R : World → Nat × Int → Prop) (hr : RK w b r) (hq : r.wq) (hwf : r.wf) (hc : curF r = some s) (h1 : 1 ≤ n) (h6 : ¬ n ≤ 9) (h7 : n ≤ 13) (h2 : n < 17) (hln : (shapeL n).length = ln)
    (hmay : ∀ w2, Below w.heap.size w w2 → Calls Tryz.prog 40 #[.string ⟨(shapeL n).toArray⟩, .slice la ln cap] w2 fun e w' => e = .returned (.bool true) ∧ ∃ m, w' = w2.drewN m)
    (hin : ∀ w1 ab, AK w1 ab b (r.S s).label (r.S s).owns (0, 0) r → Below w.heap.size w w1 → w.heap.size < ab → Calls Tryz.prog 43 #[.pointer (some ⟨ab, 0, none⟩), .int .i64 n, .int .i64 s, .slice la ln cap] w1 fun e w' =>
      ∃ p, e = .returned (.tuple #[]) ∧ AskAt w' ab b (r.S s).label (r.S s).owns p ∧ R w' p ∧ Fr (fun k => k = ab ∨ F k) w1 w')
    (hF : ¬ F w.heap.size)
    (hst : ∀ w' w'' p, R w' p → Fr (fun k => k = w.heap.size) w' w'' → R w'' p) :
    Calls Tryz.prog 30 #[.pointer (some ⟨b, 0, none⟩), .int .i64 n, .slice la ln cap] w fun e w' => ∃ p, e = .returned (outV p.2 0 p.1) ∧ R w' p ∧ Fr F w w' := by
  have HMAY := hide hmay
  have HIN := hide hin
  have HST := hide hst
  have HWF := hide hwf
  have HF := hide hF
  have hs := curF_lt hq hc
  have hsi : (s : Int) < 32 := by omega
  clear hmay hin hst hwf hF
  have hlt := hr.lt
  have HR := hide hr
  have HQ := hide hq
  have HC := hide hc
  have hs0 : ¬ (s : Int) < 0 := by omega
  have HLN := hide hln
  clear hr hq hc hln
  go_enter Tryz.func30, Tryz.ntmps30
  go_wp2_with fail
  refine (current_any _ _ _ (HR.out.alloc _) HQ.out).mono ?_
  rintro e w1 ⟨rfl, hb⟩
  rw [HC.out, oi]
  have B1 := hide (Blk.zero3 hb)
  have HB := hide (Below.first hb)
  have hz1 : w.heap.size + 1 ≤ w1.heap.size := by have := hb.size; simp at this; omega
  have HR1 := hide ((HR.out.alloc _).below hb (by simp; omega))
  clear hb
  go_wp2_with fail
  refine (shape_yes _ _ h1 h2).mono ?_
  rintro e w2 ⟨rfl, hb2⟩
  have B2 := hide (Blk.below B1.out hb2 (by omega))
  have HB2 := hide (HB.out.trans (hb2.mono (by omega)))
  have HR2 := hide (HR1.out.below hb2 (by have := HR1.out.lt; omega))
  have hz2 : w.heap.size + 1 ≤ w2.heap.size := by have := hb2.size; omega
  clear hb2 B1 HB HR1
  generalize hL : shapeL n = L at *
  have HL := hide hL
  clear hL
  have hll : L.length = ln := HLN.out
  clear HLN
  go_wp2_with fail
  refine (HMAY.out _ HB2.out).mono ?_
  rintro e w3 ⟨rfl, m, rfl⟩
  have B3 := hide (B2.out.drewN m)
  have HB3 := hide (below_drewN HB2.out m)
  have HR3 := hide (HR2.out.drewN m)
  have hz3 : w.heap.size + 1 ≤ (w2.drewN m).heap.size := hz2
  generalize w2.drewN m = w3 at *
  clear B2 HB2 HR2 hz2
  obtain ⟨-, k1, -, -, k4, -⟩ := HR3.out.things hs
  go_wp2_with fail
  go_region
  go_wp2_with fail
  have A3 : AK ((w3.alloc (.cells #[.pointer (some ⟨b, 0, none⟩), .int .i64 (r.S s).label, .int .i64 (r.S s).owns, .int .i64 0, .int .i64 0] 108)).drew) w3.heap.size b (r.S s).label (r.S s).owns (0, 0) r := ⟨(Blk.new w3 _ _).drew, (HR3.out.alloc _).drew, by have := HR3.out.lt; omega, wf_label HWF.out hs, (HWF.out s hs).2.2.2.2.2, by simp, HWF.out⟩
  refine (HIN.out _ _ A3 (by have := HB3.out.size; exact ((HB3.out.alloc this _).drew)) (by omega)).mono ?_
  rintro e w4 ⟨p, rfl, a4, r4, f4⟩
  have B4 : Blk w4 w.heap.size _ := Blk.fr ((B3.out.alloc _).drew) f4 (by rintro (h | h); omega; exact HF.out h)
  have x0 : w4.cell? ⟨w.heap.size, 0, none⟩ = some (.int .i64 0) := by rw [Blk.cell B4]; rfl
  have x1 : w4.cell? ⟨w.heap.size, 1, none⟩ = some (.int .i64 0) := by rw [Blk.cell B4]; rfl
  have x2 : w4.cell? ⟨w.heap.size, 2, none⟩ = some (.int .i64 0) := by rw [Blk.cell B4]; rfl
  have y0 := Blk.frozen B4 0
  have y1 := Blk.frozen B4 1
  have y2 := Blk.frozen B4 2
  obtain ⟨q0, q1, q2, q3, q4, -⟩ := AskAt.cells a4
  have hne : ¬ w3.heap.size = w.heap.size := by omega
  have F0 : Fr F w w4 := Fr.trans' (S' := fun k => k = w3.heap.size ∨ F k) (Fr.of_below ((HB3.out.alloc HB3.out.size _).drew)) f4 (by rintro i hi (h | h); have := HB3.out.size; omega; exact h)
  have R4 := hide r4
  have F4 := hide F0
  clear a4 r4 f4 F0 B4 A3
  by_cases hp : p.2 = 0
  · rw [hp] at q4
    go_wp2_with fail
    go_region
    go_wp2_with fail
    refine bodyPost_ret (v := .agg #[.int .i64 0, .int .i64 0, .int .i64 p.1]) (by simp [results, Tryz.results30, go_sem, x0, x1, x2]) rfl ⟨p, by rw [hp]; rfl, ?_, ?_⟩
    · exact HST.out _ _ _ R4.out ((((Fr.own _ _ _ _).trans (Fr.own _ _ _ _)).trans (Fr.own _ _ _ _)).drew)
    · exact (((F4.out.setCell (Or.inr (Nat.le_refl _)) _).setCell (Or.inr (Nat.le_refl _)) _).setCell (Or.inr (Nat.le_refl _)) _).drew
  · go_wp2_with fail
    go_region
    go_wp2_with fail
    refine bodyPost_ret (v := .agg #[.int .i64 p.2, .int .i64 0, .int .i64 p.1]) (by simp [results, Tryz.results30, go_sem, x0, x1, x2]) rfl ⟨p, rfl, ?_, ?_⟩
    · exact HST.out _ _ _ R4.out ((((Fr.own _ _ _ _).trans (Fr.own _ _ _ _)).trans (Fr.own _ _ _ _)).drew)
    · exact (((F4.out.setCell (Or.inr (Nat.le_refl _)) _).setCell (Or.inr (Nat.le_refl _)) _).setCell (Or.inr (Nat.le_refl _)) _).drew

set_option maxHeartbeats 2000000 in
theorem rtrap_fourth (w : World) (b : Nat) (r : RSt) (n : Int) (la : Option Addr) (ln cap : Nat) (s : Nat) (F : Nat → Prop) (R : World → Int → Nat × Int → Prop) (hr : RK w b r) (hq : r.wq) (hwf : r.wf) (hc : curF r = some s) (h1 : 1 ≤ n) (h6 : ¬ n ≤ 13) (h2 : n < 17) (hln : (shapeL n).length = ln)
    (hmay : ∀ w2, Below w.heap.size w w2 → Calls Tryz.prog 40 #[.string ⟨(shapeL n).toArray⟩, .slice la ln cap] w2 fun e w' => e = .returned (.bool true) ∧ ∃ m, w' = w2.drewN m)
    (hin : ∀ w1 ab, AK w1 ab b (r.S s).label (r.S s).owns (0, 0) r → Below w.heap.size w w1 → w.heap.size < ab → Calls Tryz.prog 44 #[.pointer (some ⟨ab, 0, none⟩), .int .i64 n, .slice la ln cap] w1 fun e w' =>
      ∃ v p, e = .returned (.int .i64 v) ∧ AskAt w' ab b (r.S s).label (r.S s).owns p ∧ R w' v p ∧ Fr (fun k => k = ab ∨ F k) w1 w')
    (hF : ¬ F w.heap.size)
    (hst : ∀ w' w'' v p, R w' v p → Fr (fun k => k = w.heap.size) w' w'' → R w'' v p) :
    Calls Tryz.prog 30 #[.pointer (some ⟨b, 0, none⟩), .int .i64 n, .slice la ln cap] w fun e w' => ∃ v p, e = .returned (outV p.2 (if p.2 = 0 then v else 0) p.1) ∧ R w' v p ∧ Fr F w w' := by
  have HMAY := hide hmay
  have HIN := hide hin
  have HST := hide hst
  have HWF := hide hwf
  have HF := hide hF
  have hs := curF_lt hq hc
  have hsi : (s : Int) < 32 := by omega
  clear hmay hin hst hwf hF
  have hlt := hr.lt
  have HR := hide hr
  have HQ := hide hq
  have HC := hide hc
  have hs0 : ¬ (s : Int) < 0 := by omega
  have HLN := hide hln
  clear hr hq hc hln
  go_enter Tryz.func30, Tryz.ntmps30
  go_wp2_with fail
  refine (current_any _ _ _ (HR.out.alloc _) HQ.out).mono ?_
  rintro e w1 ⟨rfl, hb⟩
  rw [HC.out, oi]
  have B1 := hide (Blk.zero3 hb)
  have HB := hide (Below.first hb)
  have hz1 : w.heap.size + 1 ≤ w1.heap.size := by have := hb.size; simp at this; omega
  have HR1 := hide ((HR.out.alloc _).below hb (by simp; omega))
  clear hb
  go_wp2_with fail
  refine (shape_yes _ _ h1 h2).mono ?_
  rintro e w2 ⟨rfl, hb2⟩
  have B2 := hide (Blk.below B1.out hb2 (by omega))
  have HB2 := hide (HB.out.trans (hb2.mono (by omega)))
  have HR2 := hide (HR1.out.below hb2 (by have := HR1.out.lt; omega))
  have hz2 : w.heap.size + 1 ≤ w2.heap.size := by have := hb2.size; omega
  clear hb2 B1 HB HR1
  generalize hL : shapeL n = L at *
  have HL := hide hL
  clear hL
  have hll : L.length = ln := HLN.out
  clear HLN
  go_wp2_with fail
  refine (HMAY.out _ HB2.out).mono ?_
  rintro e w3 ⟨rfl, m, rfl⟩
  have B3 := hide (B2.out.drewN m)
  have HB3 := hide (below_drewN HB2.out m)
  have HR3 := hide (HR2.out.drewN m)
  have hz3 : w.heap.size + 1 ≤ (w2.drewN m).heap.size := hz2
  generalize w2.drewN m = w3 at *
  clear B2 HB2 HR2 hz2
  obtain ⟨-, k1, -, -, k4, -⟩ := HR3.out.things hs
  go_wp2_with fail
  go_region
  go_wp2_with fail
  have A3 : AK ((w3.alloc (.cells #[.pointer (some ⟨b, 0, none⟩), .int .i64 (r.S s).label, .int .i64 (r.S s).owns, .int .i64 0, .int .i64 0] 108)).drew) w3.heap.size b (r.S s).label (r.S s).owns (0, 0) r := ⟨(Blk.new w3 _ _).drew, (HR3.out.alloc _).drew, by have := HR3.out.lt; omega, wf_label HWF.out hs, (HWF.out s hs).2.2.2.2.2, by simp, HWF.out⟩
  refine (HIN.out _ _ A3 (by have := HB3.out.size; exact ((HB3.out.alloc this _).drew)) (by omega)).mono ?_
  rintro e w4 ⟨v, p, rfl, a4, r4, f4⟩
  have B4 : Blk w4 w.heap.size _ := Blk.fr ((B3.out.alloc _).drew) f4 (by rintro (h | h); omega; exact HF.out h)
  have x0 : w4.cell? ⟨w.heap.size, 0, none⟩ = some (.int .i64 0) := by rw [Blk.cell B4]; rfl
  have x1 : w4.cell? ⟨w.heap.size, 1, none⟩ = some (.int .i64 0) := by rw [Blk.cell B4]; rfl
  have x2 : w4.cell? ⟨w.heap.size, 2, none⟩ = some (.int .i64 0) := by rw [Blk.cell B4]; rfl
  have y0 := Blk.frozen B4 0
  have y1 := Blk.frozen B4 1
  have y2 := Blk.frozen B4 2
  obtain ⟨q0, q1, q2, q3, q4, -⟩ := AskAt.cells a4
  have hne : ¬ w3.heap.size = w.heap.size := by omega
  have F0 : Fr F w w4 := Fr.trans' (S' := fun k => k = w3.heap.size ∨ F k) (Fr.of_below ((HB3.out.alloc HB3.out.size _).drew)) f4 (by rintro i hi (h | h); have := HB3.out.size; omega; exact h)
  have R4 := hide r4
  have F4 := hide F0
  clear a4 r4 f4 F0 B4 A3
  by_cases hp : p.2 = 0
  · rw [hp] at q4
    go_wp2_with fail
    go_region
    go_wp2_with fail
    refine bodyPost_ret (v := .agg #[.int .i64 0, .int .i64 v, .int .i64 p.1]) (by simp [results, Tryz.results30, go_sem, x0, x1, x2]) rfl ⟨v, p, by rw [hp]; rfl, ?_, ?_⟩
    · exact HST.out _ _ _ _ R4.out ((((Fr.own _ _ _ _).trans (Fr.own _ _ _ _)).trans (Fr.own _ _ _ _)).drew)
    · exact (((F4.out.setCell (Or.inr (Nat.le_refl _)) _).setCell (Or.inr (Nat.le_refl _)) _).setCell (Or.inr (Nat.le_refl _)) _).drew
  · go_wp2_with fail
    go_region
    go_wp2_with fail
    refine bodyPost_ret (v := .agg #[.int .i64 p.2, .int .i64 0, .int .i64 p.1]) (by simp [results, Tryz.results30, go_sem, x0, x1, x2]) rfl ⟨v, p, by rw [if_neg hp]; rfl, ?_, ?_⟩
    · exact HST.out _ _ _ _ R4.out ((((Fr.own _ _ _ _).trans (Fr.own _ _ _ _)).trans (Fr.own _ _ _ _)).drew)
    · exact (((F4.out.setCell (Or.inr (Nat.le_refl _)) _).setCell (Or.inr (Nat.le_refl _)) _).setCell (Or.inr (Nat.le_refl _)) _).drew

end Go.Proofs.YtloppmepfkkblaaGreat
end

section
/- What the reference's 'second' does: NewThread, Free. -/
open Go Go.Proofs Go.RowKit
namespace Go.Proofs.YtloppmepfkkblaaGreat

/-- An object is put, if nothing is wrong. -/
def RSt.putIf (r : RSt) (p : Nat × Int) (s : Nat) (t : Th) : RSt := if p.2 = 0 then (r.mk1 (r.made + 1)).put s { t with id := r.made + 1 } else r

theorem put_if (w : World) (ab b T O : Nat) (p : Nat × Int) (r : RSt) (s : Nat) (t : Th) (h : AK w ab b T O p r) (hs : s < 32) (ht : t.wf) (hm : 0 ≤ r.made) (hm2 : r.made < 4611686018427387904) :
    Calls Tryz.prog 72 #[.pointer (some ⟨ab, 0, none⟩), .int .i64 s, .agg #[.int .i64 t.kind, .int .i64 t.label, .int .i64 t.id, .slice t.Wa t.Wn t.Wc, .int .i64 t.owns, .bool t.awake, .int .i64 t.A, .int .i64 t.B, .int .i64 t.G, .int .i64 t.H]] w fun e' w' =>
      e' = .returned (.tuple #[]) ∧ AK w' ab b T O p (r.putIf p s t) ∧ Fr (fun k => k = b) w w' := by
  by_cases hp : p.2 = 0
  · obtain ⟨u, e⟩ := p
    dsimp only at hp
    subst hp
    refine (put_any w ab b T O u r s t h hs ht hm hm2).mono ?_
    rintro e w' ⟨rfl, h1, h2⟩
    exact ⟨rfl, by unfold RSt.putIf; rw [if_pos rfl]; exact h1, h2⟩
  · refine (put_not w ab b T O p r s t h hp).mono ?_
    rintro e w' ⟨rfl, h1, h2⟩
    exact ⟨rfl, by unfold RSt.putIf; rw [if_neg hp]; exact h1, h2.mono (fun _ _ h => h.elim)⟩

/-- Making a thread. -/
def threadF (S : Nat → Th) (O T n c s l o : Nat) (p : Nat × Int) : Nat × Int :=
  if sub o O = true then makingF S O T n c s l p else failed 4 (makingF S O T n c s l p)

theorem thread_wf {l o : Nat} (hl : l < 256) (ho : o < 256) : Th.wf ⟨2, l, 0, none, 0, 0, o, true, 0, 0, 0, 0⟩ := by
  refine ⟨?_, ?_, ?_, ?_, hl, ho⟩ <;> simp

set_option maxHeartbeats 2000000 in
set_option maxRecDepth 100000 in
theorem second_thread (n : Nat) (w : World) (ab b T O lb lo cap : Nat) (p : Nat × Int) (r : RSt) (c s l o : Nat) (h : AK w ab b T O p r) (hc : c < 32) (hs : s < 32) (hl : l < 256) (ho : o < 256) (hd : deep r.S n c) (ha : Arg w lb lo [(c : Int), (s : Int), (l : Int), (o : Int)]) (hab : lb ≠ ab) (hm : 0 ≤ r.made) (hm2 : r.made < 4611686018427387904) :
    Calls Tryz.prog 42 #[.pointer (some ⟨ab, 0, none⟩), .int .i64 9, .slice (some ⟨lb, lo, none⟩) 4 cap] w fun e' w' => e' = .returned (.tuple #[]) ∧
      AK w' ab b T O (threadF r.S O T n c s l o p) (r.putIf (threadF r.S O T n c s l o p) s ⟨2, l, 0, none, 0, 0, o, true, 0, 0, 0, 0⟩) ∧ Fr (fun k => k = ab ∨ k = b) w w' := by
  have l0 := ha.c0
  have l1 := ha.c1
  have l2 := ha.c2
  have l3 := ha.c3
  have H := hide h
  have HA := hide ha
  have HD := hide hd
  have HO := hide ho
  have HL := hide hl
  have habw : ab < w.heap.size := Blk.lt h.ask
  clear h ha hd
  go_enter Tryz.func42, Tryz.ntmps42
  go_wp2_with fail
  go_still_tail 10, (by kernel_rfl)
  go_wp2_with fail
  refine (making_any _ _ _ _ _ _ _ n _ _ _ (H.out.fr ((Fr.refl _ _).drew)) hc hs hl HD.out).mono ?_
  rintro e w1 ⟨rfl, h1, g1⟩
  have H1 := hide h1
  have G1 : Hid (Fr (fun k => k = ab) w w1) := ((Fr.refl _ _).drew).trans g1
  have m1 := (HA.out.fr G1.out hab).c1
  have m2 := (HA.out.fr G1.out hab).c2
  have m3 := (HA.out.fr G1.out hab).c3
  obtain ⟨-, -, a2, -, -, -, -⟩ := h1.ask.cells
  clear h1 g1 l0 l1 l2 l3
  go_wp2_with fail
  go_still_tail 7, (by kernel_rfl)
  go_wp2_with fail
  refine (in_any _ _ _ HO.out H1.out.hO).mono ?_
  rintro e w2 ⟨rfl, hw2⟩
  have H2 : Hid (AK w2 ab b T O (makingF r.S O T n c s l p) r) := by rw [hw2]; exact H1.out.fr (by (repeat (first | exact Fr.refl _ _ | refine Fr.drew ?_ | refine Fr.drewN ?_ _ | refine Fr.alloc ?_ _)))
  have G2 : Hid (Fr (fun k => k = ab) w w2) := by rw [hw2]; exact G1.out.drew
  clear hw2 m1 m2 m3 H1 G1
  have m1 := (HA.out.fr G2.out hab).c1
  have m2 := (HA.out.fr G2.out hab).c2
  have m3 := (HA.out.fr G2.out hab).c3
  by_cases hso : sub o O = true
  · have EP : Hid (threadF r.S O T n c s l o p = makingF r.S O T n c s l p) := if_pos hso
    rw [hso]
    go_wp2_with fail
    go_still_tail 11, (by kernel_rfl)
    go_wp2_with fail
    refine (put_if _ ab b T O (makingF r.S O T n c s l p) r s ⟨2, l, 0, none, 0, 0, o, true, 0, 0, 0, 0⟩ (H2.out.fr (by (repeat (first | exact Fr.refl _ _ | refine Fr.drew ?_ | refine Fr.drewN ?_ _ | refine Fr.alloc ?_ _)))) hs (thread_wf HL.out HO.out) hm hm2).mono ?_
    rintro e w3 ⟨rfl, h3, g3⟩
    go_wp2_with fail
    go_end0
    exact ⟨rfl, by rw [EP.out]; exact h3, ((G2.out.mono (fun _ _ h => Or.inl h)).drew).trans (g3.mono (fun _ _ h => Or.inr h))⟩
  · have EP : Hid (threadF r.S O T n c s l o p = failed 4 (makingF r.S O T n c s l p)) := if_neg hso
    have hso' : sub o O = false := by simpa using hso
    rw [hso']
    go_wp2_with fail
    refine (fail_any _ _ _ _ _ _ _ 4 H2.out (by omega)).mono ?_
    rintro e w3 ⟨rfl, h3, g3⟩
    have H3 := hide h3
    have G3 : Hid (Fr (fun k => k = ab) w w3) := G2.out.trans g3
    have m1' := (HA.out.fr G3.out hab).c1
    have m2' := (HA.out.fr G3.out hab).c2
    have m3' := (HA.out.fr G3.out hab).c3
    clear h3 g3 m1 m2 m3
    go_wp2_with fail
    go_still_tail 11, (by kernel_rfl)
    go_wp2_with fail
    refine (put_if _ ab b T O (failed 4 (makingF r.S O T n c s l p)) r s ⟨2, l, 0, none, 0, 0, o, true, 0, 0, 0, 0⟩ (H3.out.fr (by (repeat (first | exact Fr.refl _ _ | refine Fr.drew ?_ | refine Fr.drewN ?_ _ | refine Fr.alloc ?_ _)))) hs (thread_wf HL.out HO.out) hm hm2).mono ?_
    rintro e w4 ⟨rfl, h4, g4⟩
    go_wp2_with fail
    go_end0
    exact ⟨rfl, by rw [EP.out]; exact h4, ((G3.out.mono (fun _ _ h => Or.inl h)).drew).trans (g4.mono (fun _ _ h => Or.inr h))⟩

end Go.Proofs.YtloppmepfkkblaaGreat
end

section
/- What the reference's 'second' does: Free. -/
open Go Go.Proofs Go.RowKit
namespace Go.Proofs.YtloppmepfkkblaaGreat

/-- What is asked ahead of a slot's freeing. -/
def freeF (S : Nat → Th) (O T n s c : Nat) (p : Nat × Int) : Nat × Int := chk O T (S c).label (thereF S s (pathF S O T n s p))

set_option maxHeartbeats 2000000 in
set_option maxRecDepth 100000 in
theorem second_root (n : Nat) (w : World) (ab b T O lb lo cap : Nat) (p : Nat × Int) (r : RSt) (h : AK w ab b T O p r) (hd : deep r.S n (0 : Nat)) (ha : Arg w lb lo [((0 : Nat) : Int)]) (hab : lb ≠ ab) :
    Calls Tryz.prog 42 #[.pointer (some ⟨ab, 0, none⟩), .int .i64 8, .slice (some ⟨lb, lo, none⟩) 1 cap] w fun e' w' => e' = .returned (.tuple #[]) ∧
      AK w' ab b T O (failed 3 (pathF r.S O T n (0 : Nat) p)) r ∧ Fr (fun k => k = ab) w w' := by
  have l0 := ha.c0
  have H := hide h
  have HA := hide ha
  have HD := hide hd
  clear h ha hd
  go_enter Tryz.func42, Tryz.ntmps42
  go_wp2_with fail
  refine (path_any n _ _ _ _ _ _ _ 0 H.out (by omega) HD.out).mono ?_
  rintro e w1 ⟨rfl, h1, g1⟩
  have m0 := (HA.out.fr g1 hab).c0
  have H1 := hide h1
  have G1 := hide g1
  clear h1 g1 l0
  go_wp2_with fail
  refine (fail_any _ _ _ _ _ _ _ 3 H1.out (by omega)).mono ?_
  rintro e w3 ⟨rfl, h3, g3⟩
  go_wp2_with fail
  ((try simp only [Exit.inBlock, Exit.then]); refine bodyPost_ret (results_none rfl _ _ _) rfl ?_)
  exact ⟨rfl, h3, G1.out.trans g3⟩

set_option maxHeartbeats 2000000 in
set_option maxRecDepth 100000 in
theorem second_free' (n : Nat) (w : World) (ab b T O lb lo cap : Nat) (p : Nat × Int) (r : RSt) (s c : Nat) (h : AK w ab b T O p r) (hs : s < 32) (hs0 : s ≠ 0) (hc : lies r.S s = some c) (hd : deep r.S n s) (ha : Arg w lb lo [(s : Int)]) (hab : lb ≠ ab)
    (h1 : 0 ≤ (r.S s).A ∧ (r.S s).A ≤ (r.S s).B ∧ (r.S s).B ≤ 32) (h2 : 0 ≤ (r.S s).G ∧ (r.S s).G ≤ (r.S s).H ∧ (r.S s).H ≤ 8) (hgw : (r.gone s).wf) (q : Nat × Int) (r' : RSt) (hq0 : freeF r.S O T n s c p = q) (hr' : r' = if q.2 = 0 then r.gone s else r) :
    Calls Tryz.prog 42 #[.pointer (some ⟨ab, 0, none⟩), .int .i64 8, .slice (some ⟨lb, lo, none⟩) 1 cap] w fun e' w' => e' = .returned (.tuple #[]) ∧
      AK w' ab b T O q r' ∧ Fr (fun k => k = ab ∨ k = b) w w' := by
  have l0 := ha.c0
  have hc32 := lies_lt hc
  have hsi : (s : Int) < 32 := by omega
  have hsz : ((s : Int) == 0) = false := by simpa using hs0
  have H := hide h
  have HA := hide ha
  have HD := hide hd
  have HC := hide hc
  have HX := hide h1
  have HY := hide h2
  have HG := hide hgw
  have HQ0 := hide hq0
  have HR' := hide hr'
  clear h ha hd hc h1 h2 hgw hq0 hr'
  go_enter Tryz.func42, Tryz.ntmps42
  go_wp2_with fail
  refine (path_any n _ _ _ _ _ _ _ s H.out hs HD.out).mono ?_
  rintro e w1 ⟨rfl, h1, g1⟩
  have m0 := (HA.out.fr g1 hab).c0
  have H1 := hide h1
  have G1 := hide g1
  clear h1 g1 l0
  go_wp2_with fail
  refine (there_any _ _ _ _ _ _ _ _ H1.out hs).mono ?_
  rintro e w2 ⟨rfl, h2, g2⟩
  have m0' := (HA.out.fr (G1.out.trans g2) hab).c0
  obtain ⟨a0, a1, a2, a3, a4, -, -⟩ := h2.ask.cells
  have H2 := hide h2
  have G2 := hide (G1.out.trans g2)
  clear h2 g2 m0 H1 G1
  go_wp2_with fail
  have HK : Hid (∀ (w' : World) (p' : Nat × Int), AK w' ab b T O p' r → Fr (fun k => k = ab) w w' → w'.cell? ⟨ab, 0, none⟩ = some (.pointer (some ⟨b, 0, none⟩)) ∧ w'.cell? ⟨lb, lo, none⟩ = some (.int .i64 s) ∧ w'.cell? ⟨b, c * 10 + 1, none⟩ = some (.int .i64 (r.S c).label)) := fun w' p' h' g' =>
    ⟨h'.ask.cells.1, (HA.out.fr g' hab).c0, (h'.rk.things hc32).2.1⟩
  have hci : (c : Int) < 32 := by omega
  have hc0 : (0 : Int) ≤ (c : Int) := by omega
  go_region_held3 (fun w' => w'.cell? ⟨ab, 0, none⟩ = some (.pointer (some ⟨b, 0, none⟩)) ∧ w'.cell? ⟨lb, lo, none⟩ = some (.int .i64 s) ∧ w'.cell? ⟨b, c * 10 + 1, none⟩ = some (.int .i64 (r.S c).label))
    (first | exact HK.out _ _ h4 g4 | exact HK.out _ _ h3 g3 | exact HK.out _ _ (H2.out.fr (Fr.drew (Fr.refl _ _))) G2.out.drew)
    (first | (go_at_call 64; refine (lies_any _ _ _ _ (H2.out.rk.drew) H2.out.wf).mono ?_; rintro e w3 ⟨rfl, hb⟩; rw [HC.out, oi]; have h3 := H2.out.fr (Fr.trans (Fr.drew (Fr.refl _ _)) (Fr.of_below hb)); have g3 := G2.out.trans (Fr.trans (Fr.drew (Fr.refl _ _)) (Fr.of_below hb))) | (go_at_call 74; refine (write_any _ _ _ _ _ _ _ _ h3 (wf_label H2.out.wf hc32)).mono ?_; rintro e w4 ⟨rfl, h4, g4'⟩; have g4 := g3.trans g4'))
  have H4 : Hid (AK w4 ab b T O q r) := by rw [← HQ0.out]; exact h4
  have G4 := hide g4
  have M4 := (HA.out.fr g4 hab).c0
  obtain ⟨d0, -, -, -, d4, -, -⟩ := H4.out.ask.cells
  clear h3 g3 h4 g4 g4' m0' a0 a1 a2 a3 a4 H2 G2 HK
  by_cases hq : q.2 = 0
  · rw [hq] at d4
    have HQ := hide hq
    clear hq
    go_wp2_with fail
    go_still_tail 7, (by kernel_rfl)
    go_wp2_with fail
    refine (gone_any _ _ _ _ H4.out.rk.drew hs HX.out HY.out).mono ?_
    rintro e w5 ⟨rfl, h5, g5⟩
    go_wp2_with fail
    go_end0
    exact ⟨rfl, by rw [HR'.out, if_pos HQ.out]; exact (H4.out.fr (by (repeat (first | exact Fr.refl _ _ | refine Fr.drew ?_ | refine Fr.drewN ?_ _ | refine Fr.alloc ?_ _)))).kturned g5 h5 HG.out, (G4.out.mono (fun _ _ h => Or.inl h)).drew.trans (g5.mono (fun _ _ h => Or.inr h))⟩
  · have hq' : (q.2 == 0) = false := by simpa using hq
    have HQ := hide hq
    clear hq
    go_wp2_with fail
    go_end0
    exact ⟨rfl, by rw [HR'.out, if_neg HQ.out]; exact H4.out, G4.out.mono (fun _ _ h => Or.inl h)⟩

theorem second_free (n : Nat) (w : World) (ab b T O lb lo cap : Nat) (p : Nat × Int) (r : RSt) (s c : Nat) (h : AK w ab b T O p r) (hs : s < 32) (hs0 : s ≠ 0) (hc : lies r.S s = some c) (hd : deep r.S n s) (ha : Arg w lb lo [(s : Int)]) (hab : lb ≠ ab)
    (h1 : 0 ≤ (r.S s).A ∧ (r.S s).A ≤ (r.S s).B ∧ (r.S s).B ≤ 32) (h2 : 0 ≤ (r.S s).G ∧ (r.S s).G ≤ (r.S s).H ∧ (r.S s).H ≤ 8) (hgw : (r.gone s).wf) :
    Calls Tryz.prog 42 #[.pointer (some ⟨ab, 0, none⟩), .int .i64 8, .slice (some ⟨lb, lo, none⟩) 1 cap] w fun e' w' => e' = .returned (.tuple #[]) ∧
      AK w' ab b T O (freeF r.S O T n s c p) (if (freeF r.S O T n s c p).2 = 0 then r.gone s else r) ∧ Fr (fun k => k = ab ∨ k = b) w w' :=
  second_free' n w ab b T O lb lo cap p r s c h hs hs0 hc hd ha hab h1 h2 hgw _ _ rfl rfl

end Go.Proofs.YtloppmepfkkblaaGreat
end
