/- What the program's 'Trap' answers: the traps 1 to 6, by the plain functions. -/
import Derived.Test.YtflniddofmnkaaaPAns
open Go Go.Proofs Go.RowKit
namespace Go.Proofs.Ytflniddofmnkaaa

section
variable {w : World} {kb : Nat} {S : Nat → Th} {ws : Nat → List Int} {lq : Nat → Option Nat} {ph : Nat} {ob : Nat → Nat} {qp : Nat → Option Nat} {me : Nat}

theorem ArgV.get {w : World} {n : Int} {la : Option Addr} {xs : List Int} (h : ArgV w n la xs) (hn : n ≠ 1) : ∃ lb lo, la = some ⟨lb, lo, none⟩ ∧ Arg w lb lo xs := by
  rcases h with h | h
  · exact absurd h hn
  · exact h

theorem pa_1 (h : PK w kb S ws lq ph ob qp) (hc : curP S lq ph = some me) (la : Option Addr) (cap : Nat) :
    Calls Try.prog 19 #[.pointer (some ⟨kb, 0, none⟩), .int .i64 1, .slice la 0 cap] w fun e w' => e = .returned (outV 0 me 0) ∧ Fr (fun _ => False) w w' :=
  pa_still h hc 1 (by omega) (by omega) la cap [] rfl (Or.inl rfl) rfl me 0 0 (fun _ _ hq _ _ _ => t_self hq _)

theorem pa_2 (h : PK w kb S ws lq ph ob qp) (hc : curP S lq ph = some me) (m : Nat) (s : Nat) (hs : s < 32) (hd : deep S m s) (la : Option Addr) (cap : Nat) (ha : ArgV w 2 la [(s : Int)]) :
    Calls Try.prog 19 #[.pointer (some ⟨kb, 0, none⟩), .int .i64 2, .slice la 1 cap] w fun e w' => e = .returned (outV ((pathF S (S me).owns (S me).label m s (0, 0)).2) (if (pathF S (S me).owns (S me).label m s (0, 0)).2 = 0 then (S s).kind else 0) ((pathF S (S me).owns (S me).label m s (0, 0)).1)) ∧ Fr (fun _ => False) w w' := by
  refine pa_still h hc 2 (by omega) (by omega) la cap [(s : Int)] rfl ha (by simp [admTo, bsL]; omega) (if (pathF S (S me).owns (S me).label m s (0, 0)).2 = 0 then (S s).kind else 0) ((pathF S (S me).owns (S me).label m s (0, 0)).2) ((pathF S (S me).owns (S me).label m s (0, 0)).1) (fun w1 rb hq ha1 hb hrb => ?_)
  obtain ⟨lb, lo, rfl, ha2⟩ := ha.get (by omega)
  have hne : lb ≠ rb := by have := ha2.lt; omega
  have ha3 := ha2.below hb ha2.lt
  exact t_kind hq m s lb lo cap hs hd ha3 hne

theorem pa_3 (h : PK w kb S ws lq ph ob qp) (hc : curP S lq ph = some me) (m : Nat) (s : Nat) (hs : s < 32) (hd : deep S m s) (la : Option Addr) (cap : Nat) (ha : ArgV w 3 la [(s : Int)]) :
    Calls Try.prog 19 #[.pointer (some ⟨kb, 0, none⟩), .int .i64 3, .slice la 1 cap] w fun e w' => e = .returned (outV ((findF S (S me).owns (S me).label m s (0, 0)).2) (if (findF S (S me).owns (S me).label m s (0, 0)).2 = 0 then (S s).label else 0) ((findF S (S me).owns (S me).label m s (0, 0)).1)) ∧ Fr (fun _ => False) w w' := by
  refine pa_still h hc 3 (by omega) (by omega) la cap [(s : Int)] rfl ha (by simp [admTo, bsL]; omega) (if (findF S (S me).owns (S me).label m s (0, 0)).2 = 0 then (S s).label else 0) ((findF S (S me).owns (S me).label m s (0, 0)).2) ((findF S (S me).owns (S me).label m s (0, 0)).1) (fun w1 rb hq ha1 hb hrb => ?_)
  obtain ⟨lb, lo, rfl, ha2⟩ := ha.get (by omega)
  have hne : lb ≠ rb := by have := ha2.lt; omega
  have ha3 := ha2.below hb ha2.lt
  exact t_label hq m s lb lo cap hs hd ha3

theorem pa_4no (h : PK w kb S ws lq ph ob qp) (hc : curP S lq ph = some me) (m : Nat) (c s l : Nat) (hcc : c < 32) (hs : s < 32) (hl : l < 256) (hd : deep S m c) (hp : (makingF S (S me).owns (S me).label m c s l (0, 0)).2 ≠ 0) (la : Option Addr) (cap : Nat) (ha : ArgV w 4 la [(c : Int), (s : Int), (l : Int)]) :
    Calls Try.prog 19 #[.pointer (some ⟨kb, 0, none⟩), .int .i64 4, .slice la 3 cap] w fun e w' => e = .returned (outV ((makingF S (S me).owns (S me).label m c s l (0, 0)).2) (0) ((makingF S (S me).owns (S me).label m c s l (0, 0)).1)) ∧ Fr (fun _ => False) w w' := by
  refine pa_still h hc 4 (by omega) (by omega) la cap [(c : Int), (s : Int), (l : Int)] rfl ha (by simp [admTo, bsL]; omega) (0) ((makingF S (S me).owns (S me).label m c s l (0, 0)).2) ((makingF S (S me).owns (S me).label m c s l (0, 0)).1) (fun w1 rb hq ha1 hb hrb => ?_)
  obtain ⟨lb, lo, rfl, ha2⟩ := ha.get (by omega)
  have hne : lb ≠ rb := by have := ha2.lt; omega
  have ha3 := ha2.below hb ha2.lt
  exact t_new_no hq m c s l lb lo cap hcc hs hl hd ha3 hp

theorem pa_5no (h : PK w kb S ws lq ph ob qp) (hc : curP S lq ph = some me) (m : Nat) (s i : Nat) (hs : s < 32) (hi : i < 8) (hd : deep S m s) (hp : (rdF S (S me).owns (S me).label m s (0, 0)).2 ≠ 0) (la : Option Addr) (cap : Nat) (ha : ArgV w 5 la [(s : Int), (i : Int)]) :
    Calls Try.prog 19 #[.pointer (some ⟨kb, 0, none⟩), .int .i64 5, .slice la 2 cap] w fun e w' => e = .returned (outV ((rdF S (S me).owns (S me).label m s (0, 0)).2) (0) ((rdF S (S me).owns (S me).label m s (0, 0)).1)) ∧ Fr (fun _ => False) w w' := by
  refine pa_still h hc 5 (by omega) (by omega) la cap [(s : Int), (i : Int)] rfl ha (by simp [admTo, bsL]; omega) (0) ((rdF S (S me).owns (S me).label m s (0, 0)).2) ((rdF S (S me).owns (S me).label m s (0, 0)).1) (fun w1 rb hq ha1 hb hrb => ?_)
  obtain ⟨lb, lo, rfl, ha2⟩ := ha.get (by omega)
  have hne : lb ≠ rb := by have := ha2.lt; omega
  have ha3 := ha2.below hb ha2.lt
  exact t_read_no hq m s i lb lo cap hs hd ha3 hp

theorem pa_5yes (h : PK w kb S ws lq ph ob qp) (hc : curP S lq ph = some me) (m : Nat) (s i : Nat) (x : Int) (hs : s < 32) (hi : i < 8) (hd : deep S m s) (hx : (ws s)[i]? = some x) (hp : (rdF S (S me).owns (S me).label m s (0, 0)).2 = 0) (la : Option Addr) (cap : Nat) (ha : ArgV w 5 la [(s : Int), (i : Int)]) :
    Calls Try.prog 19 #[.pointer (some ⟨kb, 0, none⟩), .int .i64 5, .slice la 2 cap] w fun e w' => e = .returned (outV (0) (x) ((rdF S (S me).owns (S me).label m s (0, 0)).1)) ∧ Fr (fun _ => False) w w' := by
  refine pa_still h hc 5 (by omega) (by omega) la cap [(s : Int), (i : Int)] rfl ha (by simp [admTo, bsL]; omega) (x) (0) ((rdF S (S me).owns (S me).label m s (0, 0)).1) (fun w1 rb hq ha1 hb hrb => ?_)
  obtain ⟨lb, lo, rfl, ha2⟩ := ha.get (by omega)
  have hne : lb ≠ rb := by have := ha2.lt; omega
  have ha3 := ha2.below hb ha2.lt
  exact t_read_yes hq m s i lb lo cap hs hd ha3 hne x hx hi hp

theorem pa_6no (h : PK w kb S ws lq ph ob qp) (hc : curP S lq ph = some me) (m : Nat) (s i : Nat) (v : Int) (hv : i64 v) (hs : s < 32) (hi : i < 8) (hd : deep S m s) (hp : (wrF S (S me).owns (S me).label m s (0, 0)).2 ≠ 0) (la : Option Addr) (cap : Nat) (ha : ArgV w 6 la [(s : Int), (i : Int), v]) :
    Calls Try.prog 19 #[.pointer (some ⟨kb, 0, none⟩), .int .i64 6, .slice la 3 cap] w fun e w' => e = .returned (outV ((wrF S (S me).owns (S me).label m s (0, 0)).2) (0) ((wrF S (S me).owns (S me).label m s (0, 0)).1)) ∧ Fr (fun _ => False) w w' := by
  refine pa_still h hc 6 (by omega) (by omega) la cap [(s : Int), (i : Int), v] rfl ha (by unfold i64 at hv; simp [admTo, bsL, hv.1, hv.2]; omega) (0) ((wrF S (S me).owns (S me).label m s (0, 0)).2) ((wrF S (S me).owns (S me).label m s (0, 0)).1) (fun w1 rb hq ha1 hb hrb => ?_)
  obtain ⟨lb, lo, rfl, ha2⟩ := ha.get (by omega)
  have hne : lb ≠ rb := by have := ha2.lt; omega
  have ha3 := ha2.below hb ha2.lt
  exact t_write_no hq m s i lb lo cap v hs hd ha3 hp

theorem pa_4yes (h : PK w kb S ws lq ph ob qp) (hc : curP S lq ph = some me) (m c s l : Nat) (hcc : c < 32) (hs : s < 32) (hl : l < 256) (hd : deep S m c) (hp : (makingF S (S me).owns (S me).label m c s l (0, 0)).2 = 0) (hk0 : (S s).kind = 0) (la : Option Addr) (cap : Nat) (ha : ArgV w 4 la [(c : Int), (s : Int), (l : Int)]) :
    Calls Try.prog 19 #[.pointer (some ⟨kb, 0, none⟩), .int .i64 4, .slice la 3 cap] w fun e w' => e = .returned (outV 0 0 (makingF S (S me).owns (S me).label m c s l (0, 0)).1) ∧
      (∃ g, w.heap.size < g ∧ ∀ (i : Int) (a : Option Addr) (m1 m2 : Nat), PK w' kb (upd S s ⟨3, l, i, a, m1, m2, 0, false, 0, 0, 0, 0⟩) (upd ws s [0, 0, 0, 0, 0, 0, 0, 0]) lq ph (upd ob s g) qp) ∧ Fr (fun k => k = kb) w w' := by
  refine (pa_run h hc 4 (by omega) (by omega) la cap [(c : Int), (s : Int), (l : Int)] rfl ha (by simp [admTo, bsL]; omega) (fun k => k = kb)
    (fun w' v er u => v = 0 ∧ er = 0 ∧ u = (makingF S (S me).owns (S me).label m c s l (0, 0)).1 ∧ ∃ g, w.heap.size < g ∧ PK w' kb (upd S s ⟨3, l, 0, none, 0, 0, 0, false, 0, 0, 0, 0⟩) (upd ws s [0, 0, 0, 0, 0, 0, 0, 0]) lq ph (upd ob s g) qp) (fun w1 rb hq hb hrb => ?_) (by have := h.lt; omega) ?_).mono ?_
  · obtain ⟨lb, lo, rfl, ha2⟩ := ha.get (by omega)
    refine (t_new_yes hq m c s l lb lo cap hcc hs hl hd (ha2.below hb ha2.lt) hp hk0 0 none 0 0).mono ?_
    rintro e w' ⟨rfl, g, hg, hr, hpk, hf⟩
    refine ⟨0, 0, _, rfl, hr, ⟨rfl, rfl, rfl, g, ?_, hpk⟩, hf⟩
    have := hq.lt
    omega
  · rintro w' w'' v er u ⟨h1, h2, h3, g, hg, hpk⟩ hf
    refine ⟨h1, h2, h3, g, hg, hpk.fr hf ?_⟩
    rintro k (hk | ⟨i, hi, hki, hk⟩ | ⟨q, hq, hk⟩) e
    · have := h.lt; omega
    · by_cases ei : i = s
      · subst ei; rw [upd_same] at hk; omega
      · rw [upd_ne _ _ ei] at hk hki
        have := h.oblt hi hki
        omega
    · have := h.foot_lt (Or.inr (Or.inr ⟨q, hq, hk⟩))
      omega
  · rintro e w' ⟨v, er, u, rfl, ⟨rfl, rfl, rfl, g, hg, hpk⟩, hf⟩
    exact ⟨rfl, ⟨g, hg, fun i a m1 m2 => hpk.alike (fun j hj => by
      by_cases ej : j = s
      · subst ej; rw [upd_same, upd_same]; exact ⟨rfl, rfl, rfl, rfl, rfl, rfl, rfl, rfl⟩
      · rw [upd_ne _ _ ej, upd_ne _ _ ej]; exact Alike.refl _)⟩, hf⟩

theorem pa_6yes (h : PK w kb S ws lq ph ob qp) (hc : curP S lq ph = some me) (m s i : Nat) (v x : Int) (hv : i64 v) (hs : s < 32) (hi : i < 8) (hd : deep S m s) (hx : (ws s)[i]? = some x) (hp : (wrF S (S me).owns (S me).label m s (0, 0)).2 = 0) (hk3 : (S s).kind = 3) (la : Option Addr) (cap : Nat) (ha : ArgV w 6 la [(s : Int), (i : Int), v]) :
    Calls Try.prog 19 #[.pointer (some ⟨kb, 0, none⟩), .int .i64 6, .slice la 3 cap] w fun e w' => e = .returned (outV 0 0 (wrF S (S me).owns (S me).label m s (0, 0)).1) ∧
      PK w' kb S (upd ws s ((ws s).set i v)) lq ph ob qp ∧ Fr (fun k => k = ob s) w w' := by
  have hol := h.oblt hs (by omega)
  refine (pa_run h hc 6 (by omega) (by omega) la cap [(s : Int), (i : Int), v] rfl ha (by unfold i64 at hv; simp [admTo, bsL, hv.1, hv.2]; omega) (fun k => k = ob s)
    (fun w' v' er u => v' = 0 ∧ er = 0 ∧ u = (wrF S (S me).owns (S me).label m s (0, 0)).1 ∧ PK w' kb S (upd ws s ((ws s).set i v)) lq ph ob qp) (fun w1 rb hq hb hrb => ?_) (by omega) ?_).mono ?_
  · obtain ⟨lb, lo, rfl, ha2⟩ := ha.get (by omega)
    have hne : lb ≠ rb := by have := ha2.lt; omega
    refine (t_write_yes hq m s i lb lo cap v hs hd (ha2.below hb ha2.lt) hne x hx hi hp).mono ?_
    rintro e w' ⟨rfl, w4, hq4, hf4, rfl⟩
    have hob : ob s ≠ rb := fun e => hq.ne (Or.inr (Or.inl ⟨s, hs, by omega, e⟩))
    refine ⟨0, 0, _, rfl, (Blk.apart hq4.req (Ne.symm hob) _).drew, ⟨rfl, rfl, rfl, (hq4.pk.putWord hs hk3 v).same (fun k _ => rfl)⟩, ?_⟩
    exact Fr.drew (Fr.setCell (S := fun k => k = rb ∨ k = ob s) (p := ⟨ob s, 3 + i, none⟩) (hf4.mono (fun _ _ h => Or.inl h)) (Or.inl (Or.inr rfl)) _)
  · rintro w' w'' v' er u ⟨h1, h2, h3, hpk⟩ hf
    refine ⟨h1, h2, h3, hpk.fr hf ?_⟩
    intro k hk e
    have := h.foot_lt hk
    omega
  · rintro e w' ⟨v', er, u, rfl, ⟨rfl, rfl, rfl, hpk⟩, hf⟩
    exact ⟨rfl, hpk, hf⟩
end

end Go.Proofs.Ytflniddofmnkaaa
