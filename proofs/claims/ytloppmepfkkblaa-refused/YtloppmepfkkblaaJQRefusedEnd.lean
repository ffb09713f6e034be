/- Proved: whatever row of calls and whatever call come in, 'Refused' returns true and what came in reads afterwards as it read before; no condition. -/
import Derived.Test.YtloppmepfkkblaaJQOpenToQRefused
open Go Go.Proofs Go.RowKit Go.ChangeShapes Go.WideShapes Go.ChangeAt
namespace Go.Proofs.Ytloppmepfkkblaa

theorem two_of {ag : Array Value} (h : ag.size = 2) : ∃ a b, ag = #[a, b] := by
  obtain ⟨l⟩ := ag
  match l, h with
  | [a, b], _ => exact ⟨a, b, rfl⟩

/-- One call. -/
theorem call_open {H : Type} {enc : TypeId × Value → H} {W : World} {fuel : Nat} {ag : Array Value} {x : DataW H × List MemPlace} (hag : ag.size = Try.prog.cellsOf 39) (h : DataW.trod enc Try.prog W 0 (fun _ => true) true fuel 39 ag.toList = some x) (hw : ∀ k ∈ x.1.weights Try.prog 39, k ≤ reachBytes) :
    ∃ (T : Int) (va : Option Addr) (vn vc : Nat) (xs : List Int), ag = #[.int .i64 T, .slice va vn vc] ∧ ArgV W (.slice va vn vc) xs := by
  obtain ⟨y0, y1, q, hy, hlen, t0, t1⟩ := trod_two Try.underlying39 h
  subst hy
  rw [cells_call] at hag
  obtain ⟨w0, w1, rfl⟩ := two_of hag
  · simp [cells_int, cells_ints] at t0 t1
    obtain ⟨K, hK, _, wK⟩ := DataW.trod_int Try.underlying3 t0
    simp at hK
    subst hK
    obtain ⟨xs, hxs⟩ := (args_open t1 (fun k hk => hw k (by
      simp only [DataW.weights, Try.underlying39]
      exact DataW.weights_mem_each (ts := [3, 29]) (j := 1) rfl rfl k hk))).argV
    obtain ⟨a, n, c, rfl⟩ := hxs.form
    exact ⟨K, a, n, c, xs, rfl, hxs⟩

set_option maxRecDepth 100000 in
theorem refused_lifted (os : Os) (started : os.Started) (H : Type) (enc : TypeId × Value → H) :
    ReturnsInHanded {} Try.checked os 4 .any (Rows.refusedSpec.pre6 enc Try.prog Try.f4 Rows.refusedRow.domain false) (Rows.refusedSpec.post enc Try.prog Try.f4 false true false false) := by
  refine returnsInHanded_of_change_sized (C := Try.checked) own_knob started (by kernel_rfl) Try.func4
    (ChangeSpec.witness6 (enc := enc) (C := Try.checked) false ⟨#[], #[.slice none 0 0, .agg #[.int .i64 0, .slice none 0 0]], []⟩ 8 (by kernel_rfl) (by kernel_rfl) (by kernel_rfl) (by kernel_rfl)) ?_
  intro W base args ds gs before hval0 hW hcnd hsz0 _
  have hval : ∀ (j : Nat) t v, Try.f4.params[j]? = some t → args[j]? = some v → Value.okWide Try.prog W .any base t v := hval0
  have hsz : (DataW.weightsEach Try.prog (Try.f4.params.toList ++ Rows.refusedSpec.plain.varTypes Try.prog) (ds ++ gs)).all (· ≤ reachBytes) = true := hsz0
  have hW' := hW
  obtain ⟨p, q, hA0, hV, rfl, hfz, hnd⟩ := hW
  have hA : DataW.TrodAll enc Try.prog W 0 (fun _ => true) true Try.f4.params.toList args.toList ds p := hA0
  rw [Try.params4] at hA hval hsz
  obtain ⟨v0, v1, d0, d1, p0, p1, rfl, rfl, rfl, h0, h1⟩ := trodAll_two hA
  obtain ⟨rfl, rfl⟩ := trodVars_none hV
  obtain ⟨sa, n, cap, rfl⟩ := okWide_slice Try.underlying22 (hval 0 22 v0 rfl rfl)
  obtain ⟨ag, rfl, hag⟩ := okWide_struct Try.underlying39 (hval 1 39 v1 rfl rfl)
  have lt0 : ∀ x ∈ p0, x.block < W.heap.size := by obtain ⟨m, hm⟩ := h0; exact DataW.trod_lt m _ _ _ hm
  have lt1 : ∀ x ∈ p1, x.block < W.heap.size := by obtain ⟨m, hm⟩ := h1; exact DataW.trod_lt m _ _ _ hm
  obtain ⟨cs, e0, m0, hc0⟩ : ∃ cs : List (Int × List Int), cs.length = n ∧ n ≤ 17592186043904 ∧ CallsAt W sa cs := by
    obtain ⟨fuel, hf⟩ := h0
    refine calls_open (by simpa [Value.cells] using hf) (fun k hk => ?_)
    have := List.all_eq_true.1 hsz k (DataW.weights_mem_each (j := 0) (t := 22) (d := d0) rfl rfl k hk)
    simpa using this
  obtain ⟨T, va, vn, vc, xs, rfl, hc1⟩ : ∃ (T : Int) (va : Option Addr) (vn vc : Nat) (xs : List Int), ag = #[.int .i64 T, .slice va vn vc] ∧ ArgV W (.slice va vn vc) xs := by
    obtain ⟨fuel, hf⟩ := h1
    refine call_open hag (by simpa [Value.cells] using hf) (fun k hk => ?_)
    have := List.all_eq_true.1 hsz k (DataW.weights_mem_each (j := 1) (t := 39) (d := d1) rfl rfl k hk)
    simpa using this
  clear hA0 hval0 hsz0 hsz
  refine (refused_walk W sa n cap cs e0 m0 hc0 T va vn vc xs hc1).mono fun e W' ⟨he, bel⟩ => ?_
  subst he
  exact ⟨_, rfl, _, _, _, [], _, [], hW', trodAll_mk1 (shut_bool Try.underlying4 _), trodAll_mk2 (Below.trod laid_out (by kernel_rfl) (of_decide_eq_true (by kernel_rfl)) h0 bel lt0) (Below.trod laid_out (by kernel_rfl) (of_decide_eq_true (by kernel_rfl)) h1 bel lt1), rfl, bel.frame _, fun h => by cases h⟩

theorem refused_holds : Rows.RefusedSaid :=
  OpenClaim.holds_of_wide 4 Try.f4 rfl rfl rfl rfl rfl rfl rfl ⟨rfl, rfl, rfl, rfl, rfl⟩ rfl rfl rfl rfl rfl (by kernel_rfl) Try.func4 (by kernel_rfl)
    (of_decide_eq_true (by kernel_rfl)) (by unfold Func.isWrapper; first | (rw [if_pos (by decide +kernel)]; kernel_rfl) | (rw [if_neg (by decide +kernel)]; exact ⟨rfl, rfl⟩))
    (fun os started H enc _ => refused_lifted os started H enc)

#print axioms refused_holds
end Go.Proofs.Ytloppmepfkkblaa
