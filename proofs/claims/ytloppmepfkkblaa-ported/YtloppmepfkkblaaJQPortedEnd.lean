/- Proved: whatever label, owner and script come in, 'Ported' returns true and what came in reads afterwards as it read before; no condition. -/
import Derived.Test.YtloppmepfkkblaaJQOpenToQPorted
open Go Go.Proofs Go.RowKit Go.ChangeShapes Go.WideShapes Go.ChangeAt
namespace Go.Proofs.Ytloppmepfkkblaa

set_option maxRecDepth 100000 in
theorem ported_lifted (os : Os) (started : os.Started) (H : Type) (enc : TypeId × Value → H) :
    ReturnsInHanded {} Try.checked os 7 .any (Rows.portedSpec.pre6 enc Try.prog Try.f7 Rows.portedRow.domain false) (Rows.portedSpec.post enc Try.prog Try.f7 false true false false) := by
  refine returnsInHanded_of_change_sized (C := Try.checked) own_knob started (by kernel_rfl) Try.func7
    (ChangeSpec.witness6 (enc := enc) (C := Try.checked) false ⟨#[], #[.int .i64 0, .bool false, .slice none 0 0], []⟩ 8 (by kernel_rfl) (by kernel_rfl) (by kernel_rfl) (by kernel_rfl)) ?_
  intro W base args ds gs before hval0 hW hcnd hsz0 _
  have hval : ∀ (j : Nat) t v, Try.f7.params[j]? = some t → args[j]? = some v → Value.okWide Try.prog W .any base t v := hval0
  have hsz : (DataW.weightsEach Try.prog (Try.f7.params.toList ++ Rows.portedSpec.plain.varTypes Try.prog) (ds ++ gs)).all (· ≤ reachBytes) = true := hsz0
  have hW' := hW
  obtain ⟨p, q, hA0, hV, rfl, hfz, hnd⟩ := hW
  have hA : DataW.TrodAll enc Try.prog W 0 (fun _ => true) true Try.f7.params.toList args.toList ds p := hA0
  rw [Try.params7] at hA hval hsz
  obtain ⟨v0, v1, v2, d0, d1, d2, p0, p1, p2, rfl, rfl, rfl, h0, h1, h2⟩ := trodAll_three hA
  obtain ⟨rfl, rfl⟩ := trodVars_none hV
  obtain ⟨label, rfl⟩ := okWide_int Try.underlying3 (hval 0 3 v0 rfl rfl)
  obtain ⟨owner, rfl⟩ := okWide_bool Try.underlying4 (hval 1 4 v1 rfl rfl)
  have lt0 : ∀ x ∈ p0, x.block < W.heap.size := by obtain ⟨m, hm⟩ := h0; exact DataW.trod_lt m _ _ _ hm
  have lt1 : ∀ x ∈ p1, x.block < W.heap.size := by obtain ⟨m, hm⟩ := h1; exact DataW.trod_lt m _ _ _ hm
  have lt2 : ∀ x ∈ p2, x.block < W.heap.size := by obtain ⟨m, hm⟩ := h2; exact DataW.trod_lt m _ _ _ hm
  have hlab : -9223372036854775808 ≤ label ∧ label ≤ 9223372036854775807 := by
    obtain ⟨fuel, hf⟩ := h0
    obtain ⟨K, hK, _, wK⟩ := DataW.trod_int Try.underlying3 (by simpa [Value.cells] using hf)
    simp at hK
    subst hK
    exact bounds_i64 wK
  have hargs : ArgsV W (fun k => W.heap.size ≤ k) v2 := by
    obtain ⟨sa, n, cap, rfl⟩ := okWide_slice Try.underlying29 (hval 2 29 v2 rfl rfl)
    obtain ⟨fuel, hf⟩ := h2
    refine args_open (by simpa [Value.cells] using hf) (fun k hk => ?_)
    have := List.all_eq_true.1 hsz k (DataW.weights_mem_each (j := 2) (t := 29) (d := d2) rfl rfl k hk)
    simpa using this
  clear hA0 hval0 hsz0 hsz
  have hwalk : Calls Try.prog 7 #[.int .i64 label, .bool owner, v2] W fun e w' => e = .returned (.bool true) ∧ Below W.heap.size W w' := by
    rcases hargs with rfl | ⟨la, xs, cap, rfl, ha⟩
    · exact ported_walk W label hlab owner none 0 0 [] rfl (by omega) (Or.inl rfl) (fun x hx => by cases hx)
    · refine ported_walk W label hlab owner (some la) xs.length cap xs rfl ha.len ?_ ha.wf
      rcases ha.at' with h | ⟨lb, lo, h3, h4, h5⟩
      · exact Or.inl (by rw [h]; rfl)
      · exact Or.inr ⟨lb, lo, by rw [h3], h4⟩
  refine hwalk.mono fun e W' ⟨he, bel⟩ => ?_
  subst he
  exact ⟨_, rfl, _, _, _, [], _, [], hW', trodAll_mk1 (shut_bool Try.underlying4 _), trodAll_mk3 (Below.trod laid_out (by kernel_rfl) (of_decide_eq_true (by kernel_rfl)) h0 bel lt0) (Below.trod laid_out (by kernel_rfl) (of_decide_eq_true (by kernel_rfl)) h1 bel lt1) (Below.trod laid_out (by kernel_rfl) (of_decide_eq_true (by kernel_rfl)) h2 bel lt2), rfl, bel.frame _, fun h => by cases h⟩

theorem ported_holds : Rows.PortedSaid :=
  OpenClaim.holds_of_wide 7 Try.f7 rfl rfl rfl rfl rfl rfl rfl ⟨rfl, rfl, rfl, rfl, rfl⟩ rfl rfl rfl rfl rfl (by kernel_rfl) Try.func7 (by kernel_rfl)
    (of_decide_eq_true (by kernel_rfl)) (by unfold Func.isWrapper; first | (rw [if_pos (by decide +kernel)]; kernel_rfl) | (rw [if_neg (by decide +kernel)]; exact ⟨rfl, rfl⟩))
    (fun os started H enc _ => ported_lifted os started H enc)

#print axioms ported_holds
end Go.Proofs.Ytloppmepfkkblaa
