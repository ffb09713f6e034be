/- What the law's 'roomy' does. -/
import Derived.Test.YtflniddofmnkaaaRefArgs
import Derived.Deep.AppendLies
open Go Go.Proofs Go.RowKit
namespace Go.Proofs.Ytflniddofmnkaaa

theorem roomy_nil (w : World) :
    Calls Try.prog 41 #[.slice none 0 0] w fun e w' => e = .returned (.slice none 0 0) ∧ w' = w := by
  have he := @Lib.run_eql_slice_nil Try.prog
  go_enter Try.func41, Try.ntmps41
  go_wp2_with fail
  go_ret
  exact ⟨rfl, rfl⟩

/-- The caller's own numbers with eight behind them. -/
def padded (xs : List Int) : List Int := xs ++ [-77, -77, -77, -77, -77, -77, -77, -77]

/-- Numbers lie in block g from its first cell on; it may be written. -/
structure Row (w : World) (g : Nat) (xs : List Int) : Prop where
  blk : ∃ cs : Array Value, Blk w g cs ∧ xs.length ≤ cs.size ∧ ∀ (i : Nat) (x : Int), xs[i]? = some x → cs[i]? = some (Value.int .i64 x)

theorem row_of_owns {w : World} {base : Nat} {e : TypeId} {v : Value} {n : Nat} {xs : List Int} (h : w.ownsRow base e 1 v n (xs.map (Value.int .i64))) (hn : 0 < n) :
    ∃ g cap, v = .slice (some ⟨g, 0, none⟩) n cap ∧ base ≤ g ∧ n ≤ cap ∧ Row w g xs := by
  rcases h.2 with ⟨_, h0⟩ | ⟨g, cap, cur, hv, hb, hg, hc, _, hsz, htk⟩
  · omega
  · refine ⟨g, cap, hv, hb, hc, cur, ⟨e, hg⟩, ?_, fun i x hx => ?_⟩
    · have h1 := h.1
      simp at h1
      omega
    · have hi : i < xs.length := (List.getElem?_eq_some_iff.1 hx).1
      have h1 := h.1
      simp at h1
      have h2 : (xs.map (Value.int .i64))[i]? = some (Value.int .i64 x) := by simp [hx]
      rw [← htk, List.getElem?_take_of_lt (by omega)] at h2
      simpa using h2

theorem owns_alloc {w : World} {base : Nat} {e : TypeId} {size : Nat} {v : Value} {n : Nat} {xs : List Value} (h : w.ownsRow base e size v n xs) (o : Obj) : (w.alloc o).ownsRow base e size v n xs := by
  refine ⟨h.1, ?_⟩
  rcases h.2 with h1 | ⟨g, cap, cur, h1, h2, h3, h4⟩
  · exact Or.inl h1
  · exact Or.inr ⟨g, cap, cur, h1, h2, by rw [Below.heap_alloc _ _ _ (Array.getElem?_eq_some_iff.1 h3).1]; exact h3, h4⟩

set_option maxHeartbeats 2000000 in
theorem roomy_any (w : World) (lb lo cap : Nat) (xs : List Int) (hx0 : 0 < xs.length) (hm : xs.length ≤ 17592186043904) (ha : Arg w lb lo xs) :
    Calls Try.prog 41 #[.slice (some ⟨lb, lo, none⟩) xs.length cap] w fun e w' => ∃ g c, e = .returned (.slice (some ⟨g, 0, none⟩) xs.length c) ∧ xs.length + 8 ≤ c ∧ w.heap.size ≤ g ∧ Row w' g (padded xs) ∧ Below w.heap.size w w' := by
  have he := fun w => Lib.run_eql_slice_nil (P := Try.prog) w 32 3 (some ⟨lb, lo, none⟩) xs.length cap 0 0 Try.underlying32
  have HA := hide ha
  clear ha
  go_enter Try.func41, Try.ntmps41
  iterate 30 (first | go_step | go_simp)
  refine wpList_append_lies _ (by rfl) _ _ 32 (by rfl) w.heap.size 3 Try.t3 (.int .i64 0) 1 8 Try.underlying32 (by kernel_rfl) (by kernel_rfl) (by kernel_rfl) (by kernel_rfl) (by rfl) (by omega) (.slice none 0 0) 0 [] (by rfl) ⟨by simp, Or.inl ⟨rfl, rfl⟩⟩ ⟨lb, lo, none⟩ xs.length cap (xs.map (Value.int .i64)) (by rfl) (by simp) ?_ ?_ hx0 (by unfold maxLen; omega) (by omega) (Nat.le_refl _) w.heap.size rfl ?_
  · intro j u hu
    have hj : (⟨lb, lo, none⟩ : Addr).add j = ⟨lb, lo + j, none⟩ := by unfold Addr.add; split <;> simp_all
    rw [hj]
    simp at hu
    obtain ⟨x, hx, rfl⟩ := hu
    exact HA.out.cell j x hx
  · intro u hu
    obtain ⟨x, _, rfl⟩ := List.mem_map.1 hu
    rfl
  intro g1 cap1 w1 hown1 hgr1 hat1 hlt1
  have hg1 : g1 = w.heap.size := by
    rcases hat1 with h | h
    · cases h
    · exact h
  subst hg1
  simp only [Nat.zero_add, List.nil_append] at hown1
  have HO1 := hide hown1
  have HG1 := hide hgr1
  clear hown1 hgr1 hat1
  iterate 3 (first | go_step | go_simp)
  have BN := Blk.new w1 #[.int .i64 (-77), .int .i64 (-77), .int .i64 (-77), .int .i64 (-77), .int .i64 (-77), .int .i64 (-77), .int .i64 (-77), .int .i64 (-77)] 3
  refine wpList_append_lies _ (by rfl) _ _ 32 (by rfl) w.heap.size 3 Try.t3 (.int .i64 0) 1 8 Try.underlying32 (by kernel_rfl) (by kernel_rfl) (by kernel_rfl) (by kernel_rfl) (by rfl) (by omega) (.slice (some ⟨w.heap.size, 0, none⟩) xs.length cap1) xs.length (xs.map (Value.int .i64)) (by rfl) (owns_alloc HO1.out _) ⟨w1.heap.size, 0, none⟩ 8 8 ([-77, -77, -77, -77, -77, -77, -77, -77].map (Value.int .i64)) (by rfl) (by simp) ?_ ?_ (by omega) (by unfold maxLen; omega) (by omega) (by have := HG1.out.size; simp; omega) (w1.heap.size + 1) (by simp) ?_
  · intro j u hu
    obtain ⟨T, hT⟩ := BN
    exact World.news_of_block hT j u hu
  · intro u hu
    obtain ⟨x, _, rfl⟩ := List.mem_map.1 hu
    rfl
  intro g2 cap2 w2 hown2 hgr2 hat2 hlt2
  have hpad : xs.map (Value.int .i64) ++ ([-77, -77, -77, -77, -77, -77, -77, -77].map (Value.int .i64)) = (padded xs).map (Value.int .i64) := by unfold padded; simp
  rw [hpad] at hown2
  obtain ⟨g3, cap3, hv, hb3, hc3, hrow⟩ := row_of_owns hown2 (by omega)
  injection hv with hv1 hv2 hv3
  injection hv1 with hv1
  injection hv1 with hv1
  subst hv1 hv3
  have HR := hide hrow
  have HB : Hid (Below w.heap.size w w2) := by
    have h1 : Below w.heap.size w w1 := (Below.refl _ _).grown HG1.out (Nat.le_refl _) (fun k hk => by cases hk)
    exact (h1.alloc h1.size _).grown hgr2 (by have := h1.size; simp; omega) (fun k hk => by injection hk with hk; subst hk; simp)
  have hc3' : (xs.length : Int) ≤ (cap2 : Int) := by omega
  clear hown2 hgr2 hat2 BN hrow hpad
  go_wp2_with fail
  go_ret
  exact ⟨g2, cap2, rfl, by omega, hb3, HR.out, HB.out⟩

set_option maxHeartbeats 2000000 in
theorem roomy_empty (w : World) (a : Addr) (cap : Nat) :
    Calls Try.prog 41 #[.slice (some a) 0 cap] w fun e w' => ∃ g c, e = .returned (.slice (some ⟨g, 0, none⟩) 0 c) ∧ 8 ≤ c ∧ w.heap.size ≤ g ∧ Row w' g (padded []) ∧ Below w.heap.size w w' := by
  have he := fun w => Lib.run_eql_slice_nil (P := Try.prog) w 32 3 (some a) 0 cap 0 0 Try.underlying32
  have hap : ∀ w, (Builtin.append_ #[32, 32] 32 #[.slice none 0 0, .slice (some a) 0 cap]).run Try.prog w = .ok (.slice none 0 0) w := fun w => by kernel_rfl
  go_enter Try.func41, Try.ntmps41
  iterate 36 (first | go_step | go_simp)
  have BN := Blk.new w #[.int .i64 (-77), .int .i64 (-77), .int .i64 (-77), .int .i64 (-77), .int .i64 (-77), .int .i64 (-77), .int .i64 (-77), .int .i64 (-77)] 3
  refine wpList_append_lies _ (by rfl) _ _ 32 (by rfl) w.heap.size 3 Try.t3 (.int .i64 0) 1 8 Try.underlying32 (by kernel_rfl) (by kernel_rfl) (by kernel_rfl) (by kernel_rfl) (by rfl) (by omega) (.slice none 0 0) 0 [] (by rfl) ⟨by simp, Or.inl ⟨rfl, rfl⟩⟩ ⟨w.heap.size, 0, none⟩ 8 8 ([-77, -77, -77, -77, -77, -77, -77, -77].map (Value.int .i64)) (by rfl) (by simp) ?_ ?_ (by omega) (by unfold maxLen; omega) (by omega) (by simp) (w.heap.size + 1) (by simp) ?_
  · intro j u hu
    obtain ⟨T, hT⟩ := BN
    exact World.news_of_block hT j u hu
  · intro u hu
    obtain ⟨x, _, rfl⟩ := List.mem_map.1 hu
    rfl
  intro g2 cap2 w2 hown2 hgr2 hat2 hlt2
  have hpad : [] ++ ([-77, -77, -77, -77, -77, -77, -77, -77].map (Value.int .i64)) = (padded []).map (Value.int .i64) := rfl
  rw [hpad] at hown2
  obtain ⟨g3, cap3, hv, hb3, hc3, hrow⟩ := row_of_owns hown2 (by omega)
  injection hv with hv1 hv2 hv3
  injection hv1 with hv1
  injection hv1 with hv1
  subst hv1 hv3
  have HR := hide hrow
  have HB : Hid (Below w.heap.size w w2) := ((Below.refl _ _).alloc (Nat.le_refl _) _).grown hgr2 (by simp) (fun k hk => by cases hk)
  have hc3' : (8 : Int) ≤ (cap2 : Int) := by omega
  clear hown2 hgr2 hat2 BN hrow hpad
  go_wp2_with fail
  go_ret
  exact ⟨g2, cap2, rfl, by omega, hb3, HR.out, HB.out⟩

end Go.Proofs.Ytflniddofmnkaaa
