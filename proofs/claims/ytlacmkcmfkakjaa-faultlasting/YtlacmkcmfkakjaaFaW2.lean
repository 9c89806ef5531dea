/-
  The walks of package fault: faults and places held against one another.
-/
import Derived.Test.YtlacmkcmfkakjaaFaW1
import Derived.Laws.StructEq
namespace Go.Proofs.Ytlacmkcmfkakjaa
open Go.RowKit Go.Shelf
attribute [local go_sem] Oper.semAt_some

theorem eqP_in (d : Nat) (p q u v p' q' u' v' : Int) (w : World) : (Op.equalIn (d + 1 + 1) 23 (.agg #[.int .i64 p, .int .i64 q, .int .i64 u, .int .i64 v]) (.agg #[.int .i64 p', .int .i64 q', .int .i64 u', .int .i64 v'])).run Try.prog w = .ok (decide (p = p' ∧ q = q' ∧ u = u' ∧ v = v')) w := by
  have hS : Try.prog.underlying 23 = some (.struct (Try.prog.fieldsOf 23)) := by kernel_rfl
  have hp : Try.prog.stoodInHeld 23 = false := by kernel_rfl
  rw [run_equalIn_agg w (d + 1) 23 _ _ hS hp]
  simp only [Program.fieldsOf, Try.underlying23]
  go_simp
  by_cases h1 : p = p' <;> by_cases h2 : q = q' <;> by_cases h3 : u = u' <;> by_cases h4 : v = v' <;> simp [h1, h2, h3, h4]
theorem eqP_gd : Try.prog.eqGuardType Try.prog.depth 23 = false := by kernel_rfl
theorem eqP_eql (p q u v p' q' u' v' : Int) (w : World) : (binOp .eql 23 (.agg #[.int .i64 p, .int .i64 q, .int .i64 u, .int .i64 v]) (.agg #[.int .i64 p', .int .i64 q', .int .i64 u', .int .i64 v'])).run Try.prog w = .ok (.bool (decide (p = p' ∧ q = q' ∧ u = u' ∧ v = v'))) w := by
  rw [run_eql_struct, eqP_in 9998]; rfl
theorem eqQ_in (d : Nat) (p q u v p' q' u' v' : Int) (w : World) : (Op.equalIn (d + 1 + 1) 29 (.agg #[.int .i64 p, .int .i64 q, .int .i64 u, .int .i64 v]) (.agg #[.int .i64 p', .int .i64 q', .int .i64 u', .int .i64 v'])).run Try.prog w = .ok (decide (p = p' ∧ q = q' ∧ u = u' ∧ v = v')) w := by
  have hS : Try.prog.underlying 29 = some (.struct (Try.prog.fieldsOf 29)) := by kernel_rfl
  have hp : Try.prog.stoodInHeld 29 = false := by kernel_rfl
  rw [run_equalIn_agg w (d + 1) 29 _ _ hS hp]
  simp only [Program.fieldsOf, Try.underlying29]
  go_simp
  by_cases h1 : p = p' <;> by_cases h2 : q = q' <;> by_cases h3 : u = u' <;> by_cases h4 : v = v' <;> simp [h1, h2, h3, h4]
theorem eqQ_gd : Try.prog.eqGuardType Try.prog.depth 29 = false := by kernel_rfl
theorem eqQ_eql (p q u v p' q' u' v' : Int) (w : World) : (binOp .eql 29 (.agg #[.int .i64 p, .int .i64 q, .int .i64 u, .int .i64 v]) (.agg #[.int .i64 p', .int .i64 q', .int .i64 u', .int .i64 v'])).run Try.prog w = .ok (.bool (decide (p = p' ∧ q = q' ∧ u = u' ∧ v = v'))) w := by
  rw [run_eql_struct, eqQ_in 9998]; rfl
theorem eqF_in (d : Nat) (k p q u v c i x k' p' q' u' v' c' i' x' : Int) (w : World) : (Op.equalIn (d + 1 + 1 + 1) 25 (.agg #[.int .i64 k, .int .i64 p, .int .i64 q, .int .i64 u, .int .i64 v, .int .i64 c, .int .i64 i, .int .i64 x]) (.agg #[.int .i64 k', .int .i64 p', .int .i64 q', .int .i64 u', .int .i64 v', .int .i64 c', .int .i64 i', .int .i64 x'])).run Try.prog w = .ok (decide (k = k' ∧ p = p' ∧ q = q' ∧ u = u' ∧ v = v' ∧ c = c' ∧ i = i' ∧ x = x')) w := by
  have hS : Try.prog.underlying 25 = some (.struct (Try.prog.fieldsOf 25)) := by kernel_rfl
  have hp : Try.prog.stoodInHeld 25 = false := by kernel_rfl
  have hP := eqP_in d p q u v p' q' u' v'
  rw [run_equalIn_agg w (d + 1 + 1) 25 _ _ hS hp]
  simp only [Program.fieldsOf, Try.underlying25]
  go_simp
  by_cases h1 : k = k'
  case neg => simp [h1]
  by_cases h2 : p = p'
  case neg => simp [h1, h2]
  by_cases h3 : q = q'
  case neg => simp [h1, h2, h3]
  by_cases h4 : u = u'
  case neg => simp [h1, h2, h3, h4]
  by_cases h5 : v = v'
  case neg => simp [h1, h2, h3, h4, h5]
  by_cases h6 : c = c'
  case neg => simp [h1, h2, h3, h4, h5, h6]
  by_cases h7 : i = i'
  case neg => simp [h1, h2, h3, h4, h5, h6, h7]
  by_cases h8 : x = x' <;> simp [h1, h2, h3, h4, h5, h6, h7, h8]
theorem eqF_gd : Try.prog.eqGuardType Try.prog.depth 25 = false := by kernel_rfl
theorem eqF_eql (k p q u v c i x k' p' q' u' v' c' i' x' : Int) (w : World) : (binOp .eql 25 (.agg #[.int .i64 k, .int .i64 p, .int .i64 q, .int .i64 u, .int .i64 v, .int .i64 c, .int .i64 i, .int .i64 x]) (.agg #[.int .i64 k', .int .i64 p', .int .i64 q', .int .i64 u', .int .i64 v', .int .i64 c', .int .i64 i', .int .i64 x'])).run Try.prog w = .ok (.bool (decide (k = k' ∧ p = p' ∧ q = q' ∧ u = u' ∧ v = v' ∧ c = c' ∧ i = i' ∧ x = x'))) w := by
  rw [run_eql_struct, eqF_in 9997]; rfl
theorem eqF_neq (k p q u v c i x k' p' q' u' v' c' i' x' : Int) (w : World) : (binOp .neq 25 (.agg #[.int .i64 k, .int .i64 p, .int .i64 q, .int .i64 u, .int .i64 v, .int .i64 c, .int .i64 i, .int .i64 x]) (.agg #[.int .i64 k', .int .i64 p', .int .i64 q', .int .i64 u', .int .i64 v', .int .i64 c', .int .i64 i', .int .i64 x'])).run Try.prog w = .ok (.bool (!decide (k = k' ∧ p = p' ∧ q = q' ∧ u = u' ∧ v = v' ∧ c = c' ∧ i = i' ∧ x = x'))) w := by
  rw [run_neq_struct, eqF_in 9997]; rfl
theorem infoQ : (Try.prog.info? 29).map (·.size) = some 4 := by kernel_rfl
theorem infoG : (Try.prog.info? 31).map (·.size) = some 8 := by kernel_rfl
/-- a fault, as the document has it -/
theorem of11_any (k p q u v c i x : Int) (w : World) :
    Calls Try.prog 9 #[.agg #[.int .i64 k, .int .i64 p, .int .i64 q, .int .i64 u, .int .i64 v, .int .i64 c, .int .i64 i, .int .i64 x]] w fun e w' => e = .returned (.agg #[.int .i64 k, .int .i64 p, .int .i64 q, .int .i64 u, .int .i64 v, .int .i64 c, .int .i64 i, .int .i64 x]) ∧ Below w.heap.size w w' := by
  go_enter Try.func9, Try.ntmps9
  go_upto_region 1 with (fail)
  obtain ⟨V, hV⟩ : ∃ V, (w.alloc (.cells #[.int .i64 k, .int .i64 p, .int .i64 q, .int .i64 u, .int .i64 v, .int .i64 c, .int .i64 i, .int .i64 x] 25)).alloc (.cells #[.int .i64 0, .int .i64 0, .int .i64 0, .int .i64 0, .int .i64 0, .int .i64 0, .int .i64 0, .int .i64 0] 31) = V := ⟨_, rfl⟩
  have HI : Hid (Ft V w.heap.size k p q u v c i x ∧ Ft V (w.heap.size + 1) 0 0 0 0 0 0 0 0 ∧ Below w.heap.size w V) := by
    rw [← hV]
    have h1 := Ft.new (w.alloc (.cells #[.int .i64 k, .int .i64 p, .int .i64 q, .int .i64 u, .int .i64 v, .int .i64 c, .int .i64 i, .int .i64 x] 25)) 0 0 0 0 0 0 0 0 31
    simp only [World.size_alloc] at h1
    exact ⟨(Ft.new w k p q u v c i x _).alloc _, h1, ((Below.refl _ w).alloc (Nat.le_refl _) _).alloc (by simp) _⟩
  obtain ⟨B, hB⟩ : ∃ B, w.heap.size = B := ⟨_, rfl⟩
  obtain ⟨D, hD⟩ : ∃ D, B + 1 = D := ⟨_, rfl⟩
  rw [hV]
  rw [hB, hD] at HI ⊢
  have lD : B ≤ D := by omega
  clear hV hD
  have c0 := HI.out.1.c0; have c5 := HI.out.1.c5; have c6 := HI.out.1.c6; have c7 := HI.out.1.c7
  have hr := HI.out.1.place
  have ht : V.there D 0 8 := Bk.there HI.out.2.1 .i64 (ffn k p q u v c i x)
  obtain ⟨W2, hW2⟩ : ∃ W2, V.setCells D 0 [.int .i64 k, .int .i64 p, .int .i64 q, .int .i64 u, .int .i64 v, .int .i64 c, .int .i64 i, .int .i64 x] = W2 := ⟨_, rfl⟩
  have e2 : Hid (Ft W2 D k p q u v c i x ∧ Below B w W2) := by rw [← hW2]; exact ⟨Bk.put HI.out.2.1 (ffn k p q u v c i x), belows_put lD _ 0 HI.out.2.2⟩
  go_wp2_with (first | refine wpList_load_mid rfl 23 _ rfl B 1 rfl [.int .i64 p, .int .i64 q, .int .i64 u, .int .i64 v] _ hr Try.underlying23 rfl infoP ?_ | refine wpList_store_mid rfl 31 _ _ rfl D 0 #[.int .i64 k, .int .i64 p, .int .i64 q, .int .i64 u, .int .i64 v, .int .i64 c, .int .i64 i, .int .i64 x] rfl rfl ht infoG (one8 k p q u v c i x) ?_)
  rw [hW2]
  have hs := e2.out.1.range
  have hld := run_loadVar_mid (P := Try.prog) W2 D 0 31 [.int .i64 k, .int .i64 p, .int .i64 q, .int .i64 u, .int .i64 v, .int .i64 c, .int .i64 i, .int .i64 x] _ hs Try.underlying31 rfl infoG
  refine bodyPost_ret (v := .agg #[.int .i64 k, .int .i64 p, .int .i64 q, .int .i64 u, .int .i64 v, .int .i64 c, .int .i64 i, .int .i64 x]) ?_ rfl ⟨rfl, by rw [hB]; exact e2.out.2⟩
  simp [results, Try.f9, Act.put, asAddr, hld]
end Go.Proofs.Ytlacmkcmfkakjaa
