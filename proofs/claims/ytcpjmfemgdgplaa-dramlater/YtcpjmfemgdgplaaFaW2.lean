/-
  The walks of package fault: faults and places held against one another.
-/
import Derived.Test.YtcpjmfemgdgplaaFaW1
import Derived.Laws.StructEq
namespace Go.Proofs.Ytcpjmfemgdgplaa
open Go.RowKit Go.Shelf
attribute [local go_sem] Oper.semAt_some

theorem eqP_in (d : Nat) (p q u v p' q' u' v' : Int) (w : World) : (Op.equalIn (d + 1 + 1) 36 (.agg #[.int .i64 p, .int .i64 q, .int .i64 u, .int .i64 v]) (.agg #[.int .i64 p', .int .i64 q', .int .i64 u', .int .i64 v'])).run Try.prog w = .ok (decide (p = p' ∧ q = q' ∧ u = u' ∧ v = v')) w := by
  have hS : Try.prog.underlying 36 = some (.struct (Try.prog.fieldsOf 36)) := by kernel_rfl
  have hp : Try.prog.stoodInHeld 36 = false := by kernel_rfl
  rw [run_equalIn_agg w (d + 1) 36 _ _ hS hp]
  simp only [Program.fieldsOf, Try.underlying36]
  go_simp
  by_cases h1 : p = p' <;> by_cases h2 : q = q' <;> by_cases h3 : u = u' <;> by_cases h4 : v = v' <;> simp [h1, h2, h3, h4]
theorem eqP_gd : Try.prog.eqGuardType Try.prog.depth 36 = false := by kernel_rfl
theorem eqP_eql (p q u v p' q' u' v' : Int) (w : World) : (binOp .eql 36 (.agg #[.int .i64 p, .int .i64 q, .int .i64 u, .int .i64 v]) (.agg #[.int .i64 p', .int .i64 q', .int .i64 u', .int .i64 v'])).run Try.prog w = .ok (.bool (decide (p = p' ∧ q = q' ∧ u = u' ∧ v = v'))) w := by
  rw [run_eql_struct, eqP_in 9998]; rfl
theorem eqQ_in (d : Nat) (p q u v p' q' u' v' : Int) (w : World) : (Op.equalIn (d + 1 + 1) 49 (.agg #[.int .i64 p, .int .i64 q, .int .i64 u, .int .i64 v]) (.agg #[.int .i64 p', .int .i64 q', .int .i64 u', .int .i64 v'])).run Try.prog w = .ok (decide (p = p' ∧ q = q' ∧ u = u' ∧ v = v')) w := by
  have hS : Try.prog.underlying 49 = some (.struct (Try.prog.fieldsOf 49)) := by kernel_rfl
  have hp : Try.prog.stoodInHeld 49 = false := by kernel_rfl
  rw [run_equalIn_agg w (d + 1) 49 _ _ hS hp]
  simp only [Program.fieldsOf, Try.underlying49]
  go_simp
  by_cases h1 : p = p' <;> by_cases h2 : q = q' <;> by_cases h3 : u = u' <;> by_cases h4 : v = v' <;> simp [h1, h2, h3, h4]
theorem eqQ_gd : Try.prog.eqGuardType Try.prog.depth 49 = false := by kernel_rfl
theorem eqQ_eql (p q u v p' q' u' v' : Int) (w : World) : (binOp .eql 49 (.agg #[.int .i64 p, .int .i64 q, .int .i64 u, .int .i64 v]) (.agg #[.int .i64 p', .int .i64 q', .int .i64 u', .int .i64 v'])).run Try.prog w = .ok (.bool (decide (p = p' ∧ q = q' ∧ u = u' ∧ v = v'))) w := by
  rw [run_eql_struct, eqQ_in 9998]; rfl
theorem eqF_in (d : Nat) (k p q u v c i x k' p' q' u' v' c' i' x' : Int) (w : World) : (Op.equalIn (d + 1 + 1 + 1) 38 (.agg #[.int .i64 k, .int .i64 p, .int .i64 q, .int .i64 u, .int .i64 v, .int .i64 c, .int .i64 i, .int .i64 x]) (.agg #[.int .i64 k', .int .i64 p', .int .i64 q', .int .i64 u', .int .i64 v', .int .i64 c', .int .i64 i', .int .i64 x'])).run Try.prog w = .ok (decide (k = k' ∧ p = p' ∧ q = q' ∧ u = u' ∧ v = v' ∧ c = c' ∧ i = i' ∧ x = x')) w := by
  have hS : Try.prog.underlying 38 = some (.struct (Try.prog.fieldsOf 38)) := by kernel_rfl
  have hp : Try.prog.stoodInHeld 38 = false := by kernel_rfl
  have hP := eqP_in d p q u v p' q' u' v'
  rw [run_equalIn_agg w (d + 1 + 1) 38 _ _ hS hp]
  simp only [Program.fieldsOf, Try.underlying38]
  go_simp
  by_cases h1 : k = k'
  case neg => simp [h1]
  by_cases h2 : p = p'
  case neg => simp [h1, h2]
  by_cases h3 : q = q'
  case neg => simp [h1, h2, h3]
  by_cases h4 : u = u'
  case neg => simp [h1, h2, h3, h4]
  by_cases h5 : v = v'
  case neg => simp [h1, h2, h3, h4, h5]
  by_cases h6 : c = c'
  case neg => simp [h1, h2, h3, h4, h5, h6]
  by_cases h7 : i = i'
  case neg => simp [h1, h2, h3, h4, h5, h6, h7]
  by_cases h8 : x = x' <;> simp [h1, h2, h3, h4, h5, h6, h7, h8]
theorem eqF_gd : Try.prog.eqGuardType Try.prog.depth 38 = false := by kernel_rfl
theorem eqF_eql (k p q u v c i x k' p' q' u' v' c' i' x' : Int) (w : World) : (binOp .eql 38 (.agg #[.int .i64 k, .int .i64 p, .int .i64 q, .int .i64 u, .int .i64 v, .int .i64 c, .int .i64 i, .int .i64 x]) (.agg #[.int .i64 k', .int .i64 p', .int .i64 q', .int .i64 u', .int .i64 v', .int .i64 c', .int .i64 i', .int .i64 x'])).run Try.prog w = .ok (.bool (decide (k = k' ∧ p = p' ∧ q = q' ∧ u = u' ∧ v = v' ∧ c = c' ∧ i = i' ∧ x = x'))) w := by
  rw [run_eql_struct, eqF_in 9997]; rfl
theorem eqF_neq (k p q u v c i x k' p' q' u' v' c' i' x' : Int) (w : World) : (binOp .neq 38 (.agg #[.int .i64 k, .int .i64 p, .int .i64 q, .int .i64 u, .int .i64 v, .int .i64 c, .int .i64 i, .int .i64 x]) (.agg #[.int .i64 k', .int .i64 p', .int .i64 q', .int .i64 u', .int .i64 v', .int .i64 c', .int .i64 i', .int .i64 x'])).run Try.prog w = .ok (.bool (!decide (k = k' ∧ p = p' ∧ q = q' ∧ u = u' ∧ v = v' ∧ c = c' ∧ i = i' ∧ x = x'))) w := by
  rw [run_neq_struct, eqF_in 9997]; rfl
end Go.Proofs.Ytcpjmfemgdgplaa
