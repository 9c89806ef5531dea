/-
  Variables' boxes, laid one by one; the builtins min and max of two.
-/
import Derived.Test.YtcpjmfemgdgplaaRange
namespace Go.Proofs.Ytcpjmfemgdgplaa
open Go.RowKit

theorem box2 (w : World) (t0 t1 : TypeId) (v0 v1 : Value) (V : World) (h : (w.alloc (.cells #[v0] t0)).alloc (.cells #[v1] t1) = V) :
    V.heap.size = w.heap.size + 2 ∧ Box V w.heap.size v0 ∧ Box V (w.heap.size + 1) v1 ∧ Stay w.heap.size w V := by
  have a0 := Box.new w t0 v0
  have a1 := Box.new (w.alloc (.cells #[v0] t0)) t1 v1
  simp only [World.size_alloc] at a1
  rw [← h]
  exact ⟨by simp, a0.alloc _, a1, (Stay.alloc _ w _ (Nat.le_refl _)).trans (Stay.alloc _ _ _ (by simp))⟩
theorem box3 (w : World) (t0 t1 t2 : TypeId) (v0 v1 v2 : Value) (V : World) (h : ((w.alloc (.cells #[v0] t0)).alloc (.cells #[v1] t1)).alloc (.cells #[v2] t2) = V) :
    V.heap.size = w.heap.size + 3 ∧ Box V w.heap.size v0 ∧ Box V (w.heap.size + 1) v1 ∧ Box V (w.heap.size + 1 + 1) v2 ∧ Stay w.heap.size w V := by
  have a0 := Box.new w t0 v0
  have a1 := Box.new (w.alloc (.cells #[v0] t0)) t1 v1
  have a2 := Box.new ((w.alloc (.cells #[v0] t0)).alloc (.cells #[v1] t1)) t2 v2
  simp only [World.size_alloc] at a1 a2
  rw [← h]
  exact ⟨by simp, (a0.alloc _).alloc _, a1.alloc _, a2, ((Stay.alloc _ w _ (Nat.le_refl _)).trans (Stay.alloc _ _ _ (by simp))).trans (Stay.alloc _ _ _ (by simp; omega))⟩
theorem min_run (a b c : Int) (h : min a b = c) {P : Program} (ts : Array TypeId) (t : TypeId) (w : World) : (Builtin.min_ ts t #[.int .i64 a, .int .i64 b]).run P w = .ok (.int .i64 c) w := by
  have e : (if b < a then b else a) = c := by split <;> omega
  rw [← e]
  simp [Builtin.min_, Builtin.min2]
theorem max_run (a b c : Int) (h : max a b = c) {P : Program} (ts : Array TypeId) (t : TypeId) (w : World) : (Builtin.max_ ts t #[.int .i64 a, .int .i64 b]).run P w = .ok (.int .i64 c) w := by
  have e : (if a < b then b else a) = c := by split <;> omega
  rw [← e]
  simp [Builtin.max_, Builtin.max2]
theorem Box.stayed {B : Nat} {W W' : World} {b : Nat} {v : Value} (h : Box W b v) (k : Stay B W W') : Box W' b v := Box.stay k h
end Go.Proofs.Ytcpjmfemgdgplaa
