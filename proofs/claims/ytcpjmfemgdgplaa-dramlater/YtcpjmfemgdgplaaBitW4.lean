/-
  The document's example, which every statement of layer 3 holds the program against first.
-/
import Derived.Test.YtcpjmfemgdgplaaBitW3
namespace Go.Proofs.Ytcpjmfemgdgplaa
open Go.RowKit Go.Shelf
open Bm (wt wtK cntW)
attribute [local go_sem] Oper.semAt_some

/-- four variables' boxes, laid one by one -/
theorem four_boxes (w : World) (t0 t1 t2 t3 : TypeId) (v0 v1 v2 v3 : Value) (V : World) (h : (((w.alloc (.cells #[v0] t0)).alloc (.cells #[v1] t1)).alloc (.cells #[v2] t2)).alloc (.cells #[v3] t3) = V) :
    V.heap.size = w.heap.size + 4 ∧ Box V w.heap.size v0 ∧ Box V (w.heap.size + 1) v1 ∧ Box V (w.heap.size + 1 + 1) v2 ∧ Box V (w.heap.size + 1 + 1 + 1) v3 ∧ Below w.heap.size w V := by
  have a0 := Box.new w t0 v0
  have a1 := Box.new (w.alloc (.cells #[v0] t0)) t1 v1
  have a2 := Box.new ((w.alloc (.cells #[v0] t0)).alloc (.cells #[v1] t1)) t2 v2
  have a3 := Box.new (((w.alloc (.cells #[v0] t0)).alloc (.cells #[v1] t1)).alloc (.cells #[v2] t2)) t3 v3
  simp only [World.size_alloc] at a1 a2 a3
  rw [← h]
  exact ⟨by simp, ((a0.alloc _).alloc _).alloc _, (a1.alloc _).alloc _, a2.alloc _, a3, ((((Below.refl _ w).alloc (Nat.le_refl _) _).alloc (by simp) _).alloc (by simp; omega) _).alloc (by simp; omega) _⟩

end Go.Proofs.Ytcpjmfemgdgplaa
