/-
  What the document's walks of layer 10 share: a line of 64 bytes, the columns laid.
-/
import Derived.Test.YtoimbjbdkkohcaaGreatDoorM18
import Derived.Test.YtoimbjbdkkohcaaGreatDoorM02
import Derived.Test.YtoimbjbdkkohcaaGreatDoorM11
namespace Go.Proofs.YtoimbjbdkkohcaaGreatDoor
open Go.RowKit Go.Shelf
open Po (El toE)
attribute [local go_sem] Oper.semAt_some

theorem zeroA10 (w : World) : (zeroValue 22).run Tryz.prog w = .ok (.agg (ints .u8 64 fun _ => 0).toArray) w := by kernel_rfl
theorem infoA10 : (Tryz.prog.info? 22).map (·.size) = some 64 := by kernel_rfl
theorem there_cols10 (W : World) : (W.alloc (.cells (stageC 0) 43)).there W.heap.size 0 colsL.toArray.size := fun j hj => by
  have hj' : j < 74 := by simpa [colsL_len] using hj
  have hs : j < (stageC 0).size := by rw [stageC_size]; exact hj'
  constructor
  · rw [show (⟨W.heap.size, 0 + j, none⟩ : Addr) = ⟨W.heap.size, j, none⟩ from by rw [Nat.zero_add]]
    rw [World.cell?_alloc_new]
    simp [hs]
  · simp [go_sem]
theorem cols_laid (W : World) : At9 ((W.alloc (.cells (stageC 0) 43)).setCells W.heap.size 0 colsL) W.heap.size colsL :=
  ⟨World.rangeAt_setCells_same _ _ 0 colsL (by simpa using there_cols10 W), by
    have h : Below W.heap.size W ((W.alloc (.cells (stageC 0) 43)).setCells W.heap.size 0 colsL) := belows_put (Nat.le_refl _) colsL 0 ((Below.refl _ W).alloc (Nat.le_refl _) _)
    have h2 : (W.alloc (.cells (stageC 0) 43)).heap.size ≤ ((W.alloc (.cells (stageC 0) 43)).setCells W.heap.size 0 colsL).heap.size := (belows_put (B := 0) (Nat.zero_le _) colsL 0 (Below.refl 0 _)).size
    simp only [World.size_alloc] at h2
    omega⟩
end Go.Proofs.YtoimbjbdkkohcaaGreatDoor
