/-
  The document's example; the iterator over the columns.
-/
import Derived.Test.YtdjknaafefnlcaaDoorHsW7
namespace Go.Proofs.YtdjknaafefnlcaaDoor
open Go.RowKit Go.Shelf
open Bm (wt wtK cntW)
open Hm (col onesOf nOf idx kd pl xs ap syn)
attribute [local go_sem] Oper.semAt_some

theorem run_index_cols (x : Nat) (hx : x < 74) (w : World) : (Instr.index 100 (.agg colsL.toArray) (.int .i64 (x : Int))).run Tryd.prog w = .ok (.int .u8 (col x : Int)) w := by
  have hu := Tryd.underlying100
  have hc := colsL_at x hx
  simp [Instr.index, run_underlying hu, asIntOf, go_sem, hx]
  rw [hc]; rfl
end Go.Proofs.YtdjknaafefnlcaaDoor
