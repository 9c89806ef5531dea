/-
  The walks of package geom: which geometries are right, which places they have; the document's.
-/
import Derived.Test.YtdjknaafefnlcaaDoorGeW1
import Derived.Test.YtdjknaafefnlcaaDoorRound2
import Derived.Test.YtdjknaafefnlcaaDoorCalm
namespace Go.Proofs.YtdjknaafefnlcaaDoor
open Go.RowKit
open Bm (wt wtK)
open Ge (pw rt hd ix)

theorem low_prod (x y : Int) (a b : Int) (hx : 0 ≤ x) (hxa : x ≤ a) (hy : 0 ≤ y) (hyb : y ≤ b) : 0 ≤ x * y ∧ x * y ≤ a * b :=
  ⟨Int.mul_nonneg hx hy, Int.mul_le_mul hxa hyb hy (by omega)⟩
end Go.Proofs.YtdjknaafefnlcaaDoor
