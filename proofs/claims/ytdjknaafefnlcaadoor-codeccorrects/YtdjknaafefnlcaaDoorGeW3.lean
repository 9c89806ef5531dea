/-
  The walks of package geom: the document's Right; which places a geometry has.
-/
import Derived.Test.YtdjknaafefnlcaaDoorGeW2
namespace Go.Proofs.YtdjknaafefnlcaaDoor
open Go.RowKit
open Ge (pw rt hd ix)

/-- a number of int -/
def I64 (x : Int) : Prop := -9223372036854775808 ≤ x ∧ x < 9223372036854775808

end Go.Proofs.YtdjknaafefnlcaaDoor
