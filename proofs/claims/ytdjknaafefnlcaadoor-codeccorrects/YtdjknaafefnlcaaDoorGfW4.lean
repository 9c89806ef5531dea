/-
  The walks of Pow, and of the document's powers; the law GfLogs.
-/
import Derived.Test.YtdjknaafefnlcaaDoorGfLaws
import Derived.Deep.DeepCutAuto
namespace Go.Proofs.YtdjknaafefnlcaaDoor
open Go.RowKit
open Gf (eI lI gI dI pI)








end Go.Proofs.YtdjknaafefnlcaaDoor
