/-
  The walks of Pow, and of the document's powers; the law GfLogs.
-/
import Derived.Test.YtmkjdpokcfeieaaGfLaws
import Derived.Deep.DeepCutAuto
namespace Go.Proofs.Ytmkjdpokcfeieaa
open Go.RowKit
open Gf (eI lI gI dI pI)








end Go.Proofs.Ytmkjdpokcfeieaa
