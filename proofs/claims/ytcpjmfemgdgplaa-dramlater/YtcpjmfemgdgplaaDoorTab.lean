/-
  The table of math/bits that the program reads (deBruijn64tab), out of the row's condition on what the variable holds when the call begins.
-/
import Derived.Test.YtcpjmfemgdgplaaRows
import Derived.ProofKit
import Derived.LaidMore
import Derived.OpenShut
import Derived.Stop.Joined
import Derived.Lib.LaidTab
import Derived.Lib.TrailingZeros
namespace Go.Proofs.Ytcpjmfemgdgplaa
open Go.ChangeShapes Go.WideShapes Go.ChangeAt Go.WideElems Go.RowKit

end Go.Proofs.Ytcpjmfemgdgplaa
