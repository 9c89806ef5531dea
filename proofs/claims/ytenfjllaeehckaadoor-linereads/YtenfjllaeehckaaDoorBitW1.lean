/-
  The walks of package bit, the leaves: the weight of a word of each width, its parity; the document's weight.
-/
import Derived.Test.YtenfjllaeehckaaDoorRows
import Derived.Test.YtenfjllaeehckaaDoorBitMath
import Derived.Test.YtenfjllaeehckaaDoorRange
import Derived.WalkKit
import Derived.WalkSpells
import Derived.WalkLawsBesides
import Derived.Deep.QuietTactic
import Derived.BigQuiet
namespace Go.Proofs.YtenfjllaeehckaaDoor
open Go.RowKit
open Bm (wt wtK)






end Go.Proofs.YtenfjllaeehckaaDoor
