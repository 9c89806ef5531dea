/-
  Ones: the lowest one of a word, by math/bits' table; the iterator that tells the ones of a word; the document's bit.
-/
import Derived.Test.YtlacmkcmfkakjaaBitW4
import Derived.Test.YtlacmkcmfkakjaaBitMath2
import Derived.Test.YtlacmkcmfkakjaaDoorTab
import Derived.Test.YtlacmkcmfkakjaaQuiet
namespace Go.Proofs.Ytlacmkcmfkakjaa
open Go.RowKit Go.Shelf
open Bm (wt wtK lef)
attribute [local go_sem] Oper.semAt_some



end Go.Proofs.Ytlacmkcmfkakjaa
