/-
  Ones: the lowest one of a word, by math/bits' table; the iterator that tells the ones of a word; the document's bit.
-/
import Derived.Test.YtcpjmfemgdgplaaBitW4
import Derived.Test.YtcpjmfemgdgplaaBitMath2
import Derived.Test.YtcpjmfemgdgplaaDoorTab
import Derived.Test.YtcpjmfemgdgplaaQuiet
namespace Go.Proofs.Ytcpjmfemgdgplaa
open Go.RowKit Go.Shelf
open Bm (wt wtK lef)
attribute [local go_sem] Oper.semAt_some



end Go.Proofs.Ytcpjmfemgdgplaa
