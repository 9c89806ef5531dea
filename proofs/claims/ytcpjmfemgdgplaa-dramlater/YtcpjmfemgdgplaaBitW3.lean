/-
  Choose: which arguments it answers, and what it hands back.
-/
import Derived.Test.YtcpjmfemgdgplaaBitW2
namespace Go.Proofs.Ytcpjmfemgdgplaa
open Go.RowKit Go.Shelf
open Bm (wt wtK)
attribute [local go_sem] Oper.semAt_some



end Go.Proofs.Ytcpjmfemgdgplaa
