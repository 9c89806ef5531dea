/-
  Choose: which arguments it answers, and what it hands back.
-/
import Derived.Test.YtlacmkcmfkakjaaBitW2
namespace Go.Proofs.Ytlacmkcmfkakjaa
open Go.RowKit Go.Shelf
open Bm (wt wtK)
attribute [local go_sem] Oper.semAt_some



end Go.Proofs.Ytlacmkcmfkakjaa
