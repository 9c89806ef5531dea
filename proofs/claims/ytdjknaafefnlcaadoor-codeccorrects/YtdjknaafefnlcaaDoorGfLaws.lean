/-
  The walks of the laws GfMuls and GfField, out of the contracts.
-/
import Derived.Test.YtdjknaafefnlcaaDoorGfW3
import Derived.OpenShut
namespace Go.Proofs.YtdjknaafefnlcaaDoor
open Go.RowKit
open Gf (eI lI gI dI pI)

theorem Grown.drewN {W w' : World} (h : Grown W w') (k : Nat) : Grown W (w'.drewN k) := h
theorem grown_new (w : World) (c : Array Value) (t : TypeId) : Grown w (w.alloc (.cells c t)) := (Grown.refl w).alloc _ _






end Go.Proofs.YtdjknaafefnlcaaDoor
