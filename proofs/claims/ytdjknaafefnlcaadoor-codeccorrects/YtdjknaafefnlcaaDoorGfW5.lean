/-
  The walks of Dot, and of the document's sum of products.
-/
import Derived.Test.YtdjknaafefnlcaaDoorGfW4
import Derived.Test.YtdjknaafefnlcaaDoorBytes
namespace Go.Proofs.YtdjknaafefnlcaaDoor
open Go.RowKit
open Gf (eI lI gI dI pI)

/-- the sum of the first k products -/
def dotN (la lb : List Int) : Nat → Int
  | 0 => 0
  | k + 1 => bits .xor .u8 (dotN la lb k) (gI (la[k]?.getD 0) (lb[k]?.getD 0))
theorem dotN_bd (la lb : List Int) (k : Nat) : 0 ≤ dotN la lb k ∧ dotN la lb k < 256 := by
  induction k with
  | zero => simp [dotN]
  | succ k ih =>
    have h := Gf.gI_bd (la[k]?.getD 0) (lb[k]?.getD 0)
    exact Gf.xor8_bd _ _ ih.1 ih.2 h.1 h.2
def dotI (la lb : List Int) : Int := dotN la lb (min la.length lb.length)



end Go.Proofs.YtdjknaafefnlcaaDoor
