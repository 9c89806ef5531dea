/-
  NARROWER THAN 'FOR EVERY INPUT', by the rows' own cells (each row's printed sentence says how): HsiaoColumns: laid · HsiaoChecks: laid · HsiaoCorrects: laid · HsiaoDetects: laid · HsiaoMarks: laid · HsiaoLinear: laid · HsiaoWeights: laid.
  DERIVED. THE GIVEN ROWS OF THIS SEAT. 7 by the template 'for every input the law returns true; each argument reads behind the call as it read before'; 0 by the template 'total and deterministic' (their statements: YtcabfhndcckjdaaDoorTotals.lean).
  GIVEN WITH THE SEED: the statements are not yours to turn. If you find one false, say at which input.
  Laid BY PROGRAM, IN A SANDBOX (cutbox-rows.mjs): the forced cells as the released guide's own fill.sh prints them over the translation 5b3cef632b8ff8d6… (all of the seat's roots in one cut). By AI agents, Wed Nov 11 2026. No macro, syntax, notation, axiom, sorry.
-/
import Derived.Test.YtcabfhndcckjdaaDoorChecked
import GoSem.Claim
import GoSem.ClaimJoined
import GoSem.ClaimMapViews
import Derived.JoinedTies
import Derived.KernelRfl
namespace Go.Proofs.YtcabfhndcckjdaaDoor
/- THE CELL 'sum', in the pinned program and in every row, IS THE sha256 OF THE DUMP (.gsa) THAT YtcabfhndcckjdaaDoorProg.lean LOADS. Nothing in Lean hashes anything: it is a label: what it is worth is what the hold of that sum in a sandbox is worth. -/
noncomputable def Tryd.pinned : Pinned := { name := "ytcabfhndcckjdaadoor", sum := "5b3cef632b8ff8d62f316cc376e19010dba52d38d0538fc8f0a0a46a65bb7aab", checked := Tryd.checked }
namespace Rows
def none {H : Type} : Left H := { results := [], args := [] }

/- WHAT THE LISTED PACKAGE-LEVEL VARIABLES READ AS WHEN THE CALL BEGINS. Each datum BY PROGRAM (the guide's laid-datum.mjs) off the statement by which the dump's own 'gosem.cut.vars' lays the variable. In a bare row this is a premise. The card (YtcabfhndcckjdaaDoorCards.lean) ties it to the program's text. -/
def laid_math_bits_deBruijn64tab {H : Type} : DataW H := .agg [.lit (.int .u8 0), .lit (.int .u8 1), .lit (.int .u8 56), .lit (.int .u8 2), .lit (.int .u8 57), .lit (.int .u8 49), .lit (.int .u8 28), .lit (.int .u8 3), .lit (.int .u8 61), .lit (.int .u8 58), .lit (.int .u8 42), .lit (.int .u8 50), .lit (.int .u8 38), .lit (.int .u8 29), .lit (.int .u8 17), .lit (.int .u8 4), .lit (.int .u8 62), .lit (.int .u8 47), .lit (.int .u8 59), .lit (.int .u8 36), .lit (.int .u8 45), .lit (.int .u8 43), .lit (.int .u8 51), .lit (.int .u8 22), .lit (.int .u8 53), .lit (.int .u8 39), .lit (.int .u8 33), .lit (.int .u8 30), .lit (.int .u8 24), .lit (.int .u8 18), .lit (.int .u8 12), .lit (.int .u8 5), .lit (.int .u8 63), .lit (.int .u8 55), .lit (.int .u8 48), .lit (.int .u8 27), .lit (.int .u8 60), .lit (.int .u8 41), .lit (.int .u8 37), .lit (.int .u8 16), .lit (.int .u8 46), .lit (.int .u8 35), .lit (.int .u8 44), .lit (.int .u8 21), .lit (.int .u8 52), .lit (.int .u8 32), .lit (.int .u8 23), .lit (.int .u8 11), .lit (.int .u8 54), .lit (.int .u8 26), .lit (.int .u8 40), .lit (.int .u8 15), .lit (.int .u8 34), .lit (.int .u8 20), .lit (.int .u8 31), .lit (.int .u8 10), .lit (.int .u8 25), .lit (.int .u8 14), .lit (.int .u8 19), .lit (.int .u8 9), .lit (.int .u8 13), .lit (.int .u8 8), .lit (.int .u8 7), .lit (.int .u8 6)]

/-- 'cuirasslaw04.HsiaoColumns': WHATEVER THE INPUT: true; the input reads as it did. -/
def hsiaoColumnsSpec : ChangeSpec := { name := "hsiaoColumns", fn := fun _ => fun
  | [d1, d2] => { results := [.lit (.bool true)], args := [d1, d2] }
  | _ => none }
def hsiaoColumnsRow : OpenClaim := { program := "ytcabfhndcckjdaadoor", sum := "5b3cef632b8ff8d62f316cc376e19010dba52d38d0538fc8f0a0a46a65bb7aab", func := "cuirass/cuirasslaw04.HsiaoColumns", spec := "hsiaoColumns", unfollowed := true, recurses := true, named := ["math/bits.deBruijn64tab"], apart := false, laid := [("math/bits.deBruijn64tab", laid_math_bits_deBruijn64tab)] }
def HsiaoColumnsSaid : Prop := hsiaoColumnsRow.holds Tryd.pinned (OpenSpec.ofChange hsiaoColumnsSpec)

/-- ITS FALSE NEIGHBOUR: 'it returns false'. Refute it at one input. -/
def hsiaoColumnsWrong : ChangeSpec := { name := "hsiaoColumns", fn := fun _ => fun
  | [d1, d2] => { results := [.lit (.bool false)], args := [d1, d2] }
  | _ => none }
def HsiaoColumnsWrongFalsely : Prop := hsiaoColumnsRow.holds Tryd.pinned (OpenSpec.ofChange hsiaoColumnsWrong)

/-- 'cuirasslaw04.HsiaoChecks': WHATEVER THE INPUT: true; the input reads as it did. -/
def hsiaoChecksSpec : ChangeSpec := { name := "hsiaoChecks", fn := fun _ => fun
  | [d1, d2, d3, d4] => { results := [.lit (.bool true)], args := [d1, d2, d3, d4] }
  | _ => none }
def hsiaoChecksRow : OpenClaim := { program := "ytcabfhndcckjdaadoor", sum := "5b3cef632b8ff8d62f316cc376e19010dba52d38d0538fc8f0a0a46a65bb7aab", func := "cuirass/cuirasslaw04.HsiaoChecks", spec := "hsiaoChecks", unfollowed := true, recurses := true, named := ["math/bits.deBruijn64tab"], apart := false, laid := [("math/bits.deBruijn64tab", laid_math_bits_deBruijn64tab)] }
def HsiaoChecksSaid : Prop := hsiaoChecksRow.holds Tryd.pinned (OpenSpec.ofChange hsiaoChecksSpec)

/-- ITS FALSE NEIGHBOUR: 'it returns false'. Refute it at one input. -/
def hsiaoChecksWrong : ChangeSpec := { name := "hsiaoChecks", fn := fun _ => fun
  | [d1, d2, d3, d4] => { results := [.lit (.bool false)], args := [d1, d2, d3, d4] }
  | _ => none }
def HsiaoChecksWrongFalsely : Prop := hsiaoChecksRow.holds Tryd.pinned (OpenSpec.ofChange hsiaoChecksWrong)

/-- 'cuirasslaw04.HsiaoCorrects': WHATEVER THE INPUT: true; the input reads as it did. -/
def hsiaoCorrectsSpec : ChangeSpec := { name := "hsiaoCorrects", fn := fun _ => fun
  | [d1, d2, d3] => { results := [.lit (.bool true)], args := [d1, d2, d3] }
  | _ => none }
def hsiaoCorrectsRow : OpenClaim := { program := "ytcabfhndcckjdaadoor", sum := "5b3cef632b8ff8d62f316cc376e19010dba52d38d0538fc8f0a0a46a65bb7aab", func := "cuirass/cuirasslaw04.HsiaoCorrects", spec := "hsiaoCorrects", unfollowed := true, recurses := true, named := ["math/bits.deBruijn64tab"], apart := false, laid := [("math/bits.deBruijn64tab", laid_math_bits_deBruijn64tab)] }
def HsiaoCorrectsSaid : Prop := hsiaoCorrectsRow.holds Tryd.pinned (OpenSpec.ofChange hsiaoCorrectsSpec)

/-- ITS FALSE NEIGHBOUR: 'it returns false'. Refute it at one input. -/
def hsiaoCorrectsWrong : ChangeSpec := { name := "hsiaoCorrects", fn := fun _ => fun
  | [d1, d2, d3] => { results := [.lit (.bool false)], args := [d1, d2, d3] }
  | _ => none }
def HsiaoCorrectsWrongFalsely : Prop := hsiaoCorrectsRow.holds Tryd.pinned (OpenSpec.ofChange hsiaoCorrectsWrong)

/-- 'cuirasslaw04.HsiaoDetects': WHATEVER THE INPUT: true; the input reads as it did. -/
def hsiaoDetectsSpec : ChangeSpec := { name := "hsiaoDetects", fn := fun _ => fun
  | [d1, d2, d3, d4, d5, d6] => { results := [.lit (.bool true)], args := [d1, d2, d3, d4, d5, d6] }
  | _ => none }
def hsiaoDetectsRow : OpenClaim := { program := "ytcabfhndcckjdaadoor", sum := "5b3cef632b8ff8d62f316cc376e19010dba52d38d0538fc8f0a0a46a65bb7aab", func := "cuirass/cuirasslaw04.HsiaoDetects", spec := "hsiaoDetects", unfollowed := true, recurses := true, named := ["math/bits.deBruijn64tab"], apart := false, laid := [("math/bits.deBruijn64tab", laid_math_bits_deBruijn64tab)] }
def HsiaoDetectsSaid : Prop := hsiaoDetectsRow.holds Tryd.pinned (OpenSpec.ofChange hsiaoDetectsSpec)

/-- ITS FALSE NEIGHBOUR: 'it returns false'. Refute it at one input. -/
def hsiaoDetectsWrong : ChangeSpec := { name := "hsiaoDetects", fn := fun _ => fun
  | [d1, d2, d3, d4, d5, d6] => { results := [.lit (.bool false)], args := [d1, d2, d3, d4, d5, d6] }
  | _ => none }
def HsiaoDetectsWrongFalsely : Prop := hsiaoDetectsRow.holds Tryd.pinned (OpenSpec.ofChange hsiaoDetectsWrong)

/-- 'cuirasslaw04.HsiaoMarks': WHATEVER THE INPUT: true; the input reads as it did. -/
def hsiaoMarksSpec : ChangeSpec := { name := "hsiaoMarks", fn := fun _ => fun
  | [d1, d2, d3] => { results := [.lit (.bool true)], args := [d1, d2, d3] }
  | _ => none }
def hsiaoMarksRow : OpenClaim := { program := "ytcabfhndcckjdaadoor", sum := "5b3cef632b8ff8d62f316cc376e19010dba52d38d0538fc8f0a0a46a65bb7aab", func := "cuirass/cuirasslaw04.HsiaoMarks", spec := "hsiaoMarks", unfollowed := true, recurses := true, named := ["math/bits.deBruijn64tab"], apart := false, laid := [("math/bits.deBruijn64tab", laid_math_bits_deBruijn64tab)] }
def HsiaoMarksSaid : Prop := hsiaoMarksRow.holds Tryd.pinned (OpenSpec.ofChange hsiaoMarksSpec)

/-- ITS FALSE NEIGHBOUR: 'it returns false'. Refute it at one input. -/
def hsiaoMarksWrong : ChangeSpec := { name := "hsiaoMarks", fn := fun _ => fun
  | [d1, d2, d3] => { results := [.lit (.bool false)], args := [d1, d2, d3] }
  | _ => none }
def HsiaoMarksWrongFalsely : Prop := hsiaoMarksRow.holds Tryd.pinned (OpenSpec.ofChange hsiaoMarksWrong)

/-- 'cuirasslaw04.HsiaoLinear': WHATEVER THE INPUT: true; the input reads as it did. -/
def hsiaoLinearSpec : ChangeSpec := { name := "hsiaoLinear", fn := fun _ => fun
  | [d1, d2, d3, d4] => { results := [.lit (.bool true)], args := [d1, d2, d3, d4] }
  | _ => none }
def hsiaoLinearRow : OpenClaim := { program := "ytcabfhndcckjdaadoor", sum := "5b3cef632b8ff8d62f316cc376e19010dba52d38d0538fc8f0a0a46a65bb7aab", func := "cuirass/cuirasslaw04.HsiaoLinear", spec := "hsiaoLinear", unfollowed := true, recurses := true, named := ["math/bits.deBruijn64tab"], apart := false, laid := [("math/bits.deBruijn64tab", laid_math_bits_deBruijn64tab)] }
def HsiaoLinearSaid : Prop := hsiaoLinearRow.holds Tryd.pinned (OpenSpec.ofChange hsiaoLinearSpec)

/-- ITS FALSE NEIGHBOUR: 'it returns false'. Refute it at one input. -/
def hsiaoLinearWrong : ChangeSpec := { name := "hsiaoLinear", fn := fun _ => fun
  | [d1, d2, d3, d4] => { results := [.lit (.bool false)], args := [d1, d2, d3, d4] }
  | _ => none }
def HsiaoLinearWrongFalsely : Prop := hsiaoLinearRow.holds Tryd.pinned (OpenSpec.ofChange hsiaoLinearWrong)

/-- 'cuirasslaw04.HsiaoWeights': WHATEVER THE INPUT: true; the input reads as it did. -/
def hsiaoWeightsSpec : ChangeSpec := { name := "hsiaoWeights", fn := fun _ => fun
  | [d] => { results := [.lit (.bool true)], args := [d] }
  | _ => none }
def hsiaoWeightsRow : OpenClaim := { program := "ytcabfhndcckjdaadoor", sum := "5b3cef632b8ff8d62f316cc376e19010dba52d38d0538fc8f0a0a46a65bb7aab", func := "cuirass/cuirasslaw04.HsiaoWeights", spec := "hsiaoWeights", unfollowed := true, recurses := true, named := ["math/bits.deBruijn64tab"], apart := false, laid := [("math/bits.deBruijn64tab", laid_math_bits_deBruijn64tab)] }
def HsiaoWeightsSaid : Prop := hsiaoWeightsRow.holds Tryd.pinned (OpenSpec.ofChange hsiaoWeightsSpec)

/-- ITS FALSE NEIGHBOUR: 'it returns false'. Refute it at one input. -/
def hsiaoWeightsWrong : ChangeSpec := { name := "hsiaoWeights", fn := fun _ => fun
  | [d] => { results := [.lit (.bool false)], args := [d] }
  | _ => none }
def HsiaoWeightsWrongFalsely : Prop := hsiaoWeightsRow.holds Tryd.pinned (OpenSpec.ofChange hsiaoWeightsWrong)

/- THE SECOND FORM. 'bulk': how many values and letters a reading holds, each counted each time it is reached (what is shared counts as often as it is met; a slice's spare places count too). A statement '..UptoSaid' is the law's where the arguments, and the package variables that the reading takes, are together of bulk at most 1048576: NARROWER than '..Said'. Prove '..Said' where nothing that the law and all that it calls make is longer than what came in: it says more and counts as full. Else prove '..UptoSaid'. A law counts once. -/
mutual
def uptoBulk {H : Type} : DataW H → Nat
  | .lit (.string bytes) => bytes.length + 1
  | .lit _ => 1
  | .nil => 1
  | .ptr d => uptoBulk d + 1
  | .slice elems spare => uptoBulkAll elems + uptoBulkAll spare + 1
  | .agg parts => uptoBulkAll parts + 1
  | .iface _ d => uptoBulk d + 1
  | .map entries => uptoBulkEntries entries + 1
  | .held _ => 1
def uptoBulkAll {H : Type} : List (DataW H) → Nat
  | [] => 0
  | d :: r => uptoBulk d + uptoBulkAll r
def uptoBulkEntries {H : Type} : List (Lit × DataW H) → Nat
  | [] => 0
  | x :: r => uptoBulkEntry x + uptoBulkEntries r
def uptoBulkEntry {H : Type} : Lit × DataW H → Nat
  | (.string bytes, d) => bytes.length + uptoBulk d + 1
  | (_, d) => uptoBulk d + 1
 end
def uptoSmall : (H : Type) → List (DataW H) → Bool := fun _ ds => decide (uptoBulkAll ds ≤ 1048576)
def OpenSpec.upto (s : _root_.Go.ChangeSpec) : _root_.Go.OpenSpec := { _root_.Go.OpenSpec.ofChange s with cond := some uptoSmall }

/-- 'cuirasslaw04.HsiaoColumns', WHERE WHAT IT READS IS OF BULK AT MOST 1048576: true; the input reads as it did. -/
def hsiaoColumnsUptoRow : OpenClaim := { program := "ytcabfhndcckjdaadoor", sum := "5b3cef632b8ff8d62f316cc376e19010dba52d38d0538fc8f0a0a46a65bb7aab", func := "cuirass/cuirasslaw04.HsiaoColumns", spec := "hsiaoColumns", unfollowed := true, recurses := true, named := ["math/bits.deBruijn64tab"], apart := false, laid := [("math/bits.deBruijn64tab", laid_math_bits_deBruijn64tab)], narrowed := true }
def HsiaoColumnsUptoSaid : Prop := hsiaoColumnsUptoRow.holds Tryd.pinned (OpenSpec.upto hsiaoColumnsSpec)

/-- 'cuirasslaw04.HsiaoChecks', WHERE WHAT IT READS IS OF BULK AT MOST 1048576: true; the input reads as it did. -/
def hsiaoChecksUptoRow : OpenClaim := { program := "ytcabfhndcckjdaadoor", sum := "5b3cef632b8ff8d62f316cc376e19010dba52d38d0538fc8f0a0a46a65bb7aab", func := "cuirass/cuirasslaw04.HsiaoChecks", spec := "hsiaoChecks", unfollowed := true, recurses := true, named := ["math/bits.deBruijn64tab"], apart := false, laid := [("math/bits.deBruijn64tab", laid_math_bits_deBruijn64tab)], narrowed := true }
def HsiaoChecksUptoSaid : Prop := hsiaoChecksUptoRow.holds Tryd.pinned (OpenSpec.upto hsiaoChecksSpec)

/-- 'cuirasslaw04.HsiaoCorrects', WHERE WHAT IT READS IS OF BULK AT MOST 1048576: true; the input reads as it did. -/
def hsiaoCorrectsUptoRow : OpenClaim := { program := "ytcabfhndcckjdaadoor", sum := "5b3cef632b8ff8d62f316cc376e19010dba52d38d0538fc8f0a0a46a65bb7aab", func := "cuirass/cuirasslaw04.HsiaoCorrects", spec := "hsiaoCorrects", unfollowed := true, recurses := true, named := ["math/bits.deBruijn64tab"], apart := false, laid := [("math/bits.deBruijn64tab", laid_math_bits_deBruijn64tab)], narrowed := true }
def HsiaoCorrectsUptoSaid : Prop := hsiaoCorrectsUptoRow.holds Tryd.pinned (OpenSpec.upto hsiaoCorrectsSpec)

/-- 'cuirasslaw04.HsiaoDetects', WHERE WHAT IT READS IS OF BULK AT MOST 1048576: true; the input reads as it did. -/
def hsiaoDetectsUptoRow : OpenClaim := { program := "ytcabfhndcckjdaadoor", sum := "5b3cef632b8ff8d62f316cc376e19010dba52d38d0538fc8f0a0a46a65bb7aab", func := "cuirass/cuirasslaw04.HsiaoDetects", spec := "hsiaoDetects", unfollowed := true, recurses := true, named := ["math/bits.deBruijn64tab"], apart := false, laid := [("math/bits.deBruijn64tab", laid_math_bits_deBruijn64tab)], narrowed := true }
def HsiaoDetectsUptoSaid : Prop := hsiaoDetectsUptoRow.holds Tryd.pinned (OpenSpec.upto hsiaoDetectsSpec)

/-- 'cuirasslaw04.HsiaoMarks', WHERE WHAT IT READS IS OF BULK AT MOST 1048576: true; the input reads as it did. -/
def hsiaoMarksUptoRow : OpenClaim := { program := "ytcabfhndcckjdaadoor", sum := "5b3cef632b8ff8d62f316cc376e19010dba52d38d0538fc8f0a0a46a65bb7aab", func := "cuirass/cuirasslaw04.HsiaoMarks", spec := "hsiaoMarks", unfollowed := true, recurses := true, named := ["math/bits.deBruijn64tab"], apart := false, laid := [("math/bits.deBruijn64tab", laid_math_bits_deBruijn64tab)], narrowed := true }
def HsiaoMarksUptoSaid : Prop := hsiaoMarksUptoRow.holds Tryd.pinned (OpenSpec.upto hsiaoMarksSpec)

/-- 'cuirasslaw04.HsiaoLinear', WHERE WHAT IT READS IS OF BULK AT MOST 1048576: true; the input reads as it did. -/
def hsiaoLinearUptoRow : OpenClaim := { program := "ytcabfhndcckjdaadoor", sum := "5b3cef632b8ff8d62f316cc376e19010dba52d38d0538fc8f0a0a46a65bb7aab", func := "cuirass/cuirasslaw04.HsiaoLinear", spec := "hsiaoLinear", unfollowed := true, recurses := true, named := ["math/bits.deBruijn64tab"], apart := false, laid := [("math/bits.deBruijn64tab", laid_math_bits_deBruijn64tab)], narrowed := true }
def HsiaoLinearUptoSaid : Prop := hsiaoLinearUptoRow.holds Tryd.pinned (OpenSpec.upto hsiaoLinearSpec)

/-- 'cuirasslaw04.HsiaoWeights', WHERE WHAT IT READS IS OF BULK AT MOST 1048576: true; the input reads as it did. -/
def hsiaoWeightsUptoRow : OpenClaim := { program := "ytcabfhndcckjdaadoor", sum := "5b3cef632b8ff8d62f316cc376e19010dba52d38d0538fc8f0a0a46a65bb7aab", func := "cuirass/cuirasslaw04.HsiaoWeights", spec := "hsiaoWeights", unfollowed := true, recurses := true, named := ["math/bits.deBruijn64tab"], apart := false, laid := [("math/bits.deBruijn64tab", laid_math_bits_deBruijn64tab)], narrowed := true }
def HsiaoWeightsUptoSaid : Prop := hsiaoWeightsUptoRow.holds Tryd.pinned (OpenSpec.upto hsiaoWeightsSpec)

end Rows
end Go.Proofs.YtcabfhndcckjdaaDoor
