/-
  NARROWER THAN 'FOR EVERY INPUT', by the rows' own cells (each row's printed sentence says how): CodecCorrects: laid · CodecDetects: laid · CodecStrays: laid · CodecChips: laid · CodecSame: laid · CodecIndex: laid.
  DERIVED. THE GIVEN ROWS OF THIS SEAT. 6 by the template 'for every input the law returns true; each argument reads behind the call as it read before'; 0 by the template 'total and deterministic' (their statements: YtdjknaafefnlcaaDoorTotals.lean).
  GIVEN WITH THE SEED: the statements are not yours to turn. If you find one false, say at which input.
  Laid BY PROGRAM, IN A SANDBOX (cutbox-rows.mjs): the forced cells as the released guide's own fill.sh prints them over the translation f129266b1a1914c2… (all of the seat's roots in one cut). By AI agents, Wed Nov 11 2026. No macro, syntax, notation, axiom, sorry.
-/
import Derived.Test.YtdjknaafefnlcaaDoorChecked
import GoSem.Claim
import GoSem.ClaimJoined
import GoSem.ClaimMapViews
import Derived.JoinedTies
import Derived.KernelRfl
namespace Go.Proofs.YtdjknaafefnlcaaDoor
/- THE CELL 'sum', in the pinned program and in every row, IS THE sha256 OF THE DUMP (.gsa) THAT YtdjknaafefnlcaaDoorProg.lean LOADS. Nothing in Lean hashes anything: it is a label: what it is worth is what the hold of that sum in a sandbox is worth. -/
noncomputable def Tryd.pinned : Pinned := { name := "ytdjknaafefnlcaadoor", sum := "f129266b1a1914c266aa28001a1ac1c0b4cf9a7d60af5dd89169c415e28a7395", checked := Tryd.checked }
namespace Rows
def none {H : Type} : Left H := { results := [], args := [] }

/- WHAT THE LISTED PACKAGE-LEVEL VARIABLES READ AS WHEN THE CALL BEGINS. Each datum BY PROGRAM (the guide's laid-datum.mjs) off the statement by which the dump's own 'gosem.cut.vars' lays the variable. In a bare row this is a premise. The card (YtdjknaafefnlcaaDoorCards.lean) ties it to the program's text. -/
def laid_math_bits_deBruijn64tab {H : Type} : DataW H := .agg [.lit (.int .u8 0), .lit (.int .u8 1), .lit (.int .u8 56), .lit (.int .u8 2), .lit (.int .u8 57), .lit (.int .u8 49), .lit (.int .u8 28), .lit (.int .u8 3), .lit (.int .u8 61), .lit (.int .u8 58), .lit (.int .u8 42), .lit (.int .u8 50), .lit (.int .u8 38), .lit (.int .u8 29), .lit (.int .u8 17), .lit (.int .u8 4), .lit (.int .u8 62), .lit (.int .u8 47), .lit (.int .u8 59), .lit (.int .u8 36), .lit (.int .u8 45), .lit (.int .u8 43), .lit (.int .u8 51), .lit (.int .u8 22), .lit (.int .u8 53), .lit (.int .u8 39), .lit (.int .u8 33), .lit (.int .u8 30), .lit (.int .u8 24), .lit (.int .u8 18), .lit (.int .u8 12), .lit (.int .u8 5), .lit (.int .u8 63), .lit (.int .u8 55), .lit (.int .u8 48), .lit (.int .u8 27), .lit (.int .u8 60), .lit (.int .u8 41), .lit (.int .u8 37), .lit (.int .u8 16), .lit (.int .u8 46), .lit (.int .u8 35), .lit (.int .u8 44), .lit (.int .u8 21), .lit (.int .u8 52), .lit (.int .u8 32), .lit (.int .u8 23), .lit (.int .u8 11), .lit (.int .u8 54), .lit (.int .u8 26), .lit (.int .u8 40), .lit (.int .u8 15), .lit (.int .u8 34), .lit (.int .u8 20), .lit (.int .u8 31), .lit (.int .u8 10), .lit (.int .u8 25), .lit (.int .u8 14), .lit (.int .u8 19), .lit (.int .u8 9), .lit (.int .u8 13), .lit (.int .u8 8), .lit (.int .u8 7), .lit (.int .u8 6)]

/-- 'cuirasslaw10.CodecCorrects': WHATEVER THE INPUT: true; the input reads as it did. -/
def codecCorrectsSpec : ChangeSpec := { name := "codecCorrects", fn := fun _ => fun
  | [d1, d2, d3, d4] => { results := [.lit (.bool true)], args := [d1, d2, d3, d4] }
  | _ => none }
def codecCorrectsRow : OpenClaim := { program := "ytdjknaafefnlcaadoor", sum := "f129266b1a1914c266aa28001a1ac1c0b4cf9a7d60af5dd89169c415e28a7395", func := "cuirass/cuirasslaw10.CodecCorrects", spec := "codecCorrects", unfollowed := true, recurses := true, named := ["math/bits.deBruijn64tab"], apart := false, laid := [("math/bits.deBruijn64tab", laid_math_bits_deBruijn64tab)] }
def CodecCorrectsSaid : Prop := codecCorrectsRow.holds Tryd.pinned (OpenSpec.ofChange codecCorrectsSpec)

/-- ITS FALSE NEIGHBOUR: 'it returns false'. Refute it at one input. -/
def codecCorrectsWrong : ChangeSpec := { name := "codecCorrects", fn := fun _ => fun
  | [d1, d2, d3, d4] => { results := [.lit (.bool false)], args := [d1, d2, d3, d4] }
  | _ => none }
def CodecCorrectsWrongFalsely : Prop := codecCorrectsRow.holds Tryd.pinned (OpenSpec.ofChange codecCorrectsWrong)

/-- 'cuirasslaw10.CodecDetects': WHATEVER THE INPUT: true; the input reads as it did. -/
def codecDetectsSpec : ChangeSpec := { name := "codecDetects", fn := fun _ => fun
  | [d1, d2, d3, d4, d5] => { results := [.lit (.bool true)], args := [d1, d2, d3, d4, d5] }
  | _ => none }
def codecDetectsRow : OpenClaim := { program := "ytdjknaafefnlcaadoor", sum := "f129266b1a1914c266aa28001a1ac1c0b4cf9a7d60af5dd89169c415e28a7395", func := "cuirass/cuirasslaw10.CodecDetects", spec := "codecDetects", unfollowed := true, recurses := true, named := ["math/bits.deBruijn64tab"], apart := false, laid := [("math/bits.deBruijn64tab", laid_math_bits_deBruijn64tab)] }
def CodecDetectsSaid : Prop := codecDetectsRow.holds Tryd.pinned (OpenSpec.ofChange codecDetectsSpec)

/-- ITS FALSE NEIGHBOUR: 'it returns false'. Refute it at one input. -/
def codecDetectsWrong : ChangeSpec := { name := "codecDetects", fn := fun _ => fun
  | [d1, d2, d3, d4, d5] => { results := [.lit (.bool false)], args := [d1, d2, d3, d4, d5] }
  | _ => none }
def CodecDetectsWrongFalsely : Prop := codecDetectsRow.holds Tryd.pinned (OpenSpec.ofChange codecDetectsWrong)

/-- 'cuirasslaw10.CodecStrays': WHATEVER THE INPUT: true; the input reads as it did. -/
def codecStraysSpec : ChangeSpec := { name := "codecStrays", fn := fun _ => fun
  | [d1, d2, d3, d4] => { results := [.lit (.bool true)], args := [d1, d2, d3, d4] }
  | _ => none }
def codecStraysRow : OpenClaim := { program := "ytdjknaafefnlcaadoor", sum := "f129266b1a1914c266aa28001a1ac1c0b4cf9a7d60af5dd89169c415e28a7395", func := "cuirass/cuirasslaw10.CodecStrays", spec := "codecStrays", unfollowed := true, recurses := true, named := ["math/bits.deBruijn64tab"], apart := false, laid := [("math/bits.deBruijn64tab", laid_math_bits_deBruijn64tab)] }
def CodecStraysSaid : Prop := codecStraysRow.holds Tryd.pinned (OpenSpec.ofChange codecStraysSpec)

/-- ITS FALSE NEIGHBOUR: 'it returns false'. Refute it at one input. -/
def codecStraysWrong : ChangeSpec := { name := "codecStrays", fn := fun _ => fun
  | [d1, d2, d3, d4] => { results := [.lit (.bool false)], args := [d1, d2, d3, d4] }
  | _ => none }
def CodecStraysWrongFalsely : Prop := codecStraysRow.holds Tryd.pinned (OpenSpec.ofChange codecStraysWrong)

/-- 'cuirasslaw10.CodecChips': WHATEVER THE INPUT: true; the input reads as it did. -/
def codecChipsSpec : ChangeSpec := { name := "codecChips", fn := fun _ => fun
  | [d1, d2, d3, d4, d5] => { results := [.lit (.bool true)], args := [d1, d2, d3, d4, d5] }
  | _ => none }
def codecChipsRow : OpenClaim := { program := "ytdjknaafefnlcaadoor", sum := "f129266b1a1914c266aa28001a1ac1c0b4cf9a7d60af5dd89169c415e28a7395", func := "cuirass/cuirasslaw10.CodecChips", spec := "codecChips", unfollowed := true, recurses := true, named := ["math/bits.deBruijn64tab"], apart := false, laid := [("math/bits.deBruijn64tab", laid_math_bits_deBruijn64tab)] }
def CodecChipsSaid : Prop := codecChipsRow.holds Tryd.pinned (OpenSpec.ofChange codecChipsSpec)

/-- ITS FALSE NEIGHBOUR: 'it returns false'. Refute it at one input. -/
def codecChipsWrong : ChangeSpec := { name := "codecChips", fn := fun _ => fun
  | [d1, d2, d3, d4, d5] => { results := [.lit (.bool false)], args := [d1, d2, d3, d4, d5] }
  | _ => none }
def CodecChipsWrongFalsely : Prop := codecChipsRow.holds Tryd.pinned (OpenSpec.ofChange codecChipsWrong)

/-- 'cuirasslaw10.CodecSame': WHATEVER THE INPUT: true; the input reads as it did. -/
def codecSameSpec : ChangeSpec := { name := "codecSame", fn := fun _ => fun
  | [d1, d2, d3, d4, d5, d6] => { results := [.lit (.bool true)], args := [d1, d2, d3, d4, d5, d6] }
  | _ => none }
def codecSameRow : OpenClaim := { program := "ytdjknaafefnlcaadoor", sum := "f129266b1a1914c266aa28001a1ac1c0b4cf9a7d60af5dd89169c415e28a7395", func := "cuirass/cuirasslaw10.CodecSame", spec := "codecSame", unfollowed := true, recurses := true, named := ["math/bits.deBruijn64tab"], apart := false, laid := [("math/bits.deBruijn64tab", laid_math_bits_deBruijn64tab)] }
def CodecSameSaid : Prop := codecSameRow.holds Tryd.pinned (OpenSpec.ofChange codecSameSpec)

/-- ITS FALSE NEIGHBOUR: 'it returns false'. Refute it at one input. -/
def codecSameWrong : ChangeSpec := { name := "codecSame", fn := fun _ => fun
  | [d1, d2, d3, d4, d5, d6] => { results := [.lit (.bool false)], args := [d1, d2, d3, d4, d5, d6] }
  | _ => none }
def CodecSameWrongFalsely : Prop := codecSameRow.holds Tryd.pinned (OpenSpec.ofChange codecSameWrong)

/-- 'cuirasslaw10.CodecIndex': WHATEVER THE INPUT: true; the input reads as it did. -/
def codecIndexSpec : ChangeSpec := { name := "codecIndex", fn := fun _ => fun
  | [d1, d2, d3, d4, d5] => { results := [.lit (.bool true)], args := [d1, d2, d3, d4, d5] }
  | _ => none }
def codecIndexRow : OpenClaim := { program := "ytdjknaafefnlcaadoor", sum := "f129266b1a1914c266aa28001a1ac1c0b4cf9a7d60af5dd89169c415e28a7395", func := "cuirass/cuirasslaw10.CodecIndex", spec := "codecIndex", unfollowed := true, recurses := true, named := ["math/bits.deBruijn64tab"], apart := false, laid := [("math/bits.deBruijn64tab", laid_math_bits_deBruijn64tab)] }
def CodecIndexSaid : Prop := codecIndexRow.holds Tryd.pinned (OpenSpec.ofChange codecIndexSpec)

/-- ITS FALSE NEIGHBOUR: 'it returns false'. Refute it at one input. -/
def codecIndexWrong : ChangeSpec := { name := "codecIndex", fn := fun _ => fun
  | [d1, d2, d3, d4, d5] => { results := [.lit (.bool false)], args := [d1, d2, d3, d4, d5] }
  | _ => none }
def CodecIndexWrongFalsely : Prop := codecIndexRow.holds Tryd.pinned (OpenSpec.ofChange codecIndexWrong)

/- THE SECOND FORM. 'bulk': how many values and letters a reading holds, each counted each time it is reached (what is shared counts as often as it is met; a slice's spare places count too). A statement '..UptoSaid' is the law's where the arguments, and the package variables that the reading takes, are together of bulk at most 1048576: NARROWER than '..Said'. Prove '..Said' where nothing that the law and all that it calls make is longer than what came in: it says more and counts as full. Else prove '..UptoSaid'. A law counts once. -/
mutual
def uptoBulk {H : Type} : DataW H → Nat
  | .lit (.string bytes) => bytes.length + 1
  | .lit _ => 1
  | .nil => 1
  | .ptr d => uptoBulk d + 1
  | .slice elems spare => uptoBulkAll elems + uptoBulkAll spare + 1
  | .agg parts => uptoBulkAll parts + 1
  | .iface _ d => uptoBulk d + 1
  | .map entries => uptoBulkEntries entries + 1
  | .held _ => 1
def uptoBulkAll {H : Type} : List (DataW H) → Nat
  | [] => 0
  | d :: r => uptoBulk d + uptoBulkAll r
def uptoBulkEntries {H : Type} : List (Lit × DataW H) → Nat
  | [] => 0
  | x :: r => uptoBulkEntry x + uptoBulkEntries r
def uptoBulkEntry {H : Type} : Lit × DataW H → Nat
  | (.string bytes, d) => bytes.length + uptoBulk d + 1
  | (_, d) => uptoBulk d + 1
 end
def uptoSmall : (H : Type) → List (DataW H) → Bool := fun _ ds => decide (uptoBulkAll ds ≤ 1048576)
def OpenSpec.upto (s : _root_.Go.ChangeSpec) : _root_.Go.OpenSpec := { _root_.Go.OpenSpec.ofChange s with cond := some uptoSmall }

/-- 'cuirasslaw10.CodecCorrects', WHERE WHAT IT READS IS OF BULK AT MOST 1048576: true; the input reads as it did. -/
def codecCorrectsUptoRow : OpenClaim := { program := "ytdjknaafefnlcaadoor", sum := "f129266b1a1914c266aa28001a1ac1c0b4cf9a7d60af5dd89169c415e28a7395", func := "cuirass/cuirasslaw10.CodecCorrects", spec := "codecCorrects", unfollowed := true, recurses := true, named := ["math/bits.deBruijn64tab"], apart := false, laid := [("math/bits.deBruijn64tab", laid_math_bits_deBruijn64tab)], narrowed := true }
def CodecCorrectsUptoSaid : Prop := codecCorrectsUptoRow.holds Tryd.pinned (OpenSpec.upto codecCorrectsSpec)

/-- 'cuirasslaw10.CodecDetects', WHERE WHAT IT READS IS OF BULK AT MOST 1048576: true; the input reads as it did. -/
def codecDetectsUptoRow : OpenClaim := { program := "ytdjknaafefnlcaadoor", sum := "f129266b1a1914c266aa28001a1ac1c0b4cf9a7d60af5dd89169c415e28a7395", func := "cuirass/cuirasslaw10.CodecDetects", spec := "codecDetects", unfollowed := true, recurses := true, named := ["math/bits.deBruijn64tab"], apart := false, laid := [("math/bits.deBruijn64tab", laid_math_bits_deBruijn64tab)], narrowed := true }
def CodecDetectsUptoSaid : Prop := codecDetectsUptoRow.holds Tryd.pinned (OpenSpec.upto codecDetectsSpec)

/-- 'cuirasslaw10.CodecStrays', WHERE WHAT IT READS IS OF BULK AT MOST 1048576: true; the input reads as it did. -/
def codecStraysUptoRow : OpenClaim := { program := "ytdjknaafefnlcaadoor", sum := "f129266b1a1914c266aa28001a1ac1c0b4cf9a7d60af5dd89169c415e28a7395", func := "cuirass/cuirasslaw10.CodecStrays", spec := "codecStrays", unfollowed := true, recurses := true, named := ["math/bits.deBruijn64tab"], apart := false, laid := [("math/bits.deBruijn64tab", laid_math_bits_deBruijn64tab)], narrowed := true }
def CodecStraysUptoSaid : Prop := codecStraysUptoRow.holds Tryd.pinned (OpenSpec.upto codecStraysSpec)

/-- 'cuirasslaw10.CodecChips', WHERE WHAT IT READS IS OF BULK AT MOST 1048576: true; the input reads as it did. -/
def codecChipsUptoRow : OpenClaim := { program := "ytdjknaafefnlcaadoor", sum := "f129266b1a1914c266aa28001a1ac1c0b4cf9a7d60af5dd89169c415e28a7395", func := "cuirass/cuirasslaw10.CodecChips", spec := "codecChips", unfollowed := true, recurses := true, named := ["math/bits.deBruijn64tab"], apart := false, laid := [("math/bits.deBruijn64tab", laid_math_bits_deBruijn64tab)], narrowed := true }
def CodecChipsUptoSaid : Prop := codecChipsUptoRow.holds Tryd.pinned (OpenSpec.upto codecChipsSpec)

/-- 'cuirasslaw10.CodecSame', WHERE WHAT IT READS IS OF BULK AT MOST 1048576: true; the input reads as it did. -/
def codecSameUptoRow : OpenClaim := { program := "ytdjknaafefnlcaadoor", sum := "f129266b1a1914c266aa28001a1ac1c0b4cf9a7d60af5dd89169c415e28a7395", func := "cuirass/cuirasslaw10.CodecSame", spec := "codecSame", unfollowed := true, recurses := true, named := ["math/bits.deBruijn64tab"], apart := false, laid := [("math/bits.deBruijn64tab", laid_math_bits_deBruijn64tab)], narrowed := true }
def CodecSameUptoSaid : Prop := codecSameUptoRow.holds Tryd.pinned (OpenSpec.upto codecSameSpec)

/-- 'cuirasslaw10.CodecIndex', WHERE WHAT IT READS IS OF BULK AT MOST 1048576: true; the input reads as it did. -/
def codecIndexUptoRow : OpenClaim := { program := "ytdjknaafefnlcaadoor", sum := "f129266b1a1914c266aa28001a1ac1c0b4cf9a7d60af5dd89169c415e28a7395", func := "cuirass/cuirasslaw10.CodecIndex", spec := "codecIndex", unfollowed := true, recurses := true, named := ["math/bits.deBruijn64tab"], apart := false, laid := [("math/bits.deBruijn64tab", laid_math_bits_deBruijn64tab)], narrowed := true }
def CodecIndexUptoSaid : Prop := codecIndexUptoRow.holds Tryd.pinned (OpenSpec.upto codecIndexSpec)

end Rows
end Go.Proofs.YtdjknaafefnlcaaDoor
