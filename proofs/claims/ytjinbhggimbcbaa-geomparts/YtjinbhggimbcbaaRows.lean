/-
  No cell of these rows narrows 'for every input' (looked for: loops, veiled, ifaces, maps, wideKeys, modest, calm, conditions, laid).
  DERIVED. THE GIVEN ROWS OF THIS SEAT. 5 by the template 'for every input the law returns true; each argument reads behind the call as it read before'; 0 by the template 'total and deterministic' (their statements: YtjinbhggimbcbaaTotals.lean).
  GIVEN WITH THE SEED: the statements are not yours to turn. If you find one false, say at which input.
  Laid BY PROGRAM, IN A SANDBOX (cutbox-rows.mjs): the forced cells as the released guide's own fill.sh prints them over the translation ce6689bdc72b64bd… (all of the seat's roots in one cut). By AI agents, Wed Nov 11 2026. No macro, syntax, notation, axiom, sorry.
-/
import Derived.Test.YtjinbhggimbcbaaChecked
import GoSem.Claim
import GoSem.ClaimJoined
import GoSem.ClaimMapViews
import Derived.JoinedTies
import Derived.KernelRfl
namespace Go.Proofs.Ytjinbhggimbcbaa
/- THE CELL 'sum', in the pinned program and in every row, IS THE sha256 OF THE DUMP (.gsa) THAT YtjinbhggimbcbaaProg.lean LOADS. Nothing in Lean hashes anything: it is a label: what it is worth is what the hold of that sum in a sandbox is worth. -/
noncomputable def Try.pinned : Pinned := { name := "ytjinbhggimbcbaa", sum := "ce6689bdc72b64bd6410ac1aaafc73b76b09ff1e0527c6365e30f5138235db13", checked := Try.checked }
namespace Rows
def none {H : Type} : Left H := { results := [], args := [] }

/-- 'cuirasslaw07.GeomPlaces': WHATEVER THE INPUT: true; the input reads as it did. -/
def geomPlacesSpec : ChangeSpec := { name := "geomPlaces", fn := fun _ => fun
  | [d1, d2, d3] => { results := [.lit (.bool true)], args := [d1, d2, d3] }
  | _ => none }
def geomPlacesRow : OpenClaim := { program := "ytjinbhggimbcbaa", sum := "ce6689bdc72b64bd6410ac1aaafc73b76b09ff1e0527c6365e30f5138235db13", func := "cuirass/cuirasslaw07.GeomPlaces", spec := "geomPlaces", apart := false }
def GeomPlacesSaid : Prop := geomPlacesRow.holds Try.pinned (OpenSpec.ofChange geomPlacesSpec)

/-- ITS FALSE NEIGHBOUR: 'it returns false'. Refute it at one input. -/
def geomPlacesWrong : ChangeSpec := { name := "geomPlaces", fn := fun _ => fun
  | [d1, d2, d3] => { results := [.lit (.bool false)], args := [d1, d2, d3] }
  | _ => none }
def GeomPlacesWrongFalsely : Prop := geomPlacesRow.holds Try.pinned (OpenSpec.ofChange geomPlacesWrong)

/-- 'cuirasslaw07.GeomWalks': WHATEVER THE INPUT: true; the input reads as it did. -/
def geomWalksSpec : ChangeSpec := { name := "geomWalks", fn := fun _ => fun
  | [d1, d2, d3, d4] => { results := [.lit (.bool true)], args := [d1, d2, d3, d4] }
  | _ => none }
def geomWalksRow : OpenClaim := { program := "ytjinbhggimbcbaa", sum := "ce6689bdc72b64bd6410ac1aaafc73b76b09ff1e0527c6365e30f5138235db13", func := "cuirass/cuirasslaw07.GeomWalks", spec := "geomWalks", unfollowed := true, recurses := true, apart := false }
def GeomWalksSaid : Prop := geomWalksRow.holds Try.pinned (OpenSpec.ofChange geomWalksSpec)

/-- ITS FALSE NEIGHBOUR: 'it returns false'. Refute it at one input. -/
def geomWalksWrong : ChangeSpec := { name := "geomWalks", fn := fun _ => fun
  | [d1, d2, d3, d4] => { results := [.lit (.bool false)], args := [d1, d2, d3, d4] }
  | _ => none }
def GeomWalksWrongFalsely : Prop := geomWalksRow.holds Try.pinned (OpenSpec.ofChange geomWalksWrong)

/-- 'cuirasslaw07.GeomSizes': WHATEVER THE INPUT: true; the input reads as it did. -/
def geomSizesSpec : ChangeSpec := { name := "geomSizes", fn := fun _ => fun
  | [d1, d2, d3] => { results := [.lit (.bool true)], args := [d1, d2, d3] }
  | _ => none }
def geomSizesRow : OpenClaim := { program := "ytjinbhggimbcbaa", sum := "ce6689bdc72b64bd6410ac1aaafc73b76b09ff1e0527c6365e30f5138235db13", func := "cuirass/cuirasslaw07.GeomSizes", spec := "geomSizes", apart := false }
def GeomSizesSaid : Prop := geomSizesRow.holds Try.pinned (OpenSpec.ofChange geomSizesSpec)

/-- ITS FALSE NEIGHBOUR: 'it returns false'. Refute it at one input. -/
def geomSizesWrong : ChangeSpec := { name := "geomSizes", fn := fun _ => fun
  | [d1, d2, d3] => { results := [.lit (.bool false)], args := [d1, d2, d3] }
  | _ => none }
def GeomSizesWrongFalsely : Prop := geomSizesRow.holds Try.pinned (OpenSpec.ofChange geomSizesWrong)

/-- 'cuirasslaw07.GeomUnlike': WHATEVER THE INPUT: true; the input reads as it did. -/
def geomUnlikeSpec : ChangeSpec := { name := "geomUnlike", fn := fun _ => fun
  | [d1, d2, d3] => { results := [.lit (.bool true)], args := [d1, d2, d3] }
  | _ => none }
def geomUnlikeRow : OpenClaim := { program := "ytjinbhggimbcbaa", sum := "ce6689bdc72b64bd6410ac1aaafc73b76b09ff1e0527c6365e30f5138235db13", func := "cuirass/cuirasslaw07.GeomUnlike", spec := "geomUnlike", apart := false }
def GeomUnlikeSaid : Prop := geomUnlikeRow.holds Try.pinned (OpenSpec.ofChange geomUnlikeSpec)

/-- ITS FALSE NEIGHBOUR: 'it returns false'. Refute it at one input. -/
def geomUnlikeWrong : ChangeSpec := { name := "geomUnlike", fn := fun _ => fun
  | [d1, d2, d3] => { results := [.lit (.bool false)], args := [d1, d2, d3] }
  | _ => none }
def GeomUnlikeWrongFalsely : Prop := geomUnlikeRow.holds Try.pinned (OpenSpec.ofChange geomUnlikeWrong)

/-- 'cuirasslaw07.GeomParts': WHATEVER THE INPUT: true; the input reads as it did. -/
def geomPartsSpec : ChangeSpec := { name := "geomParts", fn := fun _ => fun
  | [d] => { results := [.lit (.bool true)], args := [d] }
  | _ => none }
def geomPartsRow : OpenClaim := { program := "ytjinbhggimbcbaa", sum := "ce6689bdc72b64bd6410ac1aaafc73b76b09ff1e0527c6365e30f5138235db13", func := "cuirass/cuirasslaw07.GeomParts", spec := "geomParts", unfollowed := true, recurses := true, apart := false }
def GeomPartsSaid : Prop := geomPartsRow.holds Try.pinned (OpenSpec.ofChange geomPartsSpec)

/-- ITS FALSE NEIGHBOUR: 'it returns false'. Refute it at one input. -/
def geomPartsWrong : ChangeSpec := { name := "geomParts", fn := fun _ => fun
  | [d] => { results := [.lit (.bool false)], args := [d] }
  | _ => none }
def GeomPartsWrongFalsely : Prop := geomPartsRow.holds Try.pinned (OpenSpec.ofChange geomPartsWrong)

/- THE SECOND FORM. 'bulk': how many values and letters a reading holds, each counted each time it is reached (what is shared counts as often as it is met; a slice's spare places count too). A statement '..UptoSaid' is the law's where the arguments, and the package variables that the reading takes, are together of bulk at most 1048576: NARROWER than '..Said'. Prove '..Said' where nothing that the law and all that it calls make is longer than what came in: it says more and counts as full. Else prove '..UptoSaid'. A law counts once. -/
mutual
def uptoBulk {H : Type} : DataW H → Nat
  | .lit (.string bytes) => bytes.length + 1
  | .lit _ => 1
  | .nil => 1
  | .ptr d => uptoBulk d + 1
  | .slice elems spare => uptoBulkAll elems + uptoBulkAll spare + 1
  | .agg parts => uptoBulkAll parts + 1
  | .iface _ d => uptoBulk d + 1
  | .map entries => uptoBulkEntries entries + 1
  | .held _ => 1
def uptoBulkAll {H : Type} : List (DataW H) → Nat
  | [] => 0
  | d :: r => uptoBulk d + uptoBulkAll r
def uptoBulkEntries {H : Type} : List (Lit × DataW H) → Nat
  | [] => 0
  | x :: r => uptoBulkEntry x + uptoBulkEntries r
def uptoBulkEntry {H : Type} : Lit × DataW H → Nat
  | (.string bytes, d) => bytes.length + uptoBulk d + 1
  | (_, d) => uptoBulk d + 1
 end
def uptoSmall : (H : Type) → List (DataW H) → Bool := fun _ ds => decide (uptoBulkAll ds ≤ 1048576)
def OpenSpec.upto (s : _root_.Go.ChangeSpec) : _root_.Go.OpenSpec := { _root_.Go.OpenSpec.ofChange s with cond := some uptoSmall }

/-- 'cuirasslaw07.GeomPlaces', WHERE WHAT IT READS IS OF BULK AT MOST 1048576: true; the input reads as it did. -/
def geomPlacesUptoRow : OpenClaim := { program := "ytjinbhggimbcbaa", sum := "ce6689bdc72b64bd6410ac1aaafc73b76b09ff1e0527c6365e30f5138235db13", func := "cuirass/cuirasslaw07.GeomPlaces", spec := "geomPlaces", apart := false, narrowed := true }
def GeomPlacesUptoSaid : Prop := geomPlacesUptoRow.holds Try.pinned (OpenSpec.upto geomPlacesSpec)

/-- 'cuirasslaw07.GeomWalks', WHERE WHAT IT READS IS OF BULK AT MOST 1048576: true; the input reads as it did. -/
def geomWalksUptoRow : OpenClaim := { program := "ytjinbhggimbcbaa", sum := "ce6689bdc72b64bd6410ac1aaafc73b76b09ff1e0527c6365e30f5138235db13", func := "cuirass/cuirasslaw07.GeomWalks", spec := "geomWalks", unfollowed := true, recurses := true, apart := false, narrowed := true }
def GeomWalksUptoSaid : Prop := geomWalksUptoRow.holds Try.pinned (OpenSpec.upto geomWalksSpec)

/-- 'cuirasslaw07.GeomSizes', WHERE WHAT IT READS IS OF BULK AT MOST 1048576: true; the input reads as it did. -/
def geomSizesUptoRow : OpenClaim := { program := "ytjinbhggimbcbaa", sum := "ce6689bdc72b64bd6410ac1aaafc73b76b09ff1e0527c6365e30f5138235db13", func := "cuirass/cuirasslaw07.GeomSizes", spec := "geomSizes", apart := false, narrowed := true }
def GeomSizesUptoSaid : Prop := geomSizesUptoRow.holds Try.pinned (OpenSpec.upto geomSizesSpec)

/-- 'cuirasslaw07.GeomUnlike', WHERE WHAT IT READS IS OF BULK AT MOST 1048576: true; the input reads as it did. -/
def geomUnlikeUptoRow : OpenClaim := { program := "ytjinbhggimbcbaa", sum := "ce6689bdc72b64bd6410ac1aaafc73b76b09ff1e0527c6365e30f5138235db13", func := "cuirass/cuirasslaw07.GeomUnlike", spec := "geomUnlike", apart := false, narrowed := true }
def GeomUnlikeUptoSaid : Prop := geomUnlikeUptoRow.holds Try.pinned (OpenSpec.upto geomUnlikeSpec)

/-- 'cuirasslaw07.GeomParts', WHERE WHAT IT READS IS OF BULK AT MOST 1048576: true; the input reads as it did. -/
def geomPartsUptoRow : OpenClaim := { program := "ytjinbhggimbcbaa", sum := "ce6689bdc72b64bd6410ac1aaafc73b76b09ff1e0527c6365e30f5138235db13", func := "cuirass/cuirasslaw07.GeomParts", spec := "geomParts", unfollowed := true, recurses := true, apart := false, narrowed := true }
def GeomPartsUptoSaid : Prop := geomPartsUptoRow.holds Try.pinned (OpenSpec.upto geomPartsSpec)

end Rows
end Go.Proofs.Ytjinbhggimbcbaa
