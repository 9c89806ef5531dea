/-
  DERIVED. GIVEN WITH THE SEED: THE CARDS: each row of YtdjknaafefnlcaaDoorRows.lean that lists a variable, with what it lists TIED to the program's text (the seventh form; the later family's looks); each row that meets fmt, with fmt's text TOLD by the authors' own Lean function (tested against real Go, not proved from fmt's source: count such statements apart). THE CARD IS WHAT COUNTS. Prove the row's statement (the work); the ties are given (YtdjknaafefnlcaaDoorTie.lean); close each card by the builder's one call (the guide's Derived/Test/ToyasCard.lean, 'card_holds'). Laid BY PROGRAM, IN A SANDBOX (cutbox-door.mjs). By AI agents, Wed Nov 11 2026. No macro, syntax, notation, axiom, sorry.
-/
import Derived.Test.YtdjknaafefnlcaaDoorRows
import GoSem.ClaimSeven
namespace Go.Proofs.YtdjknaafefnlcaaDoor
namespace Rows

/-- THE TIED CARD OF 'cuirasslaw10.CodecCorrects'. -/
def codecCorrectsCard : Claim7 := { stood := { row := codecCorrectsRow, standIns := [], harness := (true, "d430c92206b12584a26cd0afa3a6c026a4a190837e367cced879e05de161e4f8"), looks := false }, kinds := [], alts := [], laidByText := true, laidKinds := [.data], laidTests := true, laidLooks := .later }
def CodecCorrectsCardSaid : Prop := Claim7.holds Tryd.pinned (.plain (OpenSpec.ofChange codecCorrectsSpec)) codecCorrectsCard

/-- THE TIED CARD OF 'cuirasslaw10.CodecDetects'. -/
def codecDetectsCard : Claim7 := { stood := { row := codecDetectsRow, standIns := [], harness := (true, "d430c92206b12584a26cd0afa3a6c026a4a190837e367cced879e05de161e4f8"), looks := false }, kinds := [], alts := [], laidByText := true, laidKinds := [.data], laidTests := true, laidLooks := .later }
def CodecDetectsCardSaid : Prop := Claim7.holds Tryd.pinned (.plain (OpenSpec.ofChange codecDetectsSpec)) codecDetectsCard

/-- THE TIED CARD OF 'cuirasslaw10.CodecStrays'. -/
def codecStraysCard : Claim7 := { stood := { row := codecStraysRow, standIns := [], harness := (true, "d430c92206b12584a26cd0afa3a6c026a4a190837e367cced879e05de161e4f8"), looks := false }, kinds := [], alts := [], laidByText := true, laidKinds := [.data], laidTests := true, laidLooks := .later }
def CodecStraysCardSaid : Prop := Claim7.holds Tryd.pinned (.plain (OpenSpec.ofChange codecStraysSpec)) codecStraysCard

/-- THE TIED CARD OF 'cuirasslaw10.CodecChips'. -/
def codecChipsCard : Claim7 := { stood := { row := codecChipsRow, standIns := [], harness := (true, "d430c92206b12584a26cd0afa3a6c026a4a190837e367cced879e05de161e4f8"), looks := false }, kinds := [], alts := [], laidByText := true, laidKinds := [.data], laidTests := true, laidLooks := .later }
def CodecChipsCardSaid : Prop := Claim7.holds Tryd.pinned (.plain (OpenSpec.ofChange codecChipsSpec)) codecChipsCard

/-- THE TIED CARD OF 'cuirasslaw10.CodecSame'. -/
def codecSameCard : Claim7 := { stood := { row := codecSameRow, standIns := [], harness := (true, "d430c92206b12584a26cd0afa3a6c026a4a190837e367cced879e05de161e4f8"), looks := false }, kinds := [], alts := [], laidByText := true, laidKinds := [.data], laidTests := true, laidLooks := .later }
def CodecSameCardSaid : Prop := Claim7.holds Tryd.pinned (.plain (OpenSpec.ofChange codecSameSpec)) codecSameCard

/-- THE TIED CARD OF 'cuirasslaw10.CodecIndex'. -/
def codecIndexCard : Claim7 := { stood := { row := codecIndexRow, standIns := [], harness := (true, "d430c92206b12584a26cd0afa3a6c026a4a190837e367cced879e05de161e4f8"), looks := false }, kinds := [], alts := [], laidByText := true, laidKinds := [.data], laidTests := true, laidLooks := .later }
def CodecIndexCardSaid : Prop := Claim7.holds Tryd.pinned (.plain (OpenSpec.ofChange codecIndexSpec)) codecIndexCard

/-- THE SECOND FORM's CARD OF 'cuirasslaw10.CodecCorrects'. -/
def codecCorrectsUptoCard : Claim7 := { stood := { row := codecCorrectsUptoRow, standIns := [], harness := (true, "d430c92206b12584a26cd0afa3a6c026a4a190837e367cced879e05de161e4f8"), looks := false }, kinds := [], alts := [], laidByText := true, laidKinds := [.data], laidTests := true, laidLooks := .later }
def CodecCorrectsUptoCardSaid : Prop := Claim7.holds Tryd.pinned (.plain (OpenSpec.upto codecCorrectsSpec)) codecCorrectsUptoCard

/-- THE SECOND FORM's CARD OF 'cuirasslaw10.CodecDetects'. -/
def codecDetectsUptoCard : Claim7 := { stood := { row := codecDetectsUptoRow, standIns := [], harness := (true, "d430c92206b12584a26cd0afa3a6c026a4a190837e367cced879e05de161e4f8"), looks := false }, kinds := [], alts := [], laidByText := true, laidKinds := [.data], laidTests := true, laidLooks := .later }
def CodecDetectsUptoCardSaid : Prop := Claim7.holds Tryd.pinned (.plain (OpenSpec.upto codecDetectsSpec)) codecDetectsUptoCard

/-- THE SECOND FORM's CARD OF 'cuirasslaw10.CodecStrays'. -/
def codecStraysUptoCard : Claim7 := { stood := { row := codecStraysUptoRow, standIns := [], harness := (true, "d430c92206b12584a26cd0afa3a6c026a4a190837e367cced879e05de161e4f8"), looks := false }, kinds := [], alts := [], laidByText := true, laidKinds := [.data], laidTests := true, laidLooks := .later }
def CodecStraysUptoCardSaid : Prop := Claim7.holds Tryd.pinned (.plain (OpenSpec.upto codecStraysSpec)) codecStraysUptoCard

/-- THE SECOND FORM's CARD OF 'cuirasslaw10.CodecChips'. -/
def codecChipsUptoCard : Claim7 := { stood := { row := codecChipsUptoRow, standIns := [], harness := (true, "d430c92206b12584a26cd0afa3a6c026a4a190837e367cced879e05de161e4f8"), looks := false }, kinds := [], alts := [], laidByText := true, laidKinds := [.data], laidTests := true, laidLooks := .later }
def CodecChipsUptoCardSaid : Prop := Claim7.holds Tryd.pinned (.plain (OpenSpec.upto codecChipsSpec)) codecChipsUptoCard

/-- THE SECOND FORM's CARD OF 'cuirasslaw10.CodecSame'. -/
def codecSameUptoCard : Claim7 := { stood := { row := codecSameUptoRow, standIns := [], harness := (true, "d430c92206b12584a26cd0afa3a6c026a4a190837e367cced879e05de161e4f8"), looks := false }, kinds := [], alts := [], laidByText := true, laidKinds := [.data], laidTests := true, laidLooks := .later }
def CodecSameUptoCardSaid : Prop := Claim7.holds Tryd.pinned (.plain (OpenSpec.upto codecSameSpec)) codecSameUptoCard

/-- THE SECOND FORM's CARD OF 'cuirasslaw10.CodecIndex'. -/
def codecIndexUptoCard : Claim7 := { stood := { row := codecIndexUptoRow, standIns := [], harness := (true, "d430c92206b12584a26cd0afa3a6c026a4a190837e367cced879e05de161e4f8"), looks := false }, kinds := [], alts := [], laidByText := true, laidKinds := [.data], laidTests := true, laidLooks := .later }
def CodecIndexUptoCardSaid : Prop := Claim7.holds Tryd.pinned (.plain (OpenSpec.upto codecIndexSpec)) codecIndexUptoCard
end Rows
end Go.Proofs.YtdjknaafefnlcaaDoor
