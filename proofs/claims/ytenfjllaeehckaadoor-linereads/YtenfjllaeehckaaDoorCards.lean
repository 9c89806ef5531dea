/-
  DERIVED. GIVEN WITH THE SEED: THE CARDS: each row of YtenfjllaeehckaaDoorRows.lean that lists a variable, with what it lists TIED to the program's text (the seventh form; the later family's looks); each row that meets fmt, with fmt's text TOLD by the authors' own Lean function (tested against real Go, not proved from fmt's source: count such statements apart). THE CARD IS WHAT COUNTS. Prove the row's statement (the work); the ties are given (YtenfjllaeehckaaDoorTie.lean); close each card by the builder's one call (the guide's Derived/Test/ToyasCard.lean, 'card_holds'). Laid BY PROGRAM, IN A SANDBOX (cutbox-door.mjs). By AI agents, Wed Nov 11 2026. No macro, syntax, notation, axiom, sorry.
-/
import Derived.Test.YtenfjllaeehckaaDoorRows
import GoSem.ClaimSeven
namespace Go.Proofs.YtenfjllaeehckaaDoor
namespace Rows

/-- THE TIED CARD OF 'cuirasslaw06.LineMerges'. -/
def lineMergesCard : Claim7 := { stood := { row := lineMergesRow, standIns := [], harness := (true, "62a2553d768ad2678c5063cf0b72e7660eceaae26a77c9d1d88c6f0227d7e2f0"), looks := false }, kinds := [], alts := [], laidByText := true, laidKinds := [.data], laidTests := true, laidLooks := .later }
def LineMergesCardSaid : Prop := Claim7.holds Tryd.pinned (.plain (OpenSpec.ofChange lineMergesSpec)) lineMergesCard

/-- THE TIED CARD OF 'cuirasslaw06.LineParts'. -/
def linePartsCard : Claim7 := { stood := { row := linePartsRow, standIns := [], harness := (true, "62a2553d768ad2678c5063cf0b72e7660eceaae26a77c9d1d88c6f0227d7e2f0"), looks := false }, kinds := [], alts := [], laidByText := true, laidKinds := [.data], laidTests := true, laidLooks := .later }
def LinePartsCardSaid : Prop := Claim7.holds Tryd.pinned (.plain (OpenSpec.ofChange linePartsSpec)) linePartsCard

/-- THE TIED CARD OF 'cuirasslaw06.LineReads'. -/
def lineReadsCard : Claim7 := { stood := { row := lineReadsRow, standIns := [], harness := (true, "62a2553d768ad2678c5063cf0b72e7660eceaae26a77c9d1d88c6f0227d7e2f0"), looks := false }, kinds := [], alts := [], laidByText := true, laidKinds := [.data], laidTests := true, laidLooks := .later }
def LineReadsCardSaid : Prop := Claim7.holds Tryd.pinned (.plain (OpenSpec.ofChange lineReadsSpec)) lineReadsCard

/-- THE TIED CARD OF 'cuirasslaw06.LineMasks'. -/
def lineMasksCard : Claim7 := { stood := { row := lineMasksRow, standIns := [], harness := (true, "62a2553d768ad2678c5063cf0b72e7660eceaae26a77c9d1d88c6f0227d7e2f0"), looks := false }, kinds := [], alts := [], laidByText := true, laidKinds := [.data], laidTests := true, laidLooks := .later }
def LineMasksCardSaid : Prop := Claim7.holds Tryd.pinned (.plain (OpenSpec.ofChange lineMasksSpec)) lineMasksCard

/-- THE SECOND FORM's CARD OF 'cuirasslaw06.LineMerges'. -/
def lineMergesUptoCard : Claim7 := { stood := { row := lineMergesUptoRow, standIns := [], harness := (true, "62a2553d768ad2678c5063cf0b72e7660eceaae26a77c9d1d88c6f0227d7e2f0"), looks := false }, kinds := [], alts := [], laidByText := true, laidKinds := [.data], laidTests := true, laidLooks := .later }
def LineMergesUptoCardSaid : Prop := Claim7.holds Tryd.pinned (.plain (OpenSpec.upto lineMergesSpec)) lineMergesUptoCard

/-- THE SECOND FORM's CARD OF 'cuirasslaw06.LineParts'. -/
def linePartsUptoCard : Claim7 := { stood := { row := linePartsUptoRow, standIns := [], harness := (true, "62a2553d768ad2678c5063cf0b72e7660eceaae26a77c9d1d88c6f0227d7e2f0"), looks := false }, kinds := [], alts := [], laidByText := true, laidKinds := [.data], laidTests := true, laidLooks := .later }
def LinePartsUptoCardSaid : Prop := Claim7.holds Tryd.pinned (.plain (OpenSpec.upto linePartsSpec)) linePartsUptoCard

/-- THE SECOND FORM's CARD OF 'cuirasslaw06.LineReads'. -/
def lineReadsUptoCard : Claim7 := { stood := { row := lineReadsUptoRow, standIns := [], harness := (true, "62a2553d768ad2678c5063cf0b72e7660eceaae26a77c9d1d88c6f0227d7e2f0"), looks := false }, kinds := [], alts := [], laidByText := true, laidKinds := [.data], laidTests := true, laidLooks := .later }
def LineReadsUptoCardSaid : Prop := Claim7.holds Tryd.pinned (.plain (OpenSpec.upto lineReadsSpec)) lineReadsUptoCard

/-- THE SECOND FORM's CARD OF 'cuirasslaw06.LineMasks'. -/
def lineMasksUptoCard : Claim7 := { stood := { row := lineMasksUptoRow, standIns := [], harness := (true, "62a2553d768ad2678c5063cf0b72e7660eceaae26a77c9d1d88c6f0227d7e2f0"), looks := false }, kinds := [], alts := [], laidByText := true, laidKinds := [.data], laidTests := true, laidLooks := .later }
def LineMasksUptoCardSaid : Prop := Claim7.holds Tryd.pinned (.plain (OpenSpec.upto lineMasksSpec)) lineMasksUptoCard
end Rows
end Go.Proofs.YtenfjllaeehckaaDoor
