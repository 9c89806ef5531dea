/-
  DERIVED. GIVEN WITH THE SEED: THE CARDS: each row of YtcabfhndcckjdaaDoorRows.lean that lists a variable, with what it lists TIED to the program's text (the seventh form; the later family's looks); each row that meets fmt, with fmt's text TOLD by the authors' own Lean function (tested against real Go, not proved from fmt's source: count such statements apart). THE CARD IS WHAT COUNTS. Prove the row's statement (the work); the ties are given (YtcabfhndcckjdaaDoorTie.lean); close each card by the builder's one call (the guide's Derived/Test/ToyasCard.lean, 'card_holds'). Laid BY PROGRAM, IN A SANDBOX (cutbox-door.mjs). By AI agents, Wed Nov 11 2026. No macro, syntax, notation, axiom, sorry.
-/
import Derived.Test.YtcabfhndcckjdaaDoorRows
import GoSem.ClaimSeven
namespace Go.Proofs.YtcabfhndcckjdaaDoor
namespace Rows

/-- THE TIED CARD OF 'cuirasslaw04.HsiaoColumns'. -/
def hsiaoColumnsCard : Claim7 := { stood := { row := hsiaoColumnsRow, standIns := [], harness := (true, "7f4e50790dff9c2e3d2380e2b3c86c53b7d42f46a1860a0b454a4f82edb0397a"), looks := false }, kinds := [], alts := [], laidByText := true, laidKinds := [.data], laidTests := true, laidLooks := .later }
def HsiaoColumnsCardSaid : Prop := Claim7.holds Tryd.pinned (.plain (OpenSpec.ofChange hsiaoColumnsSpec)) hsiaoColumnsCard

/-- THE TIED CARD OF 'cuirasslaw04.HsiaoChecks'. -/
def hsiaoChecksCard : Claim7 := { stood := { row := hsiaoChecksRow, standIns := [], harness := (true, "7f4e50790dff9c2e3d2380e2b3c86c53b7d42f46a1860a0b454a4f82edb0397a"), looks := false }, kinds := [], alts := [], laidByText := true, laidKinds := [.data], laidTests := true, laidLooks := .later }
def HsiaoChecksCardSaid : Prop := Claim7.holds Tryd.pinned (.plain (OpenSpec.ofChange hsiaoChecksSpec)) hsiaoChecksCard

/-- THE TIED CARD OF 'cuirasslaw04.HsiaoCorrects'. -/
def hsiaoCorrectsCard : Claim7 := { stood := { row := hsiaoCorrectsRow, standIns := [], harness := (true, "7f4e50790dff9c2e3d2380e2b3c86c53b7d42f46a1860a0b454a4f82edb0397a"), looks := false }, kinds := [], alts := [], laidByText := true, laidKinds := [.data], laidTests := true, laidLooks := .later }
def HsiaoCorrectsCardSaid : Prop := Claim7.holds Tryd.pinned (.plain (OpenSpec.ofChange hsiaoCorrectsSpec)) hsiaoCorrectsCard

/-- THE TIED CARD OF 'cuirasslaw04.HsiaoDetects'. -/
def hsiaoDetectsCard : Claim7 := { stood := { row := hsiaoDetectsRow, standIns := [], harness := (true, "7f4e50790dff9c2e3d2380e2b3c86c53b7d42f46a1860a0b454a4f82edb0397a"), looks := false }, kinds := [], alts := [], laidByText := true, laidKinds := [.data], laidTests := true, laidLooks := .later }
def HsiaoDetectsCardSaid : Prop := Claim7.holds Tryd.pinned (.plain (OpenSpec.ofChange hsiaoDetectsSpec)) hsiaoDetectsCard

/-- THE TIED CARD OF 'cuirasslaw04.HsiaoMarks'. -/
def hsiaoMarksCard : Claim7 := { stood := { row := hsiaoMarksRow, standIns := [], harness := (true, "7f4e50790dff9c2e3d2380e2b3c86c53b7d42f46a1860a0b454a4f82edb0397a"), looks := false }, kinds := [], alts := [], laidByText := true, laidKinds := [.data], laidTests := true, laidLooks := .later }
def HsiaoMarksCardSaid : Prop := Claim7.holds Tryd.pinned (.plain (OpenSpec.ofChange hsiaoMarksSpec)) hsiaoMarksCard

/-- THE TIED CARD OF 'cuirasslaw04.HsiaoLinear'. -/
def hsiaoLinearCard : Claim7 := { stood := { row := hsiaoLinearRow, standIns := [], harness := (true, "7f4e50790dff9c2e3d2380e2b3c86c53b7d42f46a1860a0b454a4f82edb0397a"), looks := false }, kinds := [], alts := [], laidByText := true, laidKinds := [.data], laidTests := true, laidLooks := .later }
def HsiaoLinearCardSaid : Prop := Claim7.holds Tryd.pinned (.plain (OpenSpec.ofChange hsiaoLinearSpec)) hsiaoLinearCard

/-- THE TIED CARD OF 'cuirasslaw04.HsiaoWeights'. -/
def hsiaoWeightsCard : Claim7 := { stood := { row := hsiaoWeightsRow, standIns := [], harness := (true, "7f4e50790dff9c2e3d2380e2b3c86c53b7d42f46a1860a0b454a4f82edb0397a"), looks := false }, kinds := [], alts := [], laidByText := true, laidKinds := [.data], laidTests := true, laidLooks := .later }
def HsiaoWeightsCardSaid : Prop := Claim7.holds Tryd.pinned (.plain (OpenSpec.ofChange hsiaoWeightsSpec)) hsiaoWeightsCard

/-- THE SECOND FORM's CARD OF 'cuirasslaw04.HsiaoColumns'. -/
def hsiaoColumnsUptoCard : Claim7 := { stood := { row := hsiaoColumnsUptoRow, standIns := [], harness := (true, "7f4e50790dff9c2e3d2380e2b3c86c53b7d42f46a1860a0b454a4f82edb0397a"), looks := false }, kinds := [], alts := [], laidByText := true, laidKinds := [.data], laidTests := true, laidLooks := .later }
def HsiaoColumnsUptoCardSaid : Prop := Claim7.holds Tryd.pinned (.plain (OpenSpec.upto hsiaoColumnsSpec)) hsiaoColumnsUptoCard

/-- THE SECOND FORM's CARD OF 'cuirasslaw04.HsiaoChecks'. -/
def hsiaoChecksUptoCard : Claim7 := { stood := { row := hsiaoChecksUptoRow, standIns := [], harness := (true, "7f4e50790dff9c2e3d2380e2b3c86c53b7d42f46a1860a0b454a4f82edb0397a"), looks := false }, kinds := [], alts := [], laidByText := true, laidKinds := [.data], laidTests := true, laidLooks := .later }
def HsiaoChecksUptoCardSaid : Prop := Claim7.holds Tryd.pinned (.plain (OpenSpec.upto hsiaoChecksSpec)) hsiaoChecksUptoCard

/-- THE SECOND FORM's CARD OF 'cuirasslaw04.HsiaoCorrects'. -/
def hsiaoCorrectsUptoCard : Claim7 := { stood := { row := hsiaoCorrectsUptoRow, standIns := [], harness := (true, "7f4e50790dff9c2e3d2380e2b3c86c53b7d42f46a1860a0b454a4f82edb0397a"), looks := false }, kinds := [], alts := [], laidByText := true, laidKinds := [.data], laidTests := true, laidLooks := .later }
def HsiaoCorrectsUptoCardSaid : Prop := Claim7.holds Tryd.pinned (.plain (OpenSpec.upto hsiaoCorrectsSpec)) hsiaoCorrectsUptoCard

/-- THE SECOND FORM's CARD OF 'cuirasslaw04.HsiaoDetects'. -/
def hsiaoDetectsUptoCard : Claim7 := { stood := { row := hsiaoDetectsUptoRow, standIns := [], harness := (true, "7f4e50790dff9c2e3d2380e2b3c86c53b7d42f46a1860a0b454a4f82edb0397a"), looks := false }, kinds := [], alts := [], laidByText := true, laidKinds := [.data], laidTests := true, laidLooks := .later }
def HsiaoDetectsUptoCardSaid : Prop := Claim7.holds Tryd.pinned (.plain (OpenSpec.upto hsiaoDetectsSpec)) hsiaoDetectsUptoCard

/-- THE SECOND FORM's CARD OF 'cuirasslaw04.HsiaoMarks'. -/
def hsiaoMarksUptoCard : Claim7 := { stood := { row := hsiaoMarksUptoRow, standIns := [], harness := (true, "7f4e50790dff9c2e3d2380e2b3c86c53b7d42f46a1860a0b454a4f82edb0397a"), looks := false }, kinds := [], alts := [], laidByText := true, laidKinds := [.data], laidTests := true, laidLooks := .later }
def HsiaoMarksUptoCardSaid : Prop := Claim7.holds Tryd.pinned (.plain (OpenSpec.upto hsiaoMarksSpec)) hsiaoMarksUptoCard

/-- THE SECOND FORM's CARD OF 'cuirasslaw04.HsiaoLinear'. -/
def hsiaoLinearUptoCard : Claim7 := { stood := { row := hsiaoLinearUptoRow, standIns := [], harness := (true, "7f4e50790dff9c2e3d2380e2b3c86c53b7d42f46a1860a0b454a4f82edb0397a"), looks := false }, kinds := [], alts := [], laidByText := true, laidKinds := [.data], laidTests := true, laidLooks := .later }
def HsiaoLinearUptoCardSaid : Prop := Claim7.holds Tryd.pinned (.plain (OpenSpec.upto hsiaoLinearSpec)) hsiaoLinearUptoCard

/-- THE SECOND FORM's CARD OF 'cuirasslaw04.HsiaoWeights'. -/
def hsiaoWeightsUptoCard : Claim7 := { stood := { row := hsiaoWeightsUptoRow, standIns := [], harness := (true, "7f4e50790dff9c2e3d2380e2b3c86c53b7d42f46a1860a0b454a4f82edb0397a"), looks := false }, kinds := [], alts := [], laidByText := true, laidKinds := [.data], laidTests := true, laidLooks := .later }
def HsiaoWeightsUptoCardSaid : Prop := Claim7.holds Tryd.pinned (.plain (OpenSpec.upto hsiaoWeightsSpec)) hsiaoWeightsUptoCard
end Rows
end Go.Proofs.YtcabfhndcckjdaaDoor
