/-
  DERIVED. GIVEN WITH THE SEED: THE CARDS: each row of YtfjhaihingmnoaaDoorRows.lean that lists a variable, with what it lists TIED to the program's text (the seventh form; the later family's looks); each row that meets fmt, with fmt's text TOLD by the authors' own Lean function (tested against real Go, not proved from fmt's source: count such statements apart). THE CARD IS WHAT COUNTS. Prove the row's statement (the work); the ties are given (YtfjhaihingmnoaaDoorTie.lean); close each card by the builder's one call (the guide's Derived/Test/ToyasCard.lean, 'card_holds'). Laid BY PROGRAM, IN A SANDBOX (cutbox-door.mjs). By AI agents, Wed Nov 11 2026. No macro, syntax, notation, axiom, sorry.
-/
import Derived.Test.YtfjhaihingmnoaaDoorRows
import GoSem.ClaimSeven
namespace Go.Proofs.YtfjhaihingmnoaaDoor
namespace Rows

/-- THE TIED CARD OF 'cuirasslaw03.BitWeights'. -/
def bitWeightsCard : Claim7 := { stood := { row := bitWeightsRow, standIns := [], harness := (true, "55d143afb58b1f28f33f53ff05a2eab893cd4093b3964bf6b7fa2be97ec20047"), looks := false }, kinds := [], alts := [], laidByText := true, laidKinds := [.data], laidTests := true, laidLooks := .later }
def BitWeightsCardSaid : Prop := Claim7.holds Tryd.pinned (.plain (OpenSpec.ofChange bitWeightsSpec)) bitWeightsCard

/-- THE TIED CARD OF 'cuirasslaw03.BitBytes'. -/
def bitBytesCard : Claim7 := { stood := { row := bitBytesRow, standIns := [], harness := (true, "55d143afb58b1f28f33f53ff05a2eab893cd4093b3964bf6b7fa2be97ec20047"), looks := false }, kinds := [], alts := [], laidByText := true, laidKinds := [.data], laidTests := true, laidLooks := .later }
def BitBytesCardSaid : Prop := Claim7.holds Tryd.pinned (.plain (OpenSpec.ofChange bitBytesSpec)) bitBytesCard

/-- THE TIED CARD OF 'cuirasslaw03.BitPlaces'. -/
def bitPlacesCard : Claim7 := { stood := { row := bitPlacesRow, standIns := [], harness := (true, "55d143afb58b1f28f33f53ff05a2eab893cd4093b3964bf6b7fa2be97ec20047"), looks := false }, kinds := [], alts := [], laidByText := true, laidKinds := [.data], laidTests := true, laidLooks := .later }
def BitPlacesCardSaid : Prop := Claim7.holds Tryd.pinned (.plain (OpenSpec.ofChange bitPlacesSpec)) bitPlacesCard

/-- THE SECOND FORM's CARD OF 'cuirasslaw03.BitWeights'. -/
def bitWeightsUptoCard : Claim7 := { stood := { row := bitWeightsUptoRow, standIns := [], harness := (true, "55d143afb58b1f28f33f53ff05a2eab893cd4093b3964bf6b7fa2be97ec20047"), looks := false }, kinds := [], alts := [], laidByText := true, laidKinds := [.data], laidTests := true, laidLooks := .later }
def BitWeightsUptoCardSaid : Prop := Claim7.holds Tryd.pinned (.plain (OpenSpec.upto bitWeightsSpec)) bitWeightsUptoCard

/-- THE SECOND FORM's CARD OF 'cuirasslaw03.BitBytes'. -/
def bitBytesUptoCard : Claim7 := { stood := { row := bitBytesUptoRow, standIns := [], harness := (true, "55d143afb58b1f28f33f53ff05a2eab893cd4093b3964bf6b7fa2be97ec20047"), looks := false }, kinds := [], alts := [], laidByText := true, laidKinds := [.data], laidTests := true, laidLooks := .later }
def BitBytesUptoCardSaid : Prop := Claim7.holds Tryd.pinned (.plain (OpenSpec.upto bitBytesSpec)) bitBytesUptoCard

/-- THE SECOND FORM's CARD OF 'cuirasslaw03.BitPlaces'. -/
def bitPlacesUptoCard : Claim7 := { stood := { row := bitPlacesUptoRow, standIns := [], harness := (true, "55d143afb58b1f28f33f53ff05a2eab893cd4093b3964bf6b7fa2be97ec20047"), looks := false }, kinds := [], alts := [], laidByText := true, laidKinds := [.data], laidTests := true, laidLooks := .later }
def BitPlacesUptoCardSaid : Prop := Claim7.holds Tryd.pinned (.plain (OpenSpec.upto bitPlacesSpec)) bitPlacesUptoCard
end Rows
end Go.Proofs.YtfjhaihingmnoaaDoor
