/-
  DERIVED. GIVEN WITH THE SEED: THE CARDS: each row of YtklfllmfcckgjaaGreatDoorRows.lean that lists a variable, with what it lists TIED to the program's text (the seventh form; the later family's looks); each row that meets fmt, with fmt's text TOLD by the authors' own Lean function (tested against real Go, not proved from fmt's source: count such statements apart). THE CARD IS WHAT COUNTS. Prove the row's statement (the work); the ties are given (YtklfllmfcckgjaaGreatDoorTie.lean); close each card by the builder's one call (the guide's Derived/Test/ToyasCard.lean, 'card_holds'). Laid BY PROGRAM, IN A SANDBOX (cutbox-door.mjs). By AI agents, Wed Nov 11 2026. No macro, syntax, notation, axiom, sorry.
-/
import Derived.Test.YtklfllmfcckgjaaGreatDoorRows
import GoSem.ClaimSeven
namespace Go.Proofs.YtklfllmfcckgjaaGreatDoor
namespace Rows

/-- THE TIED CARD OF 'garboardlaw11.VectorRight'. -/
def vectorRightCard : Claim7 := { stood := { row := vectorRightRow, standIns := [], harness := (true, "e8111bca2f106ae004d2a14f246638c77ef009ab1f827c14cf64e59a618f4ad9"), looks := true }, kinds := [], alts := [], laidByText := true, laidKinds := [.data, .data, .data, .sentinel, .sentinel, .data], laidTests := true, laidLooks := .later }
def VectorRightCardSaid : Prop := Claim7.holds Tryz.pinned (.plain (OpenSpec.ofChange vectorRightSpec)) vectorRightCard

/-- THE TIED CARD OF 'garboardlaw11.VectorLinear'. -/
def vectorLinearCard : Claim7 := { stood := { row := vectorLinearRow, standIns := [], harness := (true, "e8111bca2f106ae004d2a14f246638c77ef009ab1f827c14cf64e59a618f4ad9"), looks := true }, kinds := [], alts := [], laidByText := true, laidKinds := [.data, .data, .data, .sentinel, .sentinel, .data], laidTests := true, laidLooks := .later }
def VectorLinearCardSaid : Prop := Claim7.holds Tryz.pinned (.plain (OpenSpec.ofChange vectorLinearSpec)) vectorLinearCard

/-- THE TIED CARD OF 'garboardlaw11.VectorThrough'. -/
def vectorThroughCard : Claim7 := { stood := { row := vectorThroughRow, standIns := [], harness := (true, "e8111bca2f106ae004d2a14f246638c77ef009ab1f827c14cf64e59a618f4ad9"), looks := true }, kinds := [], alts := [], laidByText := true, laidKinds := [.data, .data, .data, .sentinel, .sentinel, .data], laidTests := true, laidLooks := .later }
def VectorThroughCardSaid : Prop := Claim7.holds Tryz.pinned (.plain (OpenSpec.ofChange vectorThroughSpec)) vectorThroughCard

/-- THE TIED CARD OF 'garboardlaw11.VectorCrosses'. -/
def vectorCrossesCard : Claim7 := { stood := { row := vectorCrossesRow, standIns := [], harness := (true, "e8111bca2f106ae004d2a14f246638c77ef009ab1f827c14cf64e59a618f4ad9"), looks := true }, kinds := [], alts := [], laidByText := true, laidKinds := [.data, .data, .data, .sentinel, .sentinel, .data], laidTests := true, laidLooks := .later }
def VectorCrossesCardSaid : Prop := Claim7.holds Tryz.pinned (.plain (OpenSpec.ofChange vectorCrossesSpec)) vectorCrossesCard

/-- THE SECOND FORM's CARD OF 'garboardlaw11.VectorRight'. -/
def vectorRightUptoCard : Claim7 := { stood := { row := vectorRightUptoRow, standIns := [], harness := (true, "e8111bca2f106ae004d2a14f246638c77ef009ab1f827c14cf64e59a618f4ad9"), looks := true }, kinds := [], alts := [], laidByText := true, laidKinds := [.data, .data, .data, .sentinel, .sentinel, .data], laidTests := true, laidLooks := .later }
def VectorRightUptoCardSaid : Prop := Claim7.holds Tryz.pinned (.plain (OpenSpec.upto vectorRightSpec)) vectorRightUptoCard

/-- THE SECOND FORM's CARD OF 'garboardlaw11.VectorLinear'. -/
def vectorLinearUptoCard : Claim7 := { stood := { row := vectorLinearUptoRow, standIns := [], harness := (true, "e8111bca2f106ae004d2a14f246638c77ef009ab1f827c14cf64e59a618f4ad9"), looks := true }, kinds := [], alts := [], laidByText := true, laidKinds := [.data, .data, .data, .sentinel, .sentinel, .data], laidTests := true, laidLooks := .later }
def VectorLinearUptoCardSaid : Prop := Claim7.holds Tryz.pinned (.plain (OpenSpec.upto vectorLinearSpec)) vectorLinearUptoCard

/-- THE SECOND FORM's CARD OF 'garboardlaw11.VectorThrough'. -/
def vectorThroughUptoCard : Claim7 := { stood := { row := vectorThroughUptoRow, standIns := [], harness := (true, "e8111bca2f106ae004d2a14f246638c77ef009ab1f827c14cf64e59a618f4ad9"), looks := true }, kinds := [], alts := [], laidByText := true, laidKinds := [.data, .data, .data, .sentinel, .sentinel, .data], laidTests := true, laidLooks := .later }
def VectorThroughUptoCardSaid : Prop := Claim7.holds Tryz.pinned (.plain (OpenSpec.upto vectorThroughSpec)) vectorThroughUptoCard

/-- THE SECOND FORM's CARD OF 'garboardlaw11.VectorCrosses'. -/
def vectorCrossesUptoCard : Claim7 := { stood := { row := vectorCrossesUptoRow, standIns := [], harness := (true, "e8111bca2f106ae004d2a14f246638c77ef009ab1f827c14cf64e59a618f4ad9"), looks := true }, kinds := [], alts := [], laidByText := true, laidKinds := [.data, .data, .data, .sentinel, .sentinel, .data], laidTests := true, laidLooks := .later }
def VectorCrossesUptoCardSaid : Prop := Claim7.holds Tryz.pinned (.plain (OpenSpec.upto vectorCrossesSpec)) vectorCrossesUptoCard
end Rows
end Go.Proofs.YtklfllmfcckgjaaGreatDoor
