/-
  DERIVED. GIVEN WITH THE SEED: THE CARDS: each row of YtnpkghpfmieboaaGreatDoorRows.lean that lists a variable, with what it lists TIED to the program's text (the seventh form; the later family's looks); each row that meets fmt, with fmt's text TOLD by the authors' own Lean function (tested against real Go, not proved from fmt's source: count such statements apart). THE CARD IS WHAT COUNTS. Prove the row's statement (the work); the ties are given (YtnpkghpfmieboaaGreatDoorTie.lean); close each card by the builder's one call (the guide's Derived/Test/ToyasCard.lean, 'card_holds'). Laid BY PROGRAM, IN A SANDBOX (cutbox-door.mjs). By AI agents, Wed Nov 11 2026. No macro, syntax, notation, axiom, sorry.
-/
import Derived.Test.YtnpkghpfmieboaaGreatDoorRows
import GoSem.ClaimSeven
namespace Go.Proofs.YtnpkghpfmieboaaGreatDoor
namespace Rows

/-- THE TIED CARD OF 'garboardlaw11.VectorPlanes'. -/
def vectorPlanesCard : Claim7 := { stood := { row := vectorPlanesRow, standIns := [], harness := (true, "02410aecef893d51f80447d85eebe270f22df91340b45b3941360b1cb0c60c11"), looks := true }, kinds := [], alts := [], laidByText := true, laidKinds := [.data, .data, .data, .sentinel, .sentinel, .data], laidTests := true, laidLooks := .later }
def VectorPlanesCardSaid : Prop := Claim7.holds Tryz.pinned (.plain (OpenSpec.ofChange vectorPlanesSpec)) vectorPlanesCard

/-- THE SECOND FORM's CARD OF 'garboardlaw11.VectorPlanes'. -/
def vectorPlanesUptoCard : Claim7 := { stood := { row := vectorPlanesUptoRow, standIns := [], harness := (true, "02410aecef893d51f80447d85eebe270f22df91340b45b3941360b1cb0c60c11"), looks := true }, kinds := [], alts := [], laidByText := true, laidKinds := [.data, .data, .data, .sentinel, .sentinel, .data], laidTests := true, laidLooks := .later }
def VectorPlanesUptoCardSaid : Prop := Claim7.holds Tryz.pinned (.plain (OpenSpec.upto vectorPlanesSpec)) vectorPlanesUptoCard
end Rows
end Go.Proofs.YtnpkghpfmieboaaGreatDoor
