/-
  DERIVED. GIVEN WITH THE SEED: THE CARDS: each row of YtodcdibanokjjaaGreatDoorRows.lean that lists a variable, with what it lists TIED to the program's text (the seventh form; the later family's looks); each row that meets fmt, with fmt's text TOLD by the authors' own Lean function (tested against real Go, not proved from fmt's source: count such statements apart). THE CARD IS WHAT COUNTS. Prove the row's statement (the work); the ties are given (YtodcdibanokjjaaGreatDoorTie.lean); close each card by the builder's one call (the guide's Derived/Test/ToyasCard.lean, 'card_holds'). Laid BY PROGRAM, IN A SANDBOX (cutbox-door.mjs). By AI agents, Wed Nov 11 2026. No macro, syntax, notation, axiom, sorry.
-/
import Derived.Test.YtodcdibanokjjaaGreatDoorRows
import GoSem.ClaimSeven
namespace Go.Proofs.YtodcdibanokjjaaGreatDoor
namespace Rows

/-- THE TIED CARD OF 'garboardlaw06.AngleComputes'. -/
def angleComputesCard : Claim7 := { stood := { row := angleComputesRow, standIns := [], harness := (true, "4fbb6ff0e42b6f86d03c61fbc40861c628e37797dbdac160c96e9fea0bc0c6fe"), looks := true }, kinds := [], alts := [], laidByText := true, laidKinds := [.data, .data, .data, .sentinel, .sentinel, .data], laidTests := true, laidLooks := .later }
def AngleComputesCardSaid : Prop := Claim7.holds Tryz.pinned (.plain (OpenSpec.ofChange angleComputesSpec)) angleComputesCard

/-- THE SECOND FORM's CARD OF 'garboardlaw06.AngleComputes'. -/
def angleComputesUptoCard : Claim7 := { stood := { row := angleComputesUptoRow, standIns := [], harness := (true, "4fbb6ff0e42b6f86d03c61fbc40861c628e37797dbdac160c96e9fea0bc0c6fe"), looks := true }, kinds := [], alts := [], laidByText := true, laidKinds := [.data, .data, .data, .sentinel, .sentinel, .data], laidTests := true, laidLooks := .later }
def AngleComputesUptoCardSaid : Prop := Claim7.holds Tryz.pinned (.plain (OpenSpec.upto angleComputesSpec)) angleComputesUptoCard
end Rows
end Go.Proofs.YtodcdibanokjjaaGreatDoor
