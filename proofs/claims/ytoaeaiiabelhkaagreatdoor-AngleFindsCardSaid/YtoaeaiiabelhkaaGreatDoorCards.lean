/-
  DERIVED. GIVEN WITH THE SEED: THE CARDS: each row of YtoaeaiiabelhkaaGreatDoorRows.lean that lists a variable, with what it lists TIED to the program's text (the seventh form; the later family's looks); each row that meets fmt, with fmt's text TOLD by the authors' own Lean function (tested against real Go, not proved from fmt's source: count such statements apart). THE CARD IS WHAT COUNTS. Prove the row's statement (the work); the ties are given (YtoaeaiiabelhkaaGreatDoorTie.lean); close each card by the builder's one call (the guide's Derived/Test/ToyasCard.lean, 'card_holds'). Laid BY PROGRAM, IN A SANDBOX (cutbox-door.mjs). By AI agents, Wed Nov 11 2026. No macro, syntax, notation, axiom, sorry.
-/
import Derived.Test.YtoaeaiiabelhkaaGreatDoorRows
import GoSem.ClaimSeven
namespace Go.Proofs.YtoaeaiiabelhkaaGreatDoor
namespace Rows

/-- THE TIED CARD OF 'garboardlaw06.AngleFinds'. -/
def angleFindsCard : Claim7 := { stood := { row := angleFindsRow, standIns := [], harness := (true, "82e7144da63ce6bd6fe169a543c52c5a6c8d4e017444f4810ba863bed4a0fa00"), looks := true }, kinds := [], alts := [], laidByText := true, laidKinds := [.data, .data, .data, .sentinel, .sentinel, .data], laidTests := true, laidLooks := .later }
def AngleFindsCardSaid : Prop := Claim7.holds Tryz.pinned (.plain (OpenSpec.ofChange angleFindsSpec)) angleFindsCard

/-- THE SECOND FORM's CARD OF 'garboardlaw06.AngleFinds'. -/
def angleFindsUptoCard : Claim7 := { stood := { row := angleFindsUptoRow, standIns := [], harness := (true, "82e7144da63ce6bd6fe169a543c52c5a6c8d4e017444f4810ba863bed4a0fa00"), looks := true }, kinds := [], alts := [], laidByText := true, laidKinds := [.data, .data, .data, .sentinel, .sentinel, .data], laidTests := true, laidLooks := .later }
def AngleFindsUptoCardSaid : Prop := Claim7.holds Tryz.pinned (.plain (OpenSpec.upto angleFindsSpec)) angleFindsUptoCard
end Rows
end Go.Proofs.YtoaeaiiabelhkaaGreatDoor
