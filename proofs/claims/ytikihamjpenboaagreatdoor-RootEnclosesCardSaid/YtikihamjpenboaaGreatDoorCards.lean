/-
  DERIVED. GIVEN WITH THE SEED: THE CARDS: each row of YtikihamjpenboaaGreatDoorRows.lean that lists a variable, with what it lists TIED to the program's text (the seventh form; the later family's looks); each row that meets fmt, with fmt's text TOLD by the authors' own Lean function (tested against real Go, not proved from fmt's source: count such statements apart). THE CARD IS WHAT COUNTS. Prove the row's statement (the work); the ties are given (YtikihamjpenboaaGreatDoorTie.lean); close each card by the builder's one call (the guide's Derived/Test/ToyasCard.lean, 'card_holds'). Laid BY PROGRAM, IN A SANDBOX (cutbox-door.mjs). By AI agents, Wed Nov 11 2026. No macro, syntax, notation, axiom, sorry.
-/
import Derived.Test.YtikihamjpenboaaGreatDoorRows
import GoSem.ClaimSeven
namespace Go.Proofs.YtikihamjpenboaaGreatDoor
namespace Rows

/-- THE TIED CARD OF 'garboardlaw05.RootEncloses'. -/
def rootEnclosesCard : Claim7 := { stood := { row := rootEnclosesRow, standIns := [], harness := (true, "37d83ed14f272020ec0fc779e807a9a3d0bd82f0330a0347636906a517552d79"), looks := true }, kinds := [], alts := [], laidByText := true, laidKinds := [.data, .data, .data, .sentinel, .sentinel, .data, .data], laidTests := true, laidLooks := .later }
def RootEnclosesCardSaid : Prop := Claim7.holds Tryz.pinned (.plain (OpenSpec.ofChange rootEnclosesSpec)) rootEnclosesCard

/-- THE SECOND FORM's CARD OF 'garboardlaw05.RootEncloses'. -/
def rootEnclosesUptoCard : Claim7 := { stood := { row := rootEnclosesUptoRow, standIns := [], harness := (true, "37d83ed14f272020ec0fc779e807a9a3d0bd82f0330a0347636906a517552d79"), looks := true }, kinds := [], alts := [], laidByText := true, laidKinds := [.data, .data, .data, .sentinel, .sentinel, .data, .data], laidTests := true, laidLooks := .later }
def RootEnclosesUptoCardSaid : Prop := Claim7.holds Tryz.pinned (.plain (OpenSpec.upto rootEnclosesSpec)) rootEnclosesUptoCard
end Rows
end Go.Proofs.YtikihamjpenboaaGreatDoor
