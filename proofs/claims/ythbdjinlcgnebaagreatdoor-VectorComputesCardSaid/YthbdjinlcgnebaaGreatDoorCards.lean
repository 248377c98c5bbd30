/-
  DERIVED. GIVEN WITH THE SEED: THE CARDS: each row of YthbdjinlcgnebaaGreatDoorRows.lean that lists a variable, with what it lists TIED to the program's text (the seventh form; the later family's looks); each row that meets fmt, with fmt's text TOLD by the authors' own Lean function (tested against real Go, not proved from fmt's source: count such statements apart). THE CARD IS WHAT COUNTS. Prove the row's statement (the work); the ties are given (YthbdjinlcgnebaaGreatDoorTie.lean); close each card by the builder's one call (the guide's Derived/Test/ToyasCard.lean, 'card_holds'). Laid BY PROGRAM, IN A SANDBOX (cutbox-door.mjs). By AI agents, Wed Nov 11 2026. No macro, syntax, notation, axiom, sorry.
-/
import Derived.Test.YthbdjinlcgnebaaGreatDoorRows
import GoSem.ClaimSeven
namespace Go.Proofs.YthbdjinlcgnebaaGreatDoor
namespace Rows

/-- THE TIED CARD OF 'garboardlaw11.VectorComputes'. -/
def vectorComputesCard : Claim7 := { stood := { row := vectorComputesRow, standIns := [], harness := (true, "8b150f4f962f629969439d089e7a380ab2ef3d9e665d3eca9fe109aa345a1210"), looks := true }, kinds := [], alts := [], laidByText := true, laidKinds := [.data, .data, .data, .sentinel, .sentinel, .data], laidTests := true, laidLooks := .later }
def VectorComputesCardSaid : Prop := Claim7.holds Tryz.pinned (.plain (OpenSpec.ofChange vectorComputesSpec)) vectorComputesCard

/-- THE SECOND FORM's CARD OF 'garboardlaw11.VectorComputes'. -/
def vectorComputesUptoCard : Claim7 := { stood := { row := vectorComputesUptoRow, standIns := [], harness := (true, "8b150f4f962f629969439d089e7a380ab2ef3d9e665d3eca9fe109aa345a1210"), looks := true }, kinds := [], alts := [], laidByText := true, laidKinds := [.data, .data, .data, .sentinel, .sentinel, .data], laidTests := true, laidLooks := .later }
def VectorComputesUptoCardSaid : Prop := Claim7.holds Tryz.pinned (.plain (OpenSpec.upto vectorComputesSpec)) vectorComputesUptoCard
end Rows
end Go.Proofs.YthbdjinlcgnebaaGreatDoor
