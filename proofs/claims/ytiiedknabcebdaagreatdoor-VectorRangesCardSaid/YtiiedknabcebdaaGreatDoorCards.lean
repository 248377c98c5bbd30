/-
  DERIVED. GIVEN WITH THE SEED: THE CARDS: each row of YtiiedknabcebdaaGreatDoorRows.lean that lists a variable, with what it lists TIED to the program's text (the seventh form; the later family's looks); each row that meets fmt, with fmt's text TOLD by the authors' own Lean function (tested against real Go, not proved from fmt's source: count such statements apart). THE CARD IS WHAT COUNTS. Prove the row's statement (the work); the ties are given (YtiiedknabcebdaaGreatDoorTie.lean); close each card by the builder's one call (the guide's Derived/Test/ToyasCard.lean, 'card_holds'). Laid BY PROGRAM, IN A SANDBOX (cutbox-door.mjs). By AI agents, Wed Nov 11 2026. No macro, syntax, notation, axiom, sorry.
-/
import Derived.Test.YtiiedknabcebdaaGreatDoorRows
import GoSem.ClaimSeven
namespace Go.Proofs.YtiiedknabcebdaaGreatDoor
namespace Rows

/-- THE TIED CARD OF 'garboardlaw11.VectorRanges'. -/
def vectorRangesCard : Claim7 := { stood := { row := vectorRangesRow, standIns := [], harness := (true, "327be4e2d582ddcf9d2993531081b32f176b51c15fb2ae8c984f6964afba5add"), looks := true }, kinds := [], alts := [], laidByText := true, laidKinds := [.data, .data, .data, .sentinel, .sentinel, .data], laidTests := true, laidLooks := .later }
def VectorRangesCardSaid : Prop := Claim7.holds Tryz.pinned (.plain (OpenSpec.ofChange vectorRangesSpec)) vectorRangesCard

/-- THE SECOND FORM's CARD OF 'garboardlaw11.VectorRanges'. -/
def vectorRangesUptoCard : Claim7 := { stood := { row := vectorRangesUptoRow, standIns := [], harness := (true, "327be4e2d582ddcf9d2993531081b32f176b51c15fb2ae8c984f6964afba5add"), looks := true }, kinds := [], alts := [], laidByText := true, laidKinds := [.data, .data, .data, .sentinel, .sentinel, .data], laidTests := true, laidLooks := .later }
def VectorRangesUptoCardSaid : Prop := Claim7.holds Tryz.pinned (.plain (OpenSpec.upto vectorRangesSpec)) vectorRangesUptoCard
end Rows
end Go.Proofs.YtiiedknabcebdaaGreatDoor
