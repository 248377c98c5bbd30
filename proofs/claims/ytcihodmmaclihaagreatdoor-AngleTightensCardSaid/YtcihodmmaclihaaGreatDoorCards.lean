/-
  DERIVED. GIVEN WITH THE SEED: THE CARDS: each row of YtcihodmmaclihaaGreatDoorRows.lean that lists a variable, with what it lists TIED to the program's text (the seventh form; the later family's looks); each row that meets fmt, with fmt's text TOLD by the authors' own Lean function (tested against real Go, not proved from fmt's source: count such statements apart). THE CARD IS WHAT COUNTS. Prove the row's statement (the work); the ties are given (YtcihodmmaclihaaGreatDoorTie.lean); close each card by the builder's one call (the guide's Derived/Test/ToyasCard.lean, 'card_holds'). Laid BY PROGRAM, IN A SANDBOX (cutbox-door.mjs). By AI agents, Wed Nov 11 2026. No macro, syntax, notation, axiom, sorry.
-/
import Derived.Test.YtcihodmmaclihaaGreatDoorRows
import GoSem.ClaimSeven
namespace Go.Proofs.YtcihodmmaclihaaGreatDoor
namespace Rows

/-- THE TIED CARD OF 'garboardlaw06.AngleTightens'. -/
def angleTightensCard : Claim7 := { stood := { row := angleTightensRow, standIns := [], harness := (true, "517ca624f762b6ca41d976331e53c24b500b7c6b9d4f13238946c7c65919feb1"), looks := true }, kinds := [], alts := [], laidByText := true, laidKinds := [.data, .data, .data, .sentinel, .sentinel, .data], laidTests := true, laidLooks := .later }
def AngleTightensCardSaid : Prop := Claim7.holds Tryz.pinned (.plain (OpenSpec.ofChange angleTightensSpec)) angleTightensCard

/-- THE TIED CARD OF 'garboardlaw06.AngleOrder'. -/
def angleOrderCard : Claim7 := { stood := { row := angleOrderRow, standIns := [], harness := (true, "517ca624f762b6ca41d976331e53c24b500b7c6b9d4f13238946c7c65919feb1"), looks := true }, kinds := [], alts := [], laidByText := true, laidKinds := [.data, .data, .data, .sentinel, .sentinel, .data], laidTests := true, laidLooks := .later }
def AngleOrderCardSaid : Prop := Claim7.holds Tryz.pinned (.plain (OpenSpec.ofChange angleOrderSpec)) angleOrderCard

/-- THE TIED CARD OF 'garboardlaw06.AngleBrackets'. -/
def angleBracketsCard : Claim7 := { stood := { row := angleBracketsRow, standIns := [], harness := (true, "517ca624f762b6ca41d976331e53c24b500b7c6b9d4f13238946c7c65919feb1"), looks := true }, kinds := [], alts := [], laidByText := true, laidKinds := [.data, .data, .data, .sentinel, .sentinel, .data], laidTests := true, laidLooks := .later }
def AngleBracketsCardSaid : Prop := Claim7.holds Tryz.pinned (.plain (OpenSpec.ofChange angleBracketsSpec)) angleBracketsCard

/-- THE SECOND FORM's CARD OF 'garboardlaw06.AngleTightens'. -/
def angleTightensUptoCard : Claim7 := { stood := { row := angleTightensUptoRow, standIns := [], harness := (true, "517ca624f762b6ca41d976331e53c24b500b7c6b9d4f13238946c7c65919feb1"), looks := true }, kinds := [], alts := [], laidByText := true, laidKinds := [.data, .data, .data, .sentinel, .sentinel, .data], laidTests := true, laidLooks := .later }
def AngleTightensUptoCardSaid : Prop := Claim7.holds Tryz.pinned (.plain (OpenSpec.upto angleTightensSpec)) angleTightensUptoCard

/-- THE SECOND FORM's CARD OF 'garboardlaw06.AngleOrder'. -/
def angleOrderUptoCard : Claim7 := { stood := { row := angleOrderUptoRow, standIns := [], harness := (true, "517ca624f762b6ca41d976331e53c24b500b7c6b9d4f13238946c7c65919feb1"), looks := true }, kinds := [], alts := [], laidByText := true, laidKinds := [.data, .data, .data, .sentinel, .sentinel, .data], laidTests := true, laidLooks := .later }
def AngleOrderUptoCardSaid : Prop := Claim7.holds Tryz.pinned (.plain (OpenSpec.upto angleOrderSpec)) angleOrderUptoCard

/-- THE SECOND FORM's CARD OF 'garboardlaw06.AngleBrackets'. -/
def angleBracketsUptoCard : Claim7 := { stood := { row := angleBracketsUptoRow, standIns := [], harness := (true, "517ca624f762b6ca41d976331e53c24b500b7c6b9d4f13238946c7c65919feb1"), looks := true }, kinds := [], alts := [], laidByText := true, laidKinds := [.data, .data, .data, .sentinel, .sentinel, .data], laidTests := true, laidLooks := .later }
def AngleBracketsUptoCardSaid : Prop := Claim7.holds Tryz.pinned (.plain (OpenSpec.upto angleBracketsSpec)) angleBracketsUptoCard
end Rows
end Go.Proofs.YtcihodmmaclihaaGreatDoor
