/-
  DERIVED. GIVEN WITH THE SEED: THE CARDS: each row of YtmmhcaeaddkcmaaGreatDoorRows.lean that lists a variable, with what it lists TIED to the program's text (the seventh form; the later family's looks); each row that meets fmt, with fmt's text TOLD by the authors' own Lean function (tested against real Go, not proved from fmt's source: count such statements apart). THE CARD IS WHAT COUNTS. Prove the row's statement (the work); the ties are given (YtmmhcaeaddkcmaaGreatDoorTie.lean); close each card by the builder's one call (the guide's Derived/Test/ToyasCard.lean, 'card_holds'). Laid BY PROGRAM, IN A SANDBOX (cutbox-door.mjs). By AI agents, Wed Nov 11 2026. No macro, syntax, notation, axiom, sorry.
-/
import Derived.Test.YtmmhcaeaddkcmaaGreatDoorRows
import GoSem.ClaimSeven
namespace Go.Proofs.YtmmhcaeaddkcmaaGreatDoor
namespace Rows

/-- THE TIED CARD OF 'garboardlaw06.AngleCircle'. -/
def angleCircleCard : Claim7 := { stood := { row := angleCircleRow, standIns := [], harness := (true, "b944e82020003658d8109960b64e4679aef1ff14511a89308232c8c9720f085b"), looks := true }, kinds := [], alts := [], laidByText := true, laidKinds := [.data, .data, .data, .sentinel, .sentinel, .data], laidTests := true, laidLooks := .later }
def AngleCircleCardSaid : Prop := Claim7.holds Tryz.pinned (.plain (OpenSpec.ofChange angleCircleSpec)) angleCircleCard

/-- THE TIED CARD OF 'garboardlaw06.AngleAdds'. -/
def angleAddsCard : Claim7 := { stood := { row := angleAddsRow, standIns := [], harness := (true, "b944e82020003658d8109960b64e4679aef1ff14511a89308232c8c9720f085b"), looks := true }, kinds := [], alts := [], laidByText := true, laidKinds := [.data, .data, .data, .sentinel, .sentinel, .data], laidTests := true, laidLooks := .later }
def AngleAddsCardSaid : Prop := Claim7.holds Tryz.pinned (.plain (OpenSpec.ofChange angleAddsSpec)) angleAddsCard

/-- THE SECOND FORM's CARD OF 'garboardlaw06.AngleCircle'. -/
def angleCircleUptoCard : Claim7 := { stood := { row := angleCircleUptoRow, standIns := [], harness := (true, "b944e82020003658d8109960b64e4679aef1ff14511a89308232c8c9720f085b"), looks := true }, kinds := [], alts := [], laidByText := true, laidKinds := [.data, .data, .data, .sentinel, .sentinel, .data], laidTests := true, laidLooks := .later }
def AngleCircleUptoCardSaid : Prop := Claim7.holds Tryz.pinned (.plain (OpenSpec.upto angleCircleSpec)) angleCircleUptoCard

/-- THE SECOND FORM's CARD OF 'garboardlaw06.AngleAdds'. -/
def angleAddsUptoCard : Claim7 := { stood := { row := angleAddsUptoRow, standIns := [], harness := (true, "b944e82020003658d8109960b64e4679aef1ff14511a89308232c8c9720f085b"), looks := true }, kinds := [], alts := [], laidByText := true, laidKinds := [.data, .data, .data, .sentinel, .sentinel, .data], laidTests := true, laidLooks := .later }
def AngleAddsUptoCardSaid : Prop := Claim7.holds Tryz.pinned (.plain (OpenSpec.upto angleAddsSpec)) angleAddsUptoCard
end Rows
end Go.Proofs.YtmmhcaeaddkcmaaGreatDoor
