/-
  DERIVED. GIVEN WITH THE SEED: THE CARDS: each row of YtbcnefnbkdbobaaGreatDoorRows.lean that lists a variable, with what it lists TIED to the program's text (the seventh form; the later family's looks); each row that meets fmt, with fmt's text TOLD by the authors' own Lean function (tested against real Go, not proved from fmt's source: count such statements apart). THE CARD IS WHAT COUNTS. Prove the row's statement (the work); the ties are given (YtbcnefnbkdbobaaGreatDoorTie.lean); close each card by the builder's one call (the guide's Derived/Test/ToyasCard.lean, 'card_holds'). Laid BY PROGRAM, IN A SANDBOX (cutbox-door.mjs). By AI agents, Wed Nov 11 2026. No macro, syntax, notation, axiom, sorry.
-/
import Derived.Test.YtbcnefnbkdbobaaGreatDoorRows
import GoSem.ClaimSeven
namespace Go.Proofs.YtbcnefnbkdbobaaGreatDoor
namespace Rows

/-- THE TIED CARD OF 'garboardlaw04.IntervalForms'. -/
def intervalFormsCard : Claim7 := { stood := { row := intervalFormsRow, standIns := [], harness := (true, "10d8d00b856550e4967bd51b52220953a935e1142f7acd1dd1b60db17b3e164d"), looks := true }, kinds := [], alts := [], laidByText := true, laidKinds := [.data, .data, .data, .sentinel, .sentinel, .data], laidTests := true, laidLooks := .later }
def IntervalFormsCardSaid : Prop := Claim7.holds Tryz.pinned (.plain (OpenSpec.ofChange intervalFormsSpec)) intervalFormsCard

/-- THE SECOND FORM's CARD OF 'garboardlaw04.IntervalForms'. -/
def intervalFormsUptoCard : Claim7 := { stood := { row := intervalFormsUptoRow, standIns := [], harness := (true, "10d8d00b856550e4967bd51b52220953a935e1142f7acd1dd1b60db17b3e164d"), looks := true }, kinds := [], alts := [], laidByText := true, laidKinds := [.data, .data, .data, .sentinel, .sentinel, .data], laidTests := true, laidLooks := .later }
def IntervalFormsUptoCardSaid : Prop := Claim7.holds Tryz.pinned (.plain (OpenSpec.upto intervalFormsSpec)) intervalFormsUptoCard
end Rows
end Go.Proofs.YtbcnefnbkdbobaaGreatDoor
