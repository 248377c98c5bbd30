/-
  DERIVED. GIVEN WITH THE SEED: THE CARDS: each row of YtkiklcbhglpooaaGreatDoorRows.lean that lists a variable, with what it lists TIED to the program's text (the seventh form; the later family's looks); each row that meets fmt, with fmt's text TOLD by the authors' own Lean function (tested against real Go, not proved from fmt's source: count such statements apart). THE CARD IS WHAT COUNTS. Prove the row's statement (the work); the ties are given (YtkiklcbhglpooaaGreatDoorTie.lean); close each card by the builder's one call (the guide's Derived/Test/ToyasCard.lean, 'card_holds'). Laid BY PROGRAM, IN A SANDBOX (cutbox-door.mjs). By AI agents, Wed Nov 11 2026. No macro, syntax, notation, axiom, sorry.
-/
import Derived.Test.YtkiklcbhglpooaaGreatDoorRows
import GoSem.ClaimSeven
namespace Go.Proofs.YtkiklcbhglpooaaGreatDoor
namespace Rows

/-- THE TIED CARD OF 'garboardlaw05.RootNorms'. -/
def rootNormsCard : Claim7 := { stood := { row := rootNormsRow, standIns := [], harness := (true, "26665ed1cfc7a595db2320304f14b369ad5d45181f393883c344be9bc07d3a9b"), looks := true }, kinds := [], alts := [], laidByText := true, laidKinds := [.data, .data, .data, .sentinel, .sentinel, .data, .data], laidTests := true, laidLooks := .later }
def RootNormsCardSaid : Prop := Claim7.holds Tryz.pinned (.plain (OpenSpec.ofChange rootNormsSpec)) rootNormsCard

/-- THE TIED CARD OF 'garboardlaw06.AngleEncloses'. -/
def angleEnclosesCard : Claim7 := { stood := { row := angleEnclosesRow, standIns := [], harness := (true, "26665ed1cfc7a595db2320304f14b369ad5d45181f393883c344be9bc07d3a9b"), looks := true }, kinds := [], alts := [], laidByText := true, laidKinds := [.data, .data, .data, .sentinel, .sentinel, .data], laidTests := true, laidLooks := .later }
def AngleEnclosesCardSaid : Prop := Claim7.holds Tryz.pinned (.plain (OpenSpec.ofChange angleEnclosesSpec)) angleEnclosesCard

/-- THE SECOND FORM's CARD OF 'garboardlaw05.RootNorms'. -/
def rootNormsUptoCard : Claim7 := { stood := { row := rootNormsUptoRow, standIns := [], harness := (true, "26665ed1cfc7a595db2320304f14b369ad5d45181f393883c344be9bc07d3a9b"), looks := true }, kinds := [], alts := [], laidByText := true, laidKinds := [.data, .data, .data, .sentinel, .sentinel, .data, .data], laidTests := true, laidLooks := .later }
def RootNormsUptoCardSaid : Prop := Claim7.holds Tryz.pinned (.plain (OpenSpec.upto rootNormsSpec)) rootNormsUptoCard

/-- THE SECOND FORM's CARD OF 'garboardlaw06.AngleEncloses'. -/
def angleEnclosesUptoCard : Claim7 := { stood := { row := angleEnclosesUptoRow, standIns := [], harness := (true, "26665ed1cfc7a595db2320304f14b369ad5d45181f393883c344be9bc07d3a9b"), looks := true }, kinds := [], alts := [], laidByText := true, laidKinds := [.data, .data, .data, .sentinel, .sentinel, .data], laidTests := true, laidLooks := .later }
def AngleEnclosesUptoCardSaid : Prop := Claim7.holds Tryz.pinned (.plain (OpenSpec.upto angleEnclosesSpec)) angleEnclosesUptoCard
end Rows
end Go.Proofs.YtkiklcbhglpooaaGreatDoor
