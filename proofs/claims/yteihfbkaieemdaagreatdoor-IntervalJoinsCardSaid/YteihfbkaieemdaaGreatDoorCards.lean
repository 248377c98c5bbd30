/-
  DERIVED. GIVEN WITH THE SEED: THE CARDS: each row of YteihfbkaieemdaaGreatDoorRows.lean that lists a variable, with what it lists TIED to the program's text (the seventh form; the later family's looks); each row that meets fmt, with fmt's text TOLD by the authors' own Lean function (tested against real Go, not proved from fmt's source: count such statements apart). THE CARD IS WHAT COUNTS. Prove the row's statement (the work); the ties are given (YteihfbkaieemdaaGreatDoorTie.lean); close each card by the builder's one call (the guide's Derived/Test/ToyasCard.lean, 'card_holds'). Laid BY PROGRAM, IN A SANDBOX (cutbox-door.mjs). By AI agents, Wed Nov 11 2026. No macro, syntax, notation, axiom, sorry.
-/
import Derived.Test.YteihfbkaieemdaaGreatDoorRows
import GoSem.ClaimSeven
namespace Go.Proofs.YteihfbkaieemdaaGreatDoor
namespace Rows

/-- THE TIED CARD OF 'garboardlaw04.IntervalComputes'. -/
def intervalComputesCard : Claim7 := { stood := { row := intervalComputesRow, standIns := [], harness := (true, "701568cf8413ec2328177a71930e9f5969516bb12f489003389757c193fd0bca"), looks := true }, kinds := [], alts := [], laidByText := true, laidKinds := [.data, .data, .data, .sentinel, .sentinel, .data], laidTests := true, laidLooks := .later }
def IntervalComputesCardSaid : Prop := Claim7.holds Tryz.pinned (.plain (OpenSpec.ofChange intervalComputesSpec)) intervalComputesCard

/-- THE TIED CARD OF 'garboardlaw04.IntervalJoins'. -/
def intervalJoinsCard : Claim7 := { stood := { row := intervalJoinsRow, standIns := [], harness := (true, "701568cf8413ec2328177a71930e9f5969516bb12f489003389757c193fd0bca"), looks := true }, kinds := [], alts := [], laidByText := true, laidKinds := [.data, .data, .data, .sentinel, .sentinel, .data], laidTests := true, laidLooks := .later }
def IntervalJoinsCardSaid : Prop := Claim7.holds Tryz.pinned (.plain (OpenSpec.ofChange intervalJoinsSpec)) intervalJoinsCard

/-- THE SECOND FORM's CARD OF 'garboardlaw04.IntervalComputes'. -/
def intervalComputesUptoCard : Claim7 := { stood := { row := intervalComputesUptoRow, standIns := [], harness := (true, "701568cf8413ec2328177a71930e9f5969516bb12f489003389757c193fd0bca"), looks := true }, kinds := [], alts := [], laidByText := true, laidKinds := [.data, .data, .data, .sentinel, .sentinel, .data], laidTests := true, laidLooks := .later }
def IntervalComputesUptoCardSaid : Prop := Claim7.holds Tryz.pinned (.plain (OpenSpec.upto intervalComputesSpec)) intervalComputesUptoCard

/-- THE SECOND FORM's CARD OF 'garboardlaw04.IntervalJoins'. -/
def intervalJoinsUptoCard : Claim7 := { stood := { row := intervalJoinsUptoRow, standIns := [], harness := (true, "701568cf8413ec2328177a71930e9f5969516bb12f489003389757c193fd0bca"), looks := true }, kinds := [], alts := [], laidByText := true, laidKinds := [.data, .data, .data, .sentinel, .sentinel, .data], laidTests := true, laidLooks := .later }
def IntervalJoinsUptoCardSaid : Prop := Claim7.holds Tryz.pinned (.plain (OpenSpec.upto intervalJoinsSpec)) intervalJoinsUptoCard
end Rows
end Go.Proofs.YteihfbkaieemdaaGreatDoor
