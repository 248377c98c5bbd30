/-
  DERIVED. GIVEN WITH THE SEED: THE CARDS: each row of YtlgkolkcokaefaaGreatDoorRows.lean that lists a variable, with what it lists TIED to the program's text (the seventh form; the later family's looks); each row that meets fmt, with fmt's text TOLD by the authors' own Lean function (tested against real Go, not proved from fmt's source: count such statements apart). THE CARD IS WHAT COUNTS. Prove the row's statement (the work); the ties are given (YtlgkolkcokaefaaGreatDoorTie.lean); close each card by the builder's one call (the guide's Derived/Test/ToyasCard.lean, 'card_holds'). Laid BY PROGRAM, IN A SANDBOX (cutbox-door.mjs). By AI agents, Wed Nov 11 2026. No macro, syntax, notation, axiom, sorry.
-/
import Derived.Test.YtlgkolkcokaefaaGreatDoorRows
import GoSem.ClaimSeven
namespace Go.Proofs.YtlgkolkcokaefaaGreatDoor
namespace Rows

/-- THE TIED CARD OF 'garboardlaw16.AttitudeFrames'. -/
def attitudeFramesCard : Claim7 := { stood := { row := attitudeFramesRow, standIns := [], harness := (true, "be70f4252d13f7ce4404a7f5184183d53c152e9eb87821dcfd4511754d104cca"), looks := true }, kinds := [], alts := [], laidByText := true, laidKinds := [.data, .data, .data, .sentinel, .sentinel, .data], laidTests := true, laidLooks := .later }
def AttitudeFramesCardSaid : Prop := Claim7.holds Tryz.pinned (.plain (OpenSpec.ofChange attitudeFramesSpec)) attitudeFramesCard

/-- THE TIED CARD OF 'garboardlaw16.AttitudeTurns'. -/
def attitudeTurnsCard : Claim7 := { stood := { row := attitudeTurnsRow, standIns := [], harness := (true, "be70f4252d13f7ce4404a7f5184183d53c152e9eb87821dcfd4511754d104cca"), looks := true }, kinds := [], alts := [], laidByText := true, laidKinds := [.data, .data, .data, .sentinel, .sentinel, .data], laidTests := true, laidLooks := .later }
def AttitudeTurnsCardSaid : Prop := Claim7.holds Tryz.pinned (.plain (OpenSpec.ofChange attitudeTurnsSpec)) attitudeTurnsCard

/-- THE TIED CARD OF 'garboardlaw16.AttitudeUnit'. -/
def attitudeUnitCard : Claim7 := { stood := { row := attitudeUnitRow, standIns := [], harness := (true, "be70f4252d13f7ce4404a7f5184183d53c152e9eb87821dcfd4511754d104cca"), looks := true }, kinds := [], alts := [], laidByText := true, laidKinds := [.data, .data, .data, .sentinel, .sentinel, .data], laidTests := true, laidLooks := .later }
def AttitudeUnitCardSaid : Prop := Claim7.holds Tryz.pinned (.plain (OpenSpec.ofChange attitudeUnitSpec)) attitudeUnitCard

/-- THE TIED CARD OF 'garboardlaw16.AttitudeReturns'. -/
def attitudeReturnsCard : Claim7 := { stood := { row := attitudeReturnsRow, standIns := [], harness := (true, "be70f4252d13f7ce4404a7f5184183d53c152e9eb87821dcfd4511754d104cca"), looks := true }, kinds := [], alts := [], laidByText := true, laidKinds := [.data, .data, .data, .sentinel, .sentinel, .data], laidTests := true, laidLooks := .later }
def AttitudeReturnsCardSaid : Prop := Claim7.holds Tryz.pinned (.plain (OpenSpec.ofChange attitudeReturnsSpec)) attitudeReturnsCard

/-- THE TIED CARD OF 'garboardlaw16.AttitudeMirrors'. -/
def attitudeMirrorsCard : Claim7 := { stood := { row := attitudeMirrorsRow, standIns := [], harness := (true, "be70f4252d13f7ce4404a7f5184183d53c152e9eb87821dcfd4511754d104cca"), looks := true }, kinds := [], alts := [], laidByText := true, laidKinds := [.data, .data, .data, .sentinel, .sentinel, .data], laidTests := true, laidLooks := .later }
def AttitudeMirrorsCardSaid : Prop := Claim7.holds Tryz.pinned (.plain (OpenSpec.ofChange attitudeMirrorsSpec)) attitudeMirrorsCard

/-- THE SECOND FORM's CARD OF 'garboardlaw16.AttitudeFrames'. -/
def attitudeFramesUptoCard : Claim7 := { stood := { row := attitudeFramesUptoRow, standIns := [], harness := (true, "be70f4252d13f7ce4404a7f5184183d53c152e9eb87821dcfd4511754d104cca"), looks := true }, kinds := [], alts := [], laidByText := true, laidKinds := [.data, .data, .data, .sentinel, .sentinel, .data], laidTests := true, laidLooks := .later }
def AttitudeFramesUptoCardSaid : Prop := Claim7.holds Tryz.pinned (.plain (OpenSpec.upto attitudeFramesSpec)) attitudeFramesUptoCard

/-- THE SECOND FORM's CARD OF 'garboardlaw16.AttitudeTurns'. -/
def attitudeTurnsUptoCard : Claim7 := { stood := { row := attitudeTurnsUptoRow, standIns := [], harness := (true, "be70f4252d13f7ce4404a7f5184183d53c152e9eb87821dcfd4511754d104cca"), looks := true }, kinds := [], alts := [], laidByText := true, laidKinds := [.data, .data, .data, .sentinel, .sentinel, .data], laidTests := true, laidLooks := .later }
def AttitudeTurnsUptoCardSaid : Prop := Claim7.holds Tryz.pinned (.plain (OpenSpec.upto attitudeTurnsSpec)) attitudeTurnsUptoCard

/-- THE SECOND FORM's CARD OF 'garboardlaw16.AttitudeUnit'. -/
def attitudeUnitUptoCard : Claim7 := { stood := { row := attitudeUnitUptoRow, standIns := [], harness := (true, "be70f4252d13f7ce4404a7f5184183d53c152e9eb87821dcfd4511754d104cca"), looks := true }, kinds := [], alts := [], laidByText := true, laidKinds := [.data, .data, .data, .sentinel, .sentinel, .data], laidTests := true, laidLooks := .later }
def AttitudeUnitUptoCardSaid : Prop := Claim7.holds Tryz.pinned (.plain (OpenSpec.upto attitudeUnitSpec)) attitudeUnitUptoCard

/-- THE SECOND FORM's CARD OF 'garboardlaw16.AttitudeReturns'. -/
def attitudeReturnsUptoCard : Claim7 := { stood := { row := attitudeReturnsUptoRow, standIns := [], harness := (true, "be70f4252d13f7ce4404a7f5184183d53c152e9eb87821dcfd4511754d104cca"), looks := true }, kinds := [], alts := [], laidByText := true, laidKinds := [.data, .data, .data, .sentinel, .sentinel, .data], laidTests := true, laidLooks := .later }
def AttitudeReturnsUptoCardSaid : Prop := Claim7.holds Tryz.pinned (.plain (OpenSpec.upto attitudeReturnsSpec)) attitudeReturnsUptoCard

/-- THE SECOND FORM's CARD OF 'garboardlaw16.AttitudeMirrors'. -/
def attitudeMirrorsUptoCard : Claim7 := { stood := { row := attitudeMirrorsUptoRow, standIns := [], harness := (true, "be70f4252d13f7ce4404a7f5184183d53c152e9eb87821dcfd4511754d104cca"), looks := true }, kinds := [], alts := [], laidByText := true, laidKinds := [.data, .data, .data, .sentinel, .sentinel, .data], laidTests := true, laidLooks := .later }
def AttitudeMirrorsUptoCardSaid : Prop := Claim7.holds Tryz.pinned (.plain (OpenSpec.upto attitudeMirrorsSpec)) attitudeMirrorsUptoCard
end Rows
end Go.Proofs.YtlgkolkcokaefaaGreatDoor
