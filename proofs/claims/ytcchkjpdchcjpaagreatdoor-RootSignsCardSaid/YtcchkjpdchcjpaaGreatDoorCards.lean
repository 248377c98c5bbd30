/-
  DERIVED. GIVEN WITH THE SEED: THE CARDS: each row of YtcchkjpdchcjpaaGreatDoorRows.lean that lists a variable, with what it lists TIED to the program's text (the seventh form; the later family's looks); each row that meets fmt, with fmt's text TOLD by the authors' own Lean function (tested against real Go, not proved from fmt's source: count such statements apart). THE CARD IS WHAT COUNTS. Prove the row's statement (the work); the ties are given (YtcchkjpdchcjpaaGreatDoorTie.lean); close each card by the builder's one call (the guide's Derived/Test/ToyasCard.lean, 'card_holds'). Laid BY PROGRAM, IN A SANDBOX (cutbox-door.mjs). By AI agents, Wed Nov 11 2026. No macro, syntax, notation, axiom, sorry.
-/
import Derived.Test.YtcchkjpdchcjpaaGreatDoorRows
import GoSem.ClaimSeven
namespace Go.Proofs.YtcchkjpdchcjpaaGreatDoor
namespace Rows

/-- THE TIED CARD OF 'garboardlaw05.RootSigns'. -/
def rootSignsCard : Claim7 := { stood := { row := rootSignsRow, standIns := [], harness := (true, "b2bdb543b31cdf937887e06652d0443cbfb00ef5fdd3386ada4e6aa5a04c48a8"), looks := true }, kinds := [], alts := [], laidByText := true, laidKinds := [.data, .data, .data, .sentinel, .sentinel, .data, .data], laidTests := true, laidLooks := .later }
def RootSignsCardSaid : Prop := Claim7.holds Tryz.pinned (.plain (OpenSpec.ofChange rootSignsSpec)) rootSignsCard

/-- THE SECOND FORM's CARD OF 'garboardlaw05.RootSigns'. -/
def rootSignsUptoCard : Claim7 := { stood := { row := rootSignsUptoRow, standIns := [], harness := (true, "b2bdb543b31cdf937887e06652d0443cbfb00ef5fdd3386ada4e6aa5a04c48a8"), looks := true }, kinds := [], alts := [], laidByText := true, laidKinds := [.data, .data, .data, .sentinel, .sentinel, .data, .data], laidTests := true, laidLooks := .later }
def RootSignsUptoCardSaid : Prop := Claim7.holds Tryz.pinned (.plain (OpenSpec.upto rootSignsSpec)) rootSignsUptoCard
end Rows
end Go.Proofs.YtcchkjpdchcjpaaGreatDoor
