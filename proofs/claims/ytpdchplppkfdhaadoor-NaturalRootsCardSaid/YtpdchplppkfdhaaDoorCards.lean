/-
  DERIVED. GIVEN WITH THE SEED: THE CARDS: each row of YtpdchplppkfdhaaDoorRows.lean that lists a variable, with what it lists TIED to the program's text (the seventh form; the later family's looks); each row that meets fmt, with fmt's text TOLD by the authors' own Lean function (tested against real Go, not proved from fmt's source: count such statements apart). THE CARD IS WHAT COUNTS. Prove the row's statement (the work); the ties are given (YtpdchplppkfdhaaDoorTie.lean); close each card by the builder's one call (the guide's Derived/Test/ToyasCard.lean, 'card_holds'). Laid BY PROGRAM, IN A SANDBOX (cutbox-door.mjs). By AI agents, Wed Nov 11 2026. No macro, syntax, notation, axiom, sorry.
-/
import Derived.Test.YtpdchplppkfdhaaDoorRows
import GoSem.ClaimSeven
namespace Go.Proofs.YtpdchplppkfdhaaDoor
namespace Rows

/-- THE TIED CARD OF 'garboardlaw01.NaturalCompares'. -/
def naturalComparesCard : Claim7 := { stood := { row := naturalComparesRow, standIns := [], harness := (true, "8b80d9826e767c815e5e406a82c5357b7cbc321786520fbfdd2574caf9aee18a"), looks := true }, kinds := [], alts := [], laidByText := true, laidKinds := [.data, .data, .data, .sentinel, .sentinel], laidTests := true, laidLooks := .later }
def NaturalComparesCardSaid : Prop := Claim7.holds Tryd.pinned (.plain (OpenSpec.ofChange naturalComparesSpec)) naturalComparesCard

/-- THE TIED CARD OF 'garboardlaw01.NaturalRing'. -/
def naturalRingCard : Claim7 := { stood := { row := naturalRingRow, standIns := [], harness := (true, "8b80d9826e767c815e5e406a82c5357b7cbc321786520fbfdd2574caf9aee18a"), looks := true }, kinds := [], alts := [], laidByText := true, laidKinds := [.data, .data, .data, .sentinel, .sentinel], laidTests := true, laidLooks := .later }
def NaturalRingCardSaid : Prop := Claim7.holds Tryd.pinned (.plain (OpenSpec.ofChange naturalRingSpec)) naturalRingCard

/-- THE TIED CARD OF 'garboardlaw01.NaturalUndoes'. -/
def naturalUndoesCard : Claim7 := { stood := { row := naturalUndoesRow, standIns := [], harness := (true, "8b80d9826e767c815e5e406a82c5357b7cbc321786520fbfdd2574caf9aee18a"), looks := true }, kinds := [], alts := [], laidByText := true, laidKinds := [.data, .data, .data, .sentinel, .sentinel], laidTests := true, laidLooks := .later }
def NaturalUndoesCardSaid : Prop := Claim7.holds Tryd.pinned (.plain (OpenSpec.ofChange naturalUndoesSpec)) naturalUndoesCard

/-- THE TIED CARD OF 'garboardlaw01.NaturalCommon'. -/
def naturalCommonCard : Claim7 := { stood := { row := naturalCommonRow, standIns := [], harness := (true, "8b80d9826e767c815e5e406a82c5357b7cbc321786520fbfdd2574caf9aee18a"), looks := true }, kinds := [], alts := [], laidByText := true, laidKinds := [.data, .data, .data, .sentinel, .sentinel], laidTests := true, laidLooks := .later }
def NaturalCommonCardSaid : Prop := Claim7.holds Tryd.pinned (.plain (OpenSpec.ofChange naturalCommonSpec)) naturalCommonCard

/-- THE TIED CARD OF 'garboardlaw01.NaturalRoots'. -/
def naturalRootsCard : Claim7 := { stood := { row := naturalRootsRow, standIns := [], harness := (true, "8b80d9826e767c815e5e406a82c5357b7cbc321786520fbfdd2574caf9aee18a"), looks := true }, kinds := [], alts := [], laidByText := true, laidKinds := [.data, .data, .data, .sentinel, .sentinel], laidTests := true, laidLooks := .later }
def NaturalRootsCardSaid : Prop := Claim7.holds Tryd.pinned (.plain (OpenSpec.ofChange naturalRootsSpec)) naturalRootsCard

/-- THE SECOND FORM's CARD OF 'garboardlaw01.NaturalCompares'. -/
def naturalComparesUptoCard : Claim7 := { stood := { row := naturalComparesUptoRow, standIns := [], harness := (true, "8b80d9826e767c815e5e406a82c5357b7cbc321786520fbfdd2574caf9aee18a"), looks := true }, kinds := [], alts := [], laidByText := true, laidKinds := [.data, .data, .data, .sentinel, .sentinel], laidTests := true, laidLooks := .later }
def NaturalComparesUptoCardSaid : Prop := Claim7.holds Tryd.pinned (.plain (OpenSpec.upto naturalComparesSpec)) naturalComparesUptoCard

/-- THE SECOND FORM's CARD OF 'garboardlaw01.NaturalRing'. -/
def naturalRingUptoCard : Claim7 := { stood := { row := naturalRingUptoRow, standIns := [], harness := (true, "8b80d9826e767c815e5e406a82c5357b7cbc321786520fbfdd2574caf9aee18a"), looks := true }, kinds := [], alts := [], laidByText := true, laidKinds := [.data, .data, .data, .sentinel, .sentinel], laidTests := true, laidLooks := .later }
def NaturalRingUptoCardSaid : Prop := Claim7.holds Tryd.pinned (.plain (OpenSpec.upto naturalRingSpec)) naturalRingUptoCard

/-- THE SECOND FORM's CARD OF 'garboardlaw01.NaturalUndoes'. -/
def naturalUndoesUptoCard : Claim7 := { stood := { row := naturalUndoesUptoRow, standIns := [], harness := (true, "8b80d9826e767c815e5e406a82c5357b7cbc321786520fbfdd2574caf9aee18a"), looks := true }, kinds := [], alts := [], laidByText := true, laidKinds := [.data, .data, .data, .sentinel, .sentinel], laidTests := true, laidLooks := .later }
def NaturalUndoesUptoCardSaid : Prop := Claim7.holds Tryd.pinned (.plain (OpenSpec.upto naturalUndoesSpec)) naturalUndoesUptoCard

/-- THE SECOND FORM's CARD OF 'garboardlaw01.NaturalCommon'. -/
def naturalCommonUptoCard : Claim7 := { stood := { row := naturalCommonUptoRow, standIns := [], harness := (true, "8b80d9826e767c815e5e406a82c5357b7cbc321786520fbfdd2574caf9aee18a"), looks := true }, kinds := [], alts := [], laidByText := true, laidKinds := [.data, .data, .data, .sentinel, .sentinel], laidTests := true, laidLooks := .later }
def NaturalCommonUptoCardSaid : Prop := Claim7.holds Tryd.pinned (.plain (OpenSpec.upto naturalCommonSpec)) naturalCommonUptoCard

/-- THE SECOND FORM's CARD OF 'garboardlaw01.NaturalRoots'. -/
def naturalRootsUptoCard : Claim7 := { stood := { row := naturalRootsUptoRow, standIns := [], harness := (true, "8b80d9826e767c815e5e406a82c5357b7cbc321786520fbfdd2574caf9aee18a"), looks := true }, kinds := [], alts := [], laidByText := true, laidKinds := [.data, .data, .data, .sentinel, .sentinel], laidTests := true, laidLooks := .later }
def NaturalRootsUptoCardSaid : Prop := Claim7.holds Tryd.pinned (.plain (OpenSpec.upto naturalRootsSpec)) naturalRootsUptoCard
end Rows
end Go.Proofs.YtpdchplppkfdhaaDoor
