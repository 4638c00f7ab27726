/-
  DERIVED. GIVEN WITH THE SEED: THE CARDS: each row of YtlepckjmdjjolaaGreatDoorRows.lean that lists a variable, with what it lists TIED to the program's text (the seventh form; the later family's looks); each row that meets fmt, with fmt's text TOLD by the authors' own Lean function (tested against real Go, not proved from fmt's source: count such statements apart). THE CARD IS WHAT COUNTS. Prove the row's statement (the work); the ties are given (YtlepckjmdjjolaaGreatDoorTie.lean); close each card by the builder's one call (the guide's Derived/Test/ToyasCard.lean, 'card_holds'). Laid BY PROGRAM, IN A SANDBOX (cutbox-door.mjs). By AI agents, Wed Nov 11 2026. No macro, syntax, notation, axiom, sorry.
-/
import Derived.Test.YtlepckjmdjjolaaGreatDoorRows
import GoSem.ClaimSeven
namespace Go.Proofs.YtlepckjmdjjolaaGreatDoor
namespace Rows

/-- THE TIED CARD OF 'tautochronelaw07.FlowText'. -/
def flowTextCard : Claim7 := { stood := { row := flowTextRow, standIns := [], harness := (true, "d7f9a61c0651b64b541a06580a64f8768dec80039807386d306b5e0296390f83"), looks := true }, kinds := [], alts := [], laidByText := true, laidKinds := [.data, .data, .data, .handle, .sentinel, .sentinel], laidTests := true, laidLooks := .later }
def FlowTextCardSaid : Prop := Claim7.holds Tryz.pinned (.plain (OpenSpec.ofChange flowTextSpec)) flowTextCard

/-- THE TIED CARD OF 'tautochronelaw07.FlowTurned'. -/
def flowTurnedCard : Claim7 := { stood := { row := flowTurnedRow, standIns := [], harness := (true, "d7f9a61c0651b64b541a06580a64f8768dec80039807386d306b5e0296390f83"), looks := true }, kinds := [], alts := [], laidByText := true, laidKinds := [.data, .data, .data, .handle, .sentinel, .sentinel], laidTests := true, laidLooks := .later }
def FlowTurnedCardSaid : Prop := Claim7.holds Tryz.pinned (.plain (OpenSpec.ofChange flowTurnedSpec)) flowTurnedCard

/-- THE TIED CARD OF 'tautochronelaw07.FlowTakes'. -/
def flowTakesCard : Claim7 := { stood := { row := flowTakesRow, standIns := [], harness := (true, "d7f9a61c0651b64b541a06580a64f8768dec80039807386d306b5e0296390f83"), looks := true }, kinds := [], alts := [], laidByText := true, laidKinds := [.data, .data, .data, .handle, .sentinel, .sentinel], laidTests := true, laidLooks := .later }
def FlowTakesCardSaid : Prop := Claim7.holds Tryz.pinned (.plain (OpenSpec.ofChange flowTakesSpec)) flowTakesCard

/-- THE TIED CARD OF 'tautochronelaw07.FlowBound'. -/
def flowBoundCard : Claim7 := { stood := { row := flowBoundRow, standIns := [], harness := (true, "d7f9a61c0651b64b541a06580a64f8768dec80039807386d306b5e0296390f83"), looks := true }, kinds := [], alts := [], laidByText := true, laidKinds := [.data, .data, .data, .handle, .sentinel, .sentinel], laidTests := true, laidLooks := .later }
def FlowBoundCardSaid : Prop := Claim7.holds Tryz.pinned (.plain (OpenSpec.ofChange flowBoundSpec)) flowBoundCard

/-- THE TIED CARD OF 'tautochronelaw07.FlowLabel'. -/
def flowLabelCard : Claim7 := { stood := { row := flowLabelRow, standIns := [], harness := (true, "d7f9a61c0651b64b541a06580a64f8768dec80039807386d306b5e0296390f83"), looks := true }, kinds := [], alts := [], laidByText := true, laidKinds := [.data, .data, .data, .handle, .sentinel, .sentinel], laidTests := true, laidLooks := .later }
def FlowLabelCardSaid : Prop := Claim7.holds Tryz.pinned (.plain (OpenSpec.ofChange flowLabelSpec)) flowLabelCard

/-- THE TIED CARD OF 'tautochronelaw07.FlowPublic'. -/
def flowPublicCard : Claim7 := { stood := { row := flowPublicRow, standIns := [], harness := (true, "d7f9a61c0651b64b541a06580a64f8768dec80039807386d306b5e0296390f83"), looks := true }, kinds := [], alts := [], laidByText := true, laidKinds := [.data, .data, .data, .handle, .sentinel, .sentinel], laidTests := true, laidLooks := .later }
def FlowPublicCardSaid : Prop := Claim7.holds Tryz.pinned (.plain (OpenSpec.ofChange flowPublicSpec)) flowPublicCard

/-- THE TIED CARD OF 'tautochronelaw07.FlowOutputs'. -/
def flowOutputsCard : Claim7 := { stood := { row := flowOutputsRow, standIns := [], harness := (true, "d7f9a61c0651b64b541a06580a64f8768dec80039807386d306b5e0296390f83"), looks := true }, kinds := [], alts := [], laidByText := true, laidKinds := [.data, .data, .data, .handle, .sentinel, .sentinel], laidTests := true, laidLooks := .later }
def FlowOutputsCardSaid : Prop := Claim7.holds Tryz.pinned (.plain (OpenSpec.ofChange flowOutputsSpec)) flowOutputsCard

/-- THE TIED CARD OF 'tautochronelaw07.FlowPlaces'. -/
def flowPlacesCard : Claim7 := { stood := { row := flowPlacesRow, standIns := [], harness := (true, "d7f9a61c0651b64b541a06580a64f8768dec80039807386d306b5e0296390f83"), looks := true }, kinds := [], alts := [], laidByText := true, laidKinds := [.data, .data, .data, .handle, .sentinel, .sentinel], laidTests := true, laidLooks := .later }
def FlowPlacesCardSaid : Prop := Claim7.holds Tryz.pinned (.plain (OpenSpec.ofChange flowPlacesSpec)) flowPlacesCard

/-- THE SECOND FORM's CARD OF 'tautochronelaw07.FlowText'. -/
def flowTextUptoCard : Claim7 := { stood := { row := flowTextUptoRow, standIns := [], harness := (true, "d7f9a61c0651b64b541a06580a64f8768dec80039807386d306b5e0296390f83"), looks := true }, kinds := [], alts := [], laidByText := true, laidKinds := [.data, .data, .data, .handle, .sentinel, .sentinel], laidTests := true, laidLooks := .later }
def FlowTextUptoCardSaid : Prop := Claim7.holds Tryz.pinned (.plain (OpenSpec.upto flowTextSpec)) flowTextUptoCard

/-- THE SECOND FORM's CARD OF 'tautochronelaw07.FlowTurned'. -/
def flowTurnedUptoCard : Claim7 := { stood := { row := flowTurnedUptoRow, standIns := [], harness := (true, "d7f9a61c0651b64b541a06580a64f8768dec80039807386d306b5e0296390f83"), looks := true }, kinds := [], alts := [], laidByText := true, laidKinds := [.data, .data, .data, .handle, .sentinel, .sentinel], laidTests := true, laidLooks := .later }
def FlowTurnedUptoCardSaid : Prop := Claim7.holds Tryz.pinned (.plain (OpenSpec.upto flowTurnedSpec)) flowTurnedUptoCard

/-- THE SECOND FORM's CARD OF 'tautochronelaw07.FlowTakes'. -/
def flowTakesUptoCard : Claim7 := { stood := { row := flowTakesUptoRow, standIns := [], harness := (true, "d7f9a61c0651b64b541a06580a64f8768dec80039807386d306b5e0296390f83"), looks := true }, kinds := [], alts := [], laidByText := true, laidKinds := [.data, .data, .data, .handle, .sentinel, .sentinel], laidTests := true, laidLooks := .later }
def FlowTakesUptoCardSaid : Prop := Claim7.holds Tryz.pinned (.plain (OpenSpec.upto flowTakesSpec)) flowTakesUptoCard

/-- THE SECOND FORM's CARD OF 'tautochronelaw07.FlowBound'. -/
def flowBoundUptoCard : Claim7 := { stood := { row := flowBoundUptoRow, standIns := [], harness := (true, "d7f9a61c0651b64b541a06580a64f8768dec80039807386d306b5e0296390f83"), looks := true }, kinds := [], alts := [], laidByText := true, laidKinds := [.data, .data, .data, .handle, .sentinel, .sentinel], laidTests := true, laidLooks := .later }
def FlowBoundUptoCardSaid : Prop := Claim7.holds Tryz.pinned (.plain (OpenSpec.upto flowBoundSpec)) flowBoundUptoCard

/-- THE SECOND FORM's CARD OF 'tautochronelaw07.FlowLabel'. -/
def flowLabelUptoCard : Claim7 := { stood := { row := flowLabelUptoRow, standIns := [], harness := (true, "d7f9a61c0651b64b541a06580a64f8768dec80039807386d306b5e0296390f83"), looks := true }, kinds := [], alts := [], laidByText := true, laidKinds := [.data, .data, .data, .handle, .sentinel, .sentinel], laidTests := true, laidLooks := .later }
def FlowLabelUptoCardSaid : Prop := Claim7.holds Tryz.pinned (.plain (OpenSpec.upto flowLabelSpec)) flowLabelUptoCard

/-- THE SECOND FORM's CARD OF 'tautochronelaw07.FlowPublic'. -/
def flowPublicUptoCard : Claim7 := { stood := { row := flowPublicUptoRow, standIns := [], harness := (true, "d7f9a61c0651b64b541a06580a64f8768dec80039807386d306b5e0296390f83"), looks := true }, kinds := [], alts := [], laidByText := true, laidKinds := [.data, .data, .data, .handle, .sentinel, .sentinel], laidTests := true, laidLooks := .later }
def FlowPublicUptoCardSaid : Prop := Claim7.holds Tryz.pinned (.plain (OpenSpec.upto flowPublicSpec)) flowPublicUptoCard

/-- THE SECOND FORM's CARD OF 'tautochronelaw07.FlowOutputs'. -/
def flowOutputsUptoCard : Claim7 := { stood := { row := flowOutputsUptoRow, standIns := [], harness := (true, "d7f9a61c0651b64b541a06580a64f8768dec80039807386d306b5e0296390f83"), looks := true }, kinds := [], alts := [], laidByText := true, laidKinds := [.data, .data, .data, .handle, .sentinel, .sentinel], laidTests := true, laidLooks := .later }
def FlowOutputsUptoCardSaid : Prop := Claim7.holds Tryz.pinned (.plain (OpenSpec.upto flowOutputsSpec)) flowOutputsUptoCard

/-- THE SECOND FORM's CARD OF 'tautochronelaw07.FlowPlaces'. -/
def flowPlacesUptoCard : Claim7 := { stood := { row := flowPlacesUptoRow, standIns := [], harness := (true, "d7f9a61c0651b64b541a06580a64f8768dec80039807386d306b5e0296390f83"), looks := true }, kinds := [], alts := [], laidByText := true, laidKinds := [.data, .data, .data, .handle, .sentinel, .sentinel], laidTests := true, laidLooks := .later }
def FlowPlacesUptoCardSaid : Prop := Claim7.holds Tryz.pinned (.plain (OpenSpec.upto flowPlacesSpec)) flowPlacesUptoCard
end Rows
end Go.Proofs.YtlepckjmdjjolaaGreatDoor
