/-
  DERIVED. GIVEN WITH THE SEED: THE CARDS: each row of YtclmeachbojopaaGreatDoorRows.lean that lists a variable, with what it lists TIED to the program's text (the seventh form; the later family's looks); each row that meets fmt, with fmt's text TOLD by the authors' own Lean function (tested against real Go, not proved from fmt's source: count such statements apart). THE CARD IS WHAT COUNTS. Prove the row's statement (the work); the ties are given (YtclmeachbojopaaGreatDoorTie.lean); close each card by the builder's one call (the guide's Derived/Test/ToyasCard.lean, 'card_holds'). Laid BY PROGRAM, IN A SANDBOX (cutbox-door.mjs). By AI agents, Wed Nov 11 2026. No macro, syntax, notation, axiom, sorry.
-/
import Derived.Test.YtclmeachbojopaaGreatDoorRows
import GoSem.ClaimSeven
namespace Go.Proofs.YtclmeachbojopaaGreatDoor
namespace Rows

/-- THE TIED CARD OF 'tautochronelaw09.CostBlock'. -/
def costBlockCard : Claim7 := { stood := { row := costBlockRow, standIns := [], harness := (true, "6899119bd7a4c795aa78bc148f703ea746298e5f54ab9c612e275010e076db79"), looks := true }, kinds := [], alts := [], laidByText := true, laidKinds := [.data, .data, .data, .sentinel, .sentinel], laidTests := true, laidLooks := .later }
def CostBlockCardSaid : Prop := Claim7.holds Tryz.pinned (.plain (OpenSpec.ofChange costBlockSpec)) costBlockCard

/-- THE TIED CARD OF 'tautochronelaw09.CostLoops'. -/
def costLoopsCard : Claim7 := { stood := { row := costLoopsRow, standIns := [], harness := (true, "6899119bd7a4c795aa78bc148f703ea746298e5f54ab9c612e275010e076db79"), looks := true }, kinds := [], alts := [], laidByText := true, laidKinds := [.data, .data, .data, .handle, .sentinel, .sentinel], laidTests := true, laidLooks := .later }
def CostLoopsCardSaid : Prop := Claim7.holds Tryz.pinned (.plain (OpenSpec.ofChange costLoopsSpec)) costLoopsCard

/-- THE TIED CARD OF 'tautochronelaw09.CostSum'. -/
def costSumCard : Claim7 := { stood := { row := costSumRow, standIns := [], harness := (true, "6899119bd7a4c795aa78bc148f703ea746298e5f54ab9c612e275010e076db79"), looks := true }, kinds := [], alts := [], laidByText := true, laidKinds := [.data, .data, .data, .sentinel, .sentinel], laidTests := true, laidLooks := .later }
def CostSumCardSaid : Prop := Claim7.holds Tryz.pinned (.plain (OpenSpec.ofChange costSumSpec)) costSumCard

/-- THE TIED CARD OF 'tautochronelaw09.CostMore'. -/
def costMoreCard : Claim7 := { stood := { row := costMoreRow, standIns := [], harness := (true, "6899119bd7a4c795aa78bc148f703ea746298e5f54ab9c612e275010e076db79"), looks := true }, kinds := [], alts := [], laidByText := true, laidKinds := [.data, .data, .data, .sentinel, .sentinel], laidTests := true, laidLooks := .later }
def CostMoreCardSaid : Prop := Claim7.holds Tryz.pinned (.plain (OpenSpec.ofChange costMoreSpec)) costMoreCard

/-- THE SECOND FORM's CARD OF 'tautochronelaw09.CostBlock'. -/
def costBlockUptoCard : Claim7 := { stood := { row := costBlockUptoRow, standIns := [], harness := (true, "6899119bd7a4c795aa78bc148f703ea746298e5f54ab9c612e275010e076db79"), looks := true }, kinds := [], alts := [], laidByText := true, laidKinds := [.data, .data, .data, .sentinel, .sentinel], laidTests := true, laidLooks := .later }
def CostBlockUptoCardSaid : Prop := Claim7.holds Tryz.pinned (.plain (OpenSpec.upto costBlockSpec)) costBlockUptoCard

/-- THE SECOND FORM's CARD OF 'tautochronelaw09.CostLoops'. -/
def costLoopsUptoCard : Claim7 := { stood := { row := costLoopsUptoRow, standIns := [], harness := (true, "6899119bd7a4c795aa78bc148f703ea746298e5f54ab9c612e275010e076db79"), looks := true }, kinds := [], alts := [], laidByText := true, laidKinds := [.data, .data, .data, .handle, .sentinel, .sentinel], laidTests := true, laidLooks := .later }
def CostLoopsUptoCardSaid : Prop := Claim7.holds Tryz.pinned (.plain (OpenSpec.upto costLoopsSpec)) costLoopsUptoCard

/-- THE SECOND FORM's CARD OF 'tautochronelaw09.CostSum'. -/
def costSumUptoCard : Claim7 := { stood := { row := costSumUptoRow, standIns := [], harness := (true, "6899119bd7a4c795aa78bc148f703ea746298e5f54ab9c612e275010e076db79"), looks := true }, kinds := [], alts := [], laidByText := true, laidKinds := [.data, .data, .data, .sentinel, .sentinel], laidTests := true, laidLooks := .later }
def CostSumUptoCardSaid : Prop := Claim7.holds Tryz.pinned (.plain (OpenSpec.upto costSumSpec)) costSumUptoCard

/-- THE SECOND FORM's CARD OF 'tautochronelaw09.CostMore'. -/
def costMoreUptoCard : Claim7 := { stood := { row := costMoreUptoRow, standIns := [], harness := (true, "6899119bd7a4c795aa78bc148f703ea746298e5f54ab9c612e275010e076db79"), looks := true }, kinds := [], alts := [], laidByText := true, laidKinds := [.data, .data, .data, .sentinel, .sentinel], laidTests := true, laidLooks := .later }
def CostMoreUptoCardSaid : Prop := Claim7.holds Tryz.pinned (.plain (OpenSpec.upto costMoreSpec)) costMoreUptoCard
end Rows
end Go.Proofs.YtclmeachbojopaaGreatDoor
