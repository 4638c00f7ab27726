/-
  DERIVED. GIVEN WITH THE SEED: THE CARDS: each row of YtlfiicfkjlobhaaDoorRows.lean that lists a variable, with what it lists TIED to the program's text (the seventh form; the later family's looks); each row that meets fmt, with fmt's text TOLD by the authors' own Lean function (tested against real Go, not proved from fmt's source: count such statements apart). THE CARD IS WHAT COUNTS. Prove the row's statement (the work); the ties are given (YtlfiicfkjlobhaaDoorTie.lean); close each card by the builder's one call (the guide's Derived/Test/ToyasCard.lean, 'card_holds'). Laid BY PROGRAM, IN A SANDBOX (cutbox-door.mjs). By AI agents, Wed Nov 11 2026. No macro, syntax, notation, axiom, sorry.
-/
import Derived.Test.YtlfiicfkjlobhaaDoorRows
import GoSem.ClaimSeven
namespace Go.Proofs.YtlfiicfkjlobhaaDoor
namespace Rows

/-- THE TIED CARD OF 'tautochronelaw04.TreeExpr'. -/
def treeExprCard : Claim7 := { stood := { row := treeExprRow, standIns := [], harness := (true, "2e771bdb59f145f9c90c59c4c8eedaf9060c2a3d0a6408e1bfb4b68a90128146"), looks := false }, kinds := [], alts := [], laidByText := true, laidKinds := [.data, .data, .data], laidTests := true, laidLooks := .later }
def TreeExprCardSaid : Prop := Claim7.holds Tryd.pinned (.plain (OpenSpec.ofChange treeExprSpec)) treeExprCard

/-- THE TIED CARD OF 'tautochronelaw04.TreeSame'. -/
def treeSameCard : Claim7 := { stood := { row := treeSameRow, standIns := [], harness := (true, "2e771bdb59f145f9c90c59c4c8eedaf9060c2a3d0a6408e1bfb4b68a90128146"), looks := false }, kinds := [], alts := [], laidByText := true, laidKinds := [.data, .data, .data], laidTests := true, laidLooks := .later }
def TreeSameCardSaid : Prop := Claim7.holds Tryd.pinned (.plain (OpenSpec.ofChange treeSameSpec)) treeSameCard

/-- THE TIED CARD OF 'tautochronelaw04.TreeLines'. -/
def treeLinesCard : Claim7 := { stood := { row := treeLinesRow, standIns := [], harness := (true, "2e771bdb59f145f9c90c59c4c8eedaf9060c2a3d0a6408e1bfb4b68a90128146"), looks := false }, kinds := [], alts := [], laidByText := true, laidKinds := [.data, .data, .data], laidTests := true, laidLooks := .later }
def TreeLinesCardSaid : Prop := Claim7.holds Tryd.pinned (.plain (OpenSpec.ofChange treeLinesSpec)) treeLinesCard

/-- THE SECOND FORM's CARD OF 'tautochronelaw04.TreeExpr'. -/
def treeExprUptoCard : Claim7 := { stood := { row := treeExprUptoRow, standIns := [], harness := (true, "2e771bdb59f145f9c90c59c4c8eedaf9060c2a3d0a6408e1bfb4b68a90128146"), looks := false }, kinds := [], alts := [], laidByText := true, laidKinds := [.data, .data, .data], laidTests := true, laidLooks := .later }
def TreeExprUptoCardSaid : Prop := Claim7.holds Tryd.pinned (.plain (OpenSpec.upto treeExprSpec)) treeExprUptoCard

/-- THE SECOND FORM's CARD OF 'tautochronelaw04.TreeSame'. -/
def treeSameUptoCard : Claim7 := { stood := { row := treeSameUptoRow, standIns := [], harness := (true, "2e771bdb59f145f9c90c59c4c8eedaf9060c2a3d0a6408e1bfb4b68a90128146"), looks := false }, kinds := [], alts := [], laidByText := true, laidKinds := [.data, .data, .data], laidTests := true, laidLooks := .later }
def TreeSameUptoCardSaid : Prop := Claim7.holds Tryd.pinned (.plain (OpenSpec.upto treeSameSpec)) treeSameUptoCard

/-- THE SECOND FORM's CARD OF 'tautochronelaw04.TreeLines'. -/
def treeLinesUptoCard : Claim7 := { stood := { row := treeLinesUptoRow, standIns := [], harness := (true, "2e771bdb59f145f9c90c59c4c8eedaf9060c2a3d0a6408e1bfb4b68a90128146"), looks := false }, kinds := [], alts := [], laidByText := true, laidKinds := [.data, .data, .data], laidTests := true, laidLooks := .later }
def TreeLinesUptoCardSaid : Prop := Claim7.holds Tryd.pinned (.plain (OpenSpec.upto treeLinesSpec)) treeLinesUptoCard
end Rows
end Go.Proofs.YtlfiicfkjlobhaaDoor
