/- What the cards' listed variables give the walks that print numbers too. Conditions: as each theorem says. -/
import Derived.Test.YtfginegegaokbaaGreatDoorHPFrame
import Derived.Test.YtfginegegaokbaaGreatDoorGTreeM
import Derived.Lib.LaidTab
namespace Go.Proofs.YtfginegegaokbaaGreatDoor
open Go.ChangeShapes Go.WideShapes Go.ChangeAt Go.RowKit

def Both (w : World) : Prop := Vars w.heap.size w /\ Lx.Vars w
theorem vars2_of_laid {W : World} (h : laidMetH Tryz.prog laidAll W) : Both W := by
  refine ⟨?_, vars_of_laid h⟩
  have h' : laidMet Tryz.prog (laidAll.filter fun x => x.2.handleName?.isNone) W /\ handlesMet Tryz.prog (laidAll.filter fun x => x.2.handleName?.isSome) W := h
  have h3 : laidMet Tryz.prog ((varuint64pow10, Lib.tabData .u64 Lib.pow10Tab) :: ("strconv.ErrRange", Rows.laid_strconv_ErrRange) :: ("strconv.ErrSyntax", Rows.laid_strconv_ErrSyntax) :: []) W := h'.1.tail.tail
  exact Lib.tabBelow_of_tabIs (Lib.tabIs_of_head (g := 1) (t := 214) (e := 46) (n := 20) (by kernel_rfl) (by kernel_rfl) Tryz.underlying214 Tryz.underlying46 (by kernel_rfl) (by kernel_rfl) h3)
end Go.Proofs.YtfginegegaokbaaGreatDoor
