/- What the cards' listed variables give the walks of CostBlock, CostSum and CostMore, and a world that meets the list. Conditions: as each theorem says. -/
import Derived.Test.YtclmeachbojopaaGreatDoorCards
import Derived.Test.YtclmeachbojopaaGreatDoorTie
import Derived.Test.YtclmeachbojopaaGreatDoorGLxB
import Derived.Test.YtclmeachbojopaaGreatDoorIntsFrame
import Derived.ChangeSame
import Derived.ChangeVars
import Derived.JoinedOf
import Derived.RowKit
import Derived.RowKitTokens
import Derived.LaidLaws
import Derived.Stop.LaidErr
import Derived.LaidMore
import Derived.SizedLaws
namespace Go.Proofs.YtclmeachbojopaaGreatDoor
open Go.ChangeShapes Go.WideShapes Go.ChangeAt Go.RowKit

theorem Tryz.own : ownKnob Tryz.prog.godebug = none := by kernel_rfl
theorem Tryz.laidOut : laidOutB Tryz.prog = true := by kernel_rfl
theorem gRange : Tryz.prog.globalNamed "strconv.ErrRange" = some 2 := by kernel_rfl
theorem tRange : (Tryz.prog.globals[2]?).map (·.type) = some 44 := by kernel_rfl

abbrev laidAll : List (String × DataW Unit) := Rows.costBlockRow.laid

theorem vars_of_laid {W : World} (h : laidMetH Tryz.prog laidAll W) : Lx.Vars W := by
  have h' : laidMet Tryz.prog laidAll W := h
  obtain ⟨ps, ⟨g0, t0, cs0, f0, p0, q0, hg0, ht0, hv0, hd0, _⟩, _⟩ := h'.tail.tail.tail
  obtain rfl := Option.some.inj (gRange.symm.trans hg0)
  obtain rfl := Option.some.inj (tRange.symm.trans ht0)
  obtain ⟨_, u, v, hcs, _⟩ := iface_of_trod Tryz.underlying44 hd0
  obtain ⟨l⟩ := cs0
  simp only at hcs
  subst hcs
  exact ⟨u, v, by simpa using World.var?_cell gRange hv0 0⟩

abbrev doorSteps : Nat := 69
theorem door_met (os : Os) (args : Array Value) : laidMetH Tryz.prog laidAll ((World.doorLaid Tryz.prog doorSteps os).forCall (fun _ _ => 0) ⟨#[], args, []⟩).memory :=
  (laidMet_of_run' 8 (by kernel_rfl) (by kernel_rfl) : laidMet Tryz.prog laidAll _)

end Go.Proofs.YtclmeachbojopaaGreatDoor
