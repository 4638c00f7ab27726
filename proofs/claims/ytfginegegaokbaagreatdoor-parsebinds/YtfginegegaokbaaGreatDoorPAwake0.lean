/- What the three texts of the law's awake are read as. Conditions: none. -/
import Derived.Test.YtfginegegaokbaaGreatDoorPPlain
namespace Go.Proofs.YtfginegegaokbaaGreatDoor.Pr
theorem aw1 : parseP [116, 104, 114, 101, 97, 100, 32, 123, 32, 125] = .ok ⟨[], [[]]⟩ := by kernel_rfl
theorem aw2 : parseP [116, 104, 114, 101, 97, 100, 32, 123, 32, 97, 32, 61, 32, 49, 32, 125] = .error (2, 15) := by kernel_rfl
theorem aw3 : parseP [] = .error (2, 0) := by kernel_rfl
end Go.Proofs.YtfginegegaokbaaGreatDoor.Pr
