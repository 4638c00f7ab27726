/- A token's cells, in a later world. Conditions: none. -/
import Derived.Test.YtfginegegaokbaaGreatDoorGPReadA
namespace Go.Proofs.YtfginegegaokbaaGreatDoor.Pr
open Go.ChangeShapes Go.WideShapes Go.ChangeAt Go.RowKit
set_option linter.unusedVariables false
set_option linter.unusedSimpArgs false

theorem some_at {α : Type} {l : List α} {i : Nat} (h : i < l.length) : ∃ x, l[i]? = some x := ⟨_, List.getElem?_eq_getElem h⟩
theorem tok_cells {w w' : World} {g i : Nat} {ts : List Lx.Tok} {t : Lx.Tok} (h : ToksAt w g 0 ts) (ht : ts[i]? = some t) (hg : g < w.heap.size) (hb : Below w.heap.size w w') :
    fitT t ∧ w'.cell? ⟨g, i * 4, none⟩ = some (.int .i64 (t.kind : Int)) ∧ w'.cell? ⟨g, i * 4 + 1, none⟩ = some (.string (bstr t.text)) ∧ w'.cell? ⟨g, i * 4 + 2, none⟩ = some (.int .u64 (t.value : Int)) ∧ w'.cell? ⟨g, i * 4 + 3, none⟩ = some (.int .i64 (t.at_ : Int)) := by
  obtain ⟨hf, c0, c1, c2, c3⟩ := h.2 i t ht
  rw [Nat.zero_add] at c0 c1 c2 c3
  have key : ∀ o, w'.cell? ⟨g, o, none⟩ = w.cell? ⟨g, o, none⟩ := fun o => hb.cell (p := ⟨g, o, none⟩) hg
  exact ⟨hf, (key _).trans c0, (key _).trans c1, (key _).trans c2, (key _).trans c3⟩
end Go.Proofs.YtfginegegaokbaaGreatDoor.Pr
