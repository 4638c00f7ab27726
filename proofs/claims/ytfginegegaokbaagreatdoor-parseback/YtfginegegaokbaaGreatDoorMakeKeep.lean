/- What the maker's statements leave of memory: all but its own rows. Conditions: none. -/
import Derived.Test.YtfginegegaokbaaGreatDoorMakeStmPlain
import Derived.Test.YtfginegegaokbaaGreatDoorMakeRet
import Derived.Test.YtfginegegaokbaaGreatDoorMakeSecAll
import Derived.Test.YtfginegegaokbaaGreatDoorStmRep
import Derived.Deep.AppendLies
namespace Go.Proofs.YtfginegegaokbaaGreatDoor
open Go.ChangeShapes Go.WideShapes Go.ChangeAt Go.RowKit
set_option linter.unusedVariables false
set_option linter.unusedSimpArgs false

/-- Below B, and every block that is no row of strings, truths or numbers and no maker, is as it was. -/
def KeepM (B : Nat) (w w' : World) : Prop :=
  Below B w w' ∧ ∀ (k : Nat) (cs : Array Value) (t : TypeId) (fr : Nat × Nat), w.heap[k]? = some (.cells cs t fr) → t ≠ 73 → t ≠ 9 → t ≠ 4 → t ≠ 3 → w'.heap[k]? = some (.cells cs t fr)
theorem KeepM.refl (B : Nat) (w : World) : KeepM B w w := ⟨Below.refl _ _, fun _ _ _ _ h _ _ _ _ => h⟩
theorem KeepM.trans {B : Nat} {a b c : World} (h : KeepM B a b) (k : KeepM B b c) : KeepM B a c := ⟨h.1.trans k.1, fun i cs t fr hi h1 h2 h3 h4 => k.2 i cs t fr (h.2 i cs t fr hi h1 h2 h3 h4) h1 h2 h3 h4⟩
theorem KeepM.of_below {B : Nat} {w w' : World} (hB : B ≤ w.heap.size) (h : Below w.heap.size w w') : KeepM B w w' := ⟨h.mono hB, fun k cs t fr hk _ _ _ _ => (h.block k (heap_lt hk)).trans hk⟩
theorem KeepM.alloc {B : Nat} {a w : World} (h : KeepM B a w) (hB : B ≤ w.heap.size) (o : Obj) : KeepM B a (w.alloc o) := h.trans (KeepM.of_below hB ((Below.refl _ _).alloc (Nat.le_refl _) o))
theorem KeepM.drew {B : Nat} {a w : World} (h : KeepM B a w) : KeepM B a w.drew := ⟨⟨h.1.os, h.1.tape, h.1.output, h.1.size, h.1.block⟩, h.2⟩
/-- The maker's expressions write its own block alone. -/
theorem KeepM.of_grown {B bm : Nat} {E : Env} {ns : List UInt8} {w w' : World} (h : MakerAt B bm E ns w) (hg : w.grownBy w' (some bm)) : KeepM B w w' := by
  have hB := h.base
  obtain ⟨h1, nv, lv, sv, cv, h2, _⟩ := h
  refine ⟨⟨hg.os, hg.tape, hg.output, hg.size, fun k hk => hg.block k (by omega) (fun e => by cases e; omega)⟩, fun k cs t fr hk hm _ _ _ => ?_⟩
  exact (hg.block k (heap_lt hk) (fun e => by cases e; rw [h2] at hk; cases hk; exact hm rfl)).trans hk
theorem KeepM.size {B : Nat} {w w' : World} (h : KeepM B w w') : w.heap.size ≤ w'.heap.size := h.1.size
theorem KeepM.same35 {B : Nat} {w w' : World} (h : KeepM B w w') (lo hi : Nat) : Same35 lo hi w w' := fun g cs fr _ _ hg => h.2 g cs _ fr hg (by decide) (by decide) (by decide) (by decide)
theorem KeepM.same45 {B : Nat} {w w' : World} (h : KeepM B w w') (lo hi : Nat) : Same45 lo hi w w' := fun g cs fr _ _ hg => h.2 g cs _ fr hg (by decide) (by decide) (by decide) (by decide)
end Go.Proofs.YtfginegegaokbaaGreatDoor
