/- How a maker's function hands an expression back. -/
import Derived.Test.YtfginegegaokbaaGreatDoorMakeLeaf
namespace Go.Proofs.YtfginegegaokbaaGreatDoor
open Go.ChangeShapes Go.WideShapes Go.ChangeAt Go.RowKit
set_option linter.unusedVariables false
set_option linter.unusedSimpArgs false

theorem box_free {w : World} {k : Nat} {x0 x1 x2 x3 x4 x5 : Value} (h : w.heap[k]? = some (.cells #[x0, x1, x2, x3, x4, x5] 57 (0, 0))) :
    w.frozen? ⟨k, 0, none⟩ = false ∧ w.frozen? ⟨k, 1, none⟩ = false ∧ w.frozen? ⟨k, 2, none⟩ = false ∧ w.frozen? ⟨k, 3, none⟩ = false ∧ w.frozen? ⟨k, 4, none⟩ = false ∧ w.frozen? ⟨k, 5, none⟩ = false :=
  ⟨Lib.frozen_of_heap h 0, Lib.frozen_of_heap h 1, Lib.frozen_of_heap h 2, Lib.frozen_of_heap h 3, Lib.frozen_of_heap h 4, Lib.frozen_of_heap h 5⟩
/-- Six cells stored. -/
@[reducible] def put6 (w : World) (r : Nat) (u0 u1 u2 u3 u4 u5 : Value) : World :=
  (((((w.setCell ⟨r, 0, none⟩ u0).setCell ⟨r, 1, none⟩ u1).setCell ⟨r, 2, none⟩ u2).setCell ⟨r, 3, none⟩ u3).setCell ⟨r, 4, none⟩ u4).setCell ⟨r, 5, none⟩ u5
theorem set_heap {w : World} {b : Nat} {cs : Array Value} {t : TypeId} {fr : Nat × Nat} (h : w.heap[b]? = some (.cells cs t fr)) (j : Nat) (u : Value) : (w.setCell ⟨b, j, none⟩ u).heap[b]? = some (.cells (cs.setIfInBounds j u) t fr) := by
  simp [World.setCell, Array.getElem?_modify, h]
theorem put6_heap {w : World} {r : Nat} {x0 x1 x2 x3 x4 x5 : Value} (h : w.heap[r]? = some (.cells #[x0, x1, x2, x3, x4, x5] 57 (0, 0))) (u0 u1 u2 u3 u4 u5 : Value) :
    (put6 w r u0 u1 u2 u3 u4 u5).heap[r]? = some (.cells #[u0, u1, u2, u3, u4, u5] 57 (0, 0)) := set_heap (set_heap (set_heap (set_heap (set_heap (set_heap h 0 u0) 1 u1) 2 u2) 3 u3) 4 u4) 5 u5
theorem put6_other (w : World) (r : Nat) (u0 u1 u2 u3 u4 u5 : Value) (k : Nat) (h : k ≠ r) : (put6 w r u0 u1 u2 u3 u4 u5).heap[k]? = w.heap[k]? := by
  have key : ∀ (w : World) (j : Nat) (u : Value), (w.setCell ⟨r, j, none⟩ u).heap[k]? = w.heap[k]? := fun w j u => Below.heap_setCell w ⟨r, j, none⟩ u k h
  rw [put6, key, key, key, key, key, key]
theorem put6_size (w : World) (r : Nat) (u0 u1 u2 u3 u4 u5 : Value) : (put6 w r u0 u1 u2 u3 u4 u5).heap.size = w.heap.size := by simp [put6, World.setCell]
theorem set_grown (w : World) (r j : Nat) (u : Value) : w.grownBy (w.setCell ⟨r, j, none⟩ u) (some r) := ⟨rfl, rfl, rfl, by simp [World.setCell], fun k _ hk => Below.heap_setCell _ _ _ _ (fun e => hk (by simp [e]))⟩
theorem put6_grown (w : World) (r : Nat) (u0 u1 u2 u3 u4 u5 : Value) : w.grownBy (put6 w r u0 u1 u2 u3 u4 u5) (some r) :=
  grownBy_trans (grownBy_trans (grownBy_trans (grownBy_trans (grownBy_trans (set_grown _ _ _ _) (set_grown _ _ _ _)) (set_grown _ _ _ _)) (set_grown _ _ _ _)) (set_grown _ _ _ _)) (set_grown _ _ _ _)
theorem put6_maker {B bm : Nat} {E : Env} {ns : List UInt8} {w : World} (h : MakerAt B bm E ns w) {r : Nat} {x0 x1 x2 x3 x4 x5 : Value} (hr : w.heap[r]? = some (.cells #[x0, x1, x2, x3, x4, x5] 57 (0, 0))) (hB : B ≤ r) (u0 u1 u2 u3 u4 u5 : Value) : MakerAt B bm E ns (put6 w r u0 u1 u2 u3 u4 u5) := by
  have r1 := set_heap hr 0 u0
  have r2 := set_heap r1 1 u1
  have r3 := set_heap r2 2 u2
  have r4 := set_heap r3 3 u3
  have r5 := set_heap r4 4 u4
  exact (((((h.set hr hB 0 u0).set r1 hB 1 u1).set r2 hB 2 u2).set r3 hB 3 u3).set r4 hB 4 u4).set r5 hB 5 u5

/-- What a function of the maker's that answers an expression leaves. -/
def Made (B bm : Nat) (E : Env) (n : Nat) (w : World) (tn : Tree × List UInt8) (e : Ending) (w' : World) : Prop :=
  ∃ v, e = .returned v ∧ ERep w.heap.size w'.heap.size w' n v tn.1 ∧ MakerAt B bm E tn.2 w' ∧ w.grownBy w' (some bm)

/-- Behind the maker's other functions a block of expressions stands as it stood. -/
theorem same35_grown {B bm : Nat} {E : Env} {ns : List UInt8} {w w' : World} (h : MakerAt B bm E ns w) (hg : w.grownBy w' (some bm)) (lo : Nat) : Same35 lo w.heap.size w w' := fun g cs fr _ hlt hc => by
  obtain ⟨_, nv, lv, sv, cv, h2, _⟩ := h
  exact (hg.block g hlt (fun e => by simp only [Option.some.injEq] at e; subst e; rw [h2] at hc; simp at hc)).trans hc
theorem heap_grown {B bm : Nat} {E : Env} {ns : List UInt8} {w w' : World} (h : MakerAt B bm E ns w) (hg : w.grownBy w' (some bm)) {r : Nat} {cs : Array Value} {fr : Nat × Nat} (hr : w.heap[r]? = some (.cells cs 57 fr)) : w'.heap[r]? = some (.cells cs 57 fr) :=
  same35_grown h hg 0 r cs fr (Nat.zero_le _) (heap_lt hr) hr

/-- The end: the answer is stored in the block that was made first. -/
theorem made_end {B bm : Nat} {E : Env} {n : Nat} {w w5 : World} {o : Obj} {tn : Tree × List UInt8} {u0 u1 u2 u3 u4 u5 x0 x1 x2 x3 x4 x5 : Value} (hB : B ≤ w.heap.size) (hg : (w.alloc o).grownBy w5 (some bm)) (hM : MakerAt B bm E tn.2 w5)
    (hr : w5.heap[w.heap.size]? = some (.cells #[x0, x1, x2, x3, x4, x5] 57 (0, 0))) (hE : ERep (w.heap.size + 1) w5.heap.size w5 n (.agg #[u0, u1, u2, u3, u4, u5]) tn.1) :
    Made B bm E n w tn (.returned (.agg #[u0, u1, u2, u3, u4, u5])) (put6 w5 w.heap.size u0 u1 u2 u3 u4 u5) := by
  refine ⟨_, rfl, ?_, put6_maker hM hr hB _ _ _ _ _ _, ?_⟩
  · refine hE.carry (by omega) (by rw [put6_size]; exact Nat.le_refl _) fun g cs fr hlo _ hc => ?_
    exact (put6_other _ _ _ _ _ _ _ _ g (by omega)).trans hc
  · have hs := hg.size
    rw [alloc_size] at hs
    have hp := put6_grown w5 w.heap.size u0 u1 u2 u3 u4 u5
    refine ⟨hp.os.trans hg.os, hp.tape.trans hg.tape, hp.output.trans hg.output, by rw [put6_size]; omega, fun k hk hkr => ?_⟩
    rw [put6_other _ _ _ _ _ _ _ _ k (by omega), hg.block k (by rw [alloc_size]; omega) hkr, alloc_at, if_neg (by omega)]
/-- .. where a block was made for its parts. -/
theorem made_end_alloc {B bm : Nat} {E : Env} {n : Nat} {w w5 : World} {o o2 : Obj} {tn : Tree × List UInt8} {u0 u1 u2 u3 u4 u5 x0 x1 x2 x3 x4 x5 : Value} (hB : B ≤ w.heap.size) (hg : (w.alloc o).grownBy w5 (some bm)) (hM : MakerAt B bm E tn.2 w5)
    (hr : w5.heap[w.heap.size]? = some (.cells #[x0, x1, x2, x3, x4, x5] 57 (0, 0))) (hE : ERep (w.heap.size + 1) (w5.alloc o2).heap.size (w5.alloc o2) n (.agg #[u0, u1, u2, u3, u4, u5]) tn.1) :
    Made B bm E n w tn (.returned (.agg #[u0, u1, u2, u3, u4, u5])) ((put6 w5 w.heap.size u0 u1 u2 u3 u4 u5).alloc o2) := by
  refine ⟨_, rfl, ?_, (put6_maker hM hr hB _ _ _ _ _ _).alloc o2, ?_⟩
  · refine hE.carry (by omega) (by rw [alloc_size, alloc_size, put6_size]; exact Nat.le_refl _) fun g cs fr hlo _ hc => ?_
    rw [alloc_at, put6_size, put6_other _ _ _ _ _ _ _ _ g (by omega), ← alloc_at]
    exact hc
  · have hs := hg.size
    rw [alloc_size] at hs
    have hp := put6_grown w5 w.heap.size u0 u1 u2 u3 u4 u5
    have ha := World.grownBy_alloc (put6 w5 w.heap.size u0 u1 u2 u3 u4 u5) o2 none
    refine ⟨(ha.os.trans hp.os).trans hg.os, (ha.tape.trans hp.tape).trans hg.tape, (ha.output.trans hp.output).trans hg.output, by rw [alloc_size, put6_size]; omega, fun k hk hkr => ?_⟩
    rw [alloc_at, put6_size, if_neg (by omega), put6_other _ _ _ _ _ _ _ _ k (by omega), hg.block k (by rw [alloc_size]; omega) hkr, alloc_at, if_neg (by omega)]
/-- A block's cells behind a new block. -/
theorem box_later {w : World} {k : Nat} {x0 x1 x2 x3 x4 x5 : Value} (h : w.heap[k]? = some (.cells #[x0, x1, x2, x3, x4, x5] 57 (0, 0))) :
    (∀ o, (w.alloc o).cell? ⟨k, 0, none⟩ = some x0) ∧ (∀ o, (w.alloc o).cell? ⟨k, 1, none⟩ = some x1) ∧ (∀ o, (w.alloc o).cell? ⟨k, 2, none⟩ = some x2) ∧ (∀ o, (w.alloc o).cell? ⟨k, 3, none⟩ = some x3) ∧ (∀ o, (w.alloc o).cell? ⟨k, 4, none⟩ = some x4) ∧ (∀ o, (w.alloc o).cell? ⟨k, 5, none⟩ = some x5) ∧
    (∀ o, (w.alloc o).frozen? ⟨k, 0, none⟩ = false) ∧ (∀ o, (w.alloc o).frozen? ⟨k, 1, none⟩ = false) ∧ (∀ o, (w.alloc o).frozen? ⟨k, 2, none⟩ = false) ∧ (∀ o, (w.alloc o).frozen? ⟨k, 3, none⟩ = false) ∧ (∀ o, (w.alloc o).frozen? ⟨k, 4, none⟩ = false) ∧ (∀ o, (w.alloc o).frozen? ⟨k, 5, none⟩ = false) := by
  have h' : ∀ o, (w.alloc o).heap[k]? = some (.cells #[x0, x1, x2, x3, x4, x5] 57 (0, 0)) := fun o => (Lib.alloc_old w o k (heap_lt h)).trans h
  exact ⟨fun o => (box_cells (h' o)).1, fun o => (box_cells (h' o)).2.1, fun o => (box_cells (h' o)).2.2.1, fun o => (box_cells (h' o)).2.2.2.1, fun o => (box_cells (h' o)).2.2.2.2.1, fun o => (box_cells (h' o)).2.2.2.2.2,
    fun o => (box_free (h' o)).1, fun o => (box_free (h' o)).2.1, fun o => (box_free (h' o)).2.2.1, fun o => (box_free (h' o)).2.2.2.1, fun o => (box_free (h' o)).2.2.2.2.1, fun o => (box_free (h' o)).2.2.2.2.2⟩
end Go.Proofs.YtfginegegaokbaaGreatDoor
