/- A statement under way, and its expressions, in memory: a list that grows. Conditions: none. -/
import Derived.Test.YtfginegegaokbaaGreatDoorPExprL
import Derived.Test.YtfginegegaokbaaGreatDoorMakeRows
namespace Go.Proofs.YtfginegegaokbaaGreatDoor.Pr
open Go.ChangeShapes Go.WideShapes Go.ChangeAt Go.RowKit
open Lx (Tok)
set_option linter.unusedVariables false
set_option linter.unusedSimpArgs false

/-- How deep an expression may be. -/
def bigM : Nat := 70000
/-- The cells of an expression in a list. -/
def Cells6 (xs : List Value) (i : Nat) (u : Value) : Prop :=
  ∃ c0 c1 c2 c3 c4 c5, xs[i * 6]? = some c0 ∧ xs[i * 6 + 1]? = some c1 ∧ xs[i * 6 + 2]? = some c2 ∧ xs[i * 6 + 3]? = some c3 ∧ xs[i * 6 + 4]? = some c4 ∧ xs[i * 6 + 5]? = some c5 ∧ u = .agg #[c0, c1, c2, c3, c4, c5]
theorem cells6_left {xs ys : List Value} {i : Nat} {u : Value} (h : Cells6 xs i u) : Cells6 (xs ++ ys) i u := by
  obtain ⟨c0, c1, c2, c3, c4, c5, e0, e1, e2, e3, e4, e5, rfl⟩ := h
  have key : ∀ {j : Nat} {c : Value}, xs[j]? = some c → (xs ++ ys)[j]? = some c := fun {j c} h => by
    rw [List.getElem?_append_left (List.getElem?_eq_some_iff.1 h).1]; exact h
  exact ⟨c0, c1, c2, c3, c4, c5, key e0, key e1, key e2, key e3, key e4, key e5, rfl⟩
theorem cells6_last {xs : List Value} {n : Nat} (hl : xs.length = n * 6) (c0 c1 c2 c3 c4 c5 : Value) : Cells6 (xs ++ [c0, c1, c2, c3, c4, c5]) n (.agg #[c0, c1, c2, c3, c4, c5]) := by
  have key : ∀ (j : Nat) (c : Value), [c0, c1, c2, c3, c4, c5][j]? = some c → (xs ++ [c0, c1, c2, c3, c4, c5])[n * 6 + j]? = some c := fun j c h => by
    rw [List.getElem?_append_right (by omega), show n * 6 + j - xs.length = j by omega]; exact h
  exact ⟨c0, c1, c2, c3, c4, c5, key 0 _ rfl, key 1 _ rfl, key 2 _ rfl, key 3 _ rfl, key 4 _ rfl, key 5 _ rfl, rfl⟩
/-- The expressions of a list, each in blocks of its own. -/
def Elems (lo : Nat) (w : World) (own : Option Nat) (xs : List Value) (es : List Tree) : Prop :=
  ∀ (i : Nat) (e : Tree), es[i]? = some e → ∃ p q u, Cells6 xs i u ∧ lo ≤ p ∧ q ≤ w.heap.size ∧ (∀ g, own = some g → g < p ∨ q ≤ g) ∧ ERep p q w bigM u e
/-- A list of expressions that the call owns, from block lo on. -/
def ExRow (lo : Nat) (w : World) (v : Value) (es : List Tree) : Prop :=
  ∃ xs, w.ownsRow lo 57 6 v es.length xs ∧ lo ≤ w.heap.size ∧ Elems lo w v.ownBlock xs es
theorem ExRow.nil {lo : Nat} {w : World} (h : lo ≤ w.heap.size) : ExRow lo w (.slice none 0 0) [] := ⟨[], World.ownsRow_nil _ _ _ _, h, fun i s hs => by simp at hs⟩
theorem Elems.same {lo : Nat} {w w' : World} {own : Option Nat} {xs : List Value} {es : List Tree} (h : Elems lo w own xs es) (hz : w.heap.size ≤ w'.heap.size) (ht : TSame 57 w w') : Elems lo w' own xs es := fun i e he => by
  obtain ⟨p, q, u, a, b, c, d, E⟩ := h i e he
  exact ⟨p, q, u, a, b, by omega, d, E.carry (Nat.le_refl _) (Nat.le_refl _) (ht.s35 p q)⟩
theorem ExRow.same {lo : Nat} {w w' : World} {v : Value} {es : List Tree} (h : ExRow lo w v es) (hz : w.heap.size ≤ w'.heap.size) (ht : TSame 57 w w') : ExRow lo w' v es := by
  obtain ⟨xs, ho, hl, hr⟩ := h
  exact ⟨xs, own_same ho ht, by omega, hr.same hz ht⟩
theorem ExRow.kids {lo : Nat} {w : World} {v : Value} {es : List Tree} (h : ExRow lo w v es) (hlen : es.length ≤ 4294967296) : Kids lo w.heap.size w (fun v t => ERep lo w.heap.size w bigM v t) v es := by
  obtain ⟨xs, ho, hl, hr⟩ := h
  rcases ho.2 with ⟨rfl, h0⟩ | ⟨g, cap, cur, rfl, hb, hgg, rest⟩
  · rw [List.length_eq_zero_iff.1 h0]; exact kids0
  · refine ⟨_, cap, rfl, hlen, fun i s hs => ?_⟩
    obtain ⟨a, b, u, ⟨c0, c1, c2, c3, c4, c5, e0, e1, e2, e3, e4, e5, rfl⟩, ha, hb', hg, hS⟩ := hr i s hs
    have key : ∀ j u, xs[j]? = some u → w.cell? ⟨g, 0 + j, none⟩ = some u := fun j u hu => by
      have := World.ownsRow.cells ho (g := g) rfl j u hu
      rw [Lib.add_plain] at this
      exact this
    have key' : ∀ j r u, xs[j + r]? = some u → w.cell? ⟨g, 0 + j + r, none⟩ = some u := fun j r u hu => by rw [Nat.add_assoc]; exact key _ _ hu
    exact ⟨g, 0, c0, c1, c2, c3, c4, c5, rfl, hb, heap_lt hgg, ⟨_, _, hgg⟩, key _ _ e0, key' _ _ _ e1, key' _ _ _ e2, key' _ _ _ e3, key' _ _ _ e4, key' _ _ _ e5, hS.carry ha hb' (fun _ _ _ _ _ h => h)⟩
/-- Six cells stored at an offset. -/
@[reducible] def putAt (w : World) (g o : Nat) (u0 u1 u2 u3 u4 u5 : Value) : World :=
  (((((w.setCell ⟨g, o, none⟩ u0).setCell ⟨g, o + 1, none⟩ u1).setCell ⟨g, o + 2, none⟩ u2).setCell ⟨g, o + 3, none⟩ u3).setCell ⟨g, o + 4, none⟩ u4).setCell ⟨g, o + 5, none⟩ u5
theorem putAt_heap {w : World} {g o : Nat} {cs : Array Value} {t : TypeId} {fr : Nat × Nat} (h : w.heap[g]? = some (.cells cs t fr)) (u0 u1 u2 u3 u4 u5 : Value) :
    (putAt w g o u0 u1 u2 u3 u4 u5).heap[g]? = some (.cells ((((((cs.setIfInBounds o u0).setIfInBounds (o + 1) u1).setIfInBounds (o + 2) u2).setIfInBounds (o + 3) u3).setIfInBounds (o + 4) u4).setIfInBounds (o + 5) u5) t fr) :=
  set_heap (set_heap (set_heap (set_heap (set_heap (set_heap h _ u0) _ u1) _ u2) _ u3) _ u4) _ u5
theorem putAt_grown (w : World) (g o : Nat) (u0 u1 u2 u3 u4 u5 : Value) : w.grownBy (putAt w g o u0 u1 u2 u3 u4 u5) (some g) :=
  grownBy_trans (grownBy_trans (grownBy_trans (grownBy_trans (grownBy_trans (set_grown _ _ _ _) (set_grown _ _ _ _)) (set_grown _ _ _ _)) (set_grown _ _ _ _)) (set_grown _ _ _ _)) (set_grown _ _ _ _)
theorem putAt_size (w : World) (g o : Nat) (u0 u1 u2 u3 u4 u5 : Value) : (putAt w g o u0 u1 u2 u3 u4 u5).heap.size = w.heap.size := by simp [putAt, World.setCell]
theorem own_putAt {w : World} {lo g n cap : Nat} {e : TypeId} {xs : List Value} {o0 o1 o2 o3 o4 o5 : Value} (h : w.ownsRow lo e 6 (.slice (some ⟨g, 0, none⟩) (n + 1) cap) (n + 1) (xs ++ [o0, o1, o2, o3, o4, o5])) (u0 u1 u2 u3 u4 u5 : Value) :
    (putAt w g (n * 6) u0 u1 u2 u3 u4 u5).ownsRow lo e 6 (.slice (some ⟨g, 0, none⟩) (n + 1) cap) (n + 1) (xs ++ [u0, u1, u2, u3, u4, u5]) := by
  obtain ⟨hl, h2⟩ := h
  rcases h2 with ⟨h, _⟩ | ⟨g', cap', cur, hv, hb, hg, hn, hc, hs, ht⟩
  · cases h
  cases hv
  have hxl : xs.length = n * 6 := by simp at hl; omega
  refine ⟨by simp at hl ⊢; omega, .inr ⟨g, cap, _, rfl, hb, putAt_heap hg _ _ _ _ _ _, hn, hc, by simp; exact hs, ?_⟩⟩
  simp only [Array.toList_setIfInBounds, List.take_set, ht]
  rw [← hxl]
  simp [List.set_append]
end Go.Proofs.YtfginegegaokbaaGreatDoor.Pr
