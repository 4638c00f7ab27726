/- Slices of strings that a call has made; how one more is laid at their end. Conditions: none of its own. -/
import Derived.Test.YtjiecfagblijhaaDoorCdUses
import Derived.Test.YtjiecfagblijhaaDoorCdTextP
namespace Go.Proofs.YtjiecfagblijhaaDoor.Cd
open Go.ChangeShapes Go.WideShapes Go.ChangeAt Go.RowKit
set_option linter.unusedVariables false
set_option linter.unusedSimpArgs false

/-- Below B the world is as it was, and so is every block that is no row of strings. -/
def Tame (B : Nat) (w w' : World) : Prop := Below B w w' ∧ ∀ (k : Nat) cs t fr, t ≠ 9 → w.heap[k]? = some (.cells cs t fr) → w'.heap[k]? = some (.cells cs t fr)
theorem Tame.refl (B : Nat) (w : World) : Tame B w w := ⟨Below.refl _ _, fun _ _ _ _ _ h => h⟩
theorem Tame.trans {B : Nat} {a w w' : World} (h : Tame B a w) (k : Tame B w w') : Tame B a w' := ⟨h.1.trans k.1, fun i cs t fr ht hc => k.2 i cs t fr ht (h.2 i cs t fr ht hc)⟩
theorem Tame.of {B : Nat} {w w' : World} (h : Below w.heap.size w w') (hB : B ≤ w.heap.size) : Tame B w w' := ⟨h.mono hB, fun k cs t fr _ hk => (h.block k (heap_lt hk)).trans hk⟩
theorem Tame.alloc {B : Nat} {a w : World} (h : Tame B a w) (hB : B ≤ w.heap.size) (o : Obj) : Tame B a (w.alloc o) := h.trans (Tame.of ((Below.refl _ _).alloc (Nat.le_refl _) o) hB)
theorem Tame.on {B : Nat} {a w w' : World} (h : Tame B a w) (hB : B ≤ w.heap.size) (hb : Below w.heap.size w w') : Tame B a w' := h.trans (Tame.of hb hB)
theorem Tame.size {B : Nat} {w w' : World} (h : Tame B w w') : w.heap.size ≤ w'.heap.size := h.1.size

def strsV (ss : List (List UInt8)) : List Value := ss.map fun l => Value.string (bstr l)
def Strs (w : World) (B : Nat) (v : Value) (ss : List (List UInt8)) : Prop := w.ownsRow B 9 1 v ss.length (strsV ss)
theorem Strs.on {w w' : World} {B : Nat} {v : Value} {ss : List (List UInt8)} (h : Strs w B v ss) (hb : Below w.heap.size w w') : Strs w' B v ss :=
  World.ownsRow.kept (row := none) h ⟨hb.os, hb.tape, hb.output, hb.size, fun k hk _ => hb.block k hk⟩ (by cases v.ownBlock <;> simp)
theorem Strs.new {W : World} {B : Nat} (l : List UInt8) (hB : B ≤ W.heap.size) : Strs (W.alloc (.cells #[.string (bstr l)] 9)) B (.slice (some ⟨W.heap.size, 0, none⟩) 1 1) [l] :=
  ⟨by simp [strsV], .inr ⟨W.heap.size, 1, #[.string (bstr l)], rfl, hB, by rw [alloc_at, if_pos rfl], Nat.le_refl _, by unfold maxLen; omega, by simp, by simp [strsV]⟩⟩
theorem Strs.form {w : World} {B : Nat} {v : Value} {ss : List (List UInt8)} (h : Strs w B v ss) (hn : 0 < ss.length) :
    ∃ g cap, v = .slice (some ⟨g, 0, none⟩) ss.length cap ∧ ss.length ≤ cap ∧ g < w.heap.size ∧ ∀ k l, ss[k]? = some l → w.cell? ⟨g, k, none⟩ = some (.string (bstr l)) := by
  rcases h.2 with ⟨rfl, h0⟩ | ⟨g, cap, cur, rfl, hb, hg, hn, hc, hs, ht⟩
  · omega
  · refine ⟨_, cap, rfl, by omega, heap_lt hg, fun k l hl => ?_⟩
    rw [Lib.cell_of_heap hg]
    have hk : k < ss.length := (List.getElem?_eq_some_iff.1 hl).1
    have e : (cur.toList.take (ss.length * 1))[k]? = some (.string (bstr l)) := by rw [ht]; simp [strsV, hl]
    rw [List.getElem?_take_of_lt (by omega)] at e
    simpa using e
theorem infoS : (Tryd.prog.info? 9).map (fun i => (i.zero, i.size, i.bytes)) = some (some (.string ⟨#[]⟩), 1, 16) := by kernel_rfl
theorem Tame.grown {B : Nat} {a w w' : World} {v : Value} {n : Nat} {xs : List Value} (h : Tame B a w) (hown : w.ownsRow B 9 1 v n xs) (hg : w.grownBy w' v.ownBlock) (hB : B ≤ w.heap.size) : Tame B a w' := by
  refine h.trans ⟨(Below.refl _ _).grown hg hB (fun k hk => (hown.lt k hk).1), fun k cs t fr ht hc => ?_⟩
  refine (hg.block k (heap_lt hc) fun e => ?_).trans hc
  rcases hown.2 with ⟨rfl, _⟩ | ⟨g, cap, cur, rfl, _, hgg, _⟩
  · simp [Value.ownBlock] at e
  · simp only [Value.ownBlock, Option.some.injEq] at e
    subst e
    rw [hgg] at hc
    simp only [Option.some.injEq, Obj.cells.injEq] at hc
    exact ht hc.2.1.symm
/-- A string more at a slice's end, at a plain region's list. -/
theorem append_str {ops : Array Oper} {rest : List Oper} {o : Oper} {a : Act} {Q : Exit → Act → World → Prop} {w0 W : World} {B : Nat} (l : List UInt8) {v : Value} {ss : List (List UInt8)} (hgd : o.guard = none) (s x : Operand)
    (ho : o.op = .call { callee := .builtin .append, args := #[s, x], argTypes := #[42, 42] }) (hs : a.eval s = v) (hx : a.eval x = .slice (some ⟨W.heap.size, 0, none⟩) 1 1)
    (h : Strs W B v ss) (hB : B ≤ W.heap.size) (hT : Tame B w0 W) (hn : ss.length ≤ 100)
    (hk : ∀ v' w', Strs w' B v' (ss ++ [l]) → Tame B w0 w' → wpList Tryd.prog ops Q rest (a.put o.dst v') w') : wpList Tryd.prog ops Q (o :: rest) a (W.alloc (.cells #[.string (bstr l)] 9)) := by
  obtain ⟨i0, hi, h0⟩ := Option.map_eq_some_iff.1 infoS
  simp only [Prod.mk.injEq] at h0
  obtain ⟨hz0, hz1, hz2⟩ := h0
  have hb1 : Below W.heap.size W (W.alloc (.cells #[.string (bstr l)] 9)) := (Below.refl _ _).alloc (Nat.le_refl _) _
  have hown := h.on hb1
  refine wpList_append_lies _ hgd s x 42 ho B 9 i0 _ 1 16 Tryd.underlying42 hi hz0 hz1 hz2 rfl (by decide) v ss.length (strsV ss) hs hown ⟨W.heap.size, 0, none⟩ 1 1 [.string (bstr l)] hx (by simp) (World.news_of_block (fr := (0, 0)) (t := 9) (by rw [alloc_at, if_pos rfl])) (by simp [Value.oneCell']) (by decide) (by unfold maxLen; omega) (by omega) (by rw [alloc_size]; omega) _ rfl ?_
  intro g cap w' h1 h2 _ _
  refine hk _ w' ?_ ((hT.on hB hb1).grown hown h2 (by rw [alloc_size]; omega))
  unfold Strs
  rw [List.length_append, strsV, List.map_append]
  exact h1
end Go.Proofs.YtjiecfagblijhaaDoor.Cd
