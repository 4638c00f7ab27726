/- What CodeNext asks for, number by number, is what Next answers; an int laid at a row's end, at a plain region's list. Conditions: none of its own. -/
import Derived.Test.YtjiecfagblijhaaDoorCdNext
namespace Go.Proofs.YtjiecfagblijhaaDoor.Cd
open Go.ChangeShapes Go.WideShapes Go.ChangeAt Go.RowKit
set_option linter.unusedVariables false
set_option linter.unusedSimpArgs false

def pickB (J G : Bool) (t : Int) (q k : Nat) : Bool := (G && decide (k = q + 1)) || (J && decide (t = (k : Int)))
def wantP (J G : Bool) (t : Int) (q : Nat) : Nat → List Int
  | 0 => []
  | k + 1 => if pickB J G t q k then wantP J G t q k ++ [(k : Int)] else wantP J G t q k
theorem want_len (J G : Bool) (t : Int) (q : Nat) : ∀ k, (wantP J G t q k).length ≤ k
  | 0 => Nat.le_refl _
  | k + 1 => by
    have h := want_len J G t q k
    unfold wantP
    split
    · simp; omega
    · omega
theorem next_step (J G : Bool) (t : Int) (q k : Nat) : nextB J G t q (k + 1 : Nat) = if pickB J G t q k then nextB J G t q k ++ [(k : Int)] else nextB J G t q k := by
  have h1 : k = q + 1 ∨ k < q + 1 ∨ q + 1 < k := by omega
  have h2 : t = (k : Int) ∨ t < 0 ∨ (0 ≤ t ∧ t < k) ∨ (k : Int) < t := by omega
  have h3 : t = (q : Int) + 1 ∨ t < q + 1 ∨ (q : Int) + 1 < t := by omega
  cases J <;> cases G <;> simp only [nextB, pickB, Bool.false_and, Bool.true_and, Bool.false_or, Bool.or_false, decide_eq_true_eq, Bool.or_eq_true, Bool.false_eq_true, if_false, false_and, true_and, true_or, or_true, false_or, or_false]
  · repeat' split
    all_goals first | rfl | omega | (simp; omega)
  · repeat' split
    all_goals first | rfl | omega | (simp; omega)
  · repeat' split
    all_goals first | rfl | omega | (simp; omega)
theorem next_want (J G : Bool) (t : Int) (q : Nat) : ∀ k : Nat, nextB J G t q k = wantP J G t q k
  | 0 => by
    have h1 : ¬ ((q : Int) < (0 : Nat)) := by omega
    have h2 : ¬ (0 ≤ t ∧ t < ((0 : Nat) : Int)) := by omega
    unfold nextB wantP
    rw [if_neg (by rintro ⟨_, h, _⟩; exact h1 h), if_neg (by rintro ⟨_, h⟩; exact h2 h)]
  | k + 1 => by rw [next_step, next_want J G t q k]; rfl

/-- An int more at a slice's end, at a plain region's list. -/
theorem append_int {ops : Array Oper} {rest : List Oper} {o : Oper} {a : Act} {Q : Exit → Act → World → Prop} {w0 W : World} {B : Nat} (z : Int) {v : Value} {zs : List Int} (hgd : o.guard = none) (s x : Operand)
    (ho : o.op = .call { callee := .builtin .append, args := #[s, x], argTypes := #[34, 34] }) (hs : a.eval s = v) (hx : a.eval x = .slice (some ⟨W.heap.size, 0, none⟩) 1 1)
    (h : Own W B v zs) (hB : B ≤ W.heap.size) (hT : Below B w0 W) (hn : zs.length ≤ 1000000)
    (hk : ∀ v' w', Own w' B v' (zs ++ [z]) → Below B w0 w' → wpList Tryd.prog ops Q rest (a.put o.dst v') w') : wpList Tryd.prog ops Q (o :: rest) a (W.alloc (.cells #[.int .i64 z] 3)) := by
  obtain ⟨i0, hi, h0⟩ := Option.map_eq_some_iff.1 infoI
  simp only [Prod.mk.injEq] at h0
  obtain ⟨hz0, hz1, hz2⟩ := h0
  have hb1 : Below W.heap.size W (W.alloc (.cells #[.int .i64 z] 3)) := (Below.refl _ _).alloc (Nat.le_refl _) _
  have hown := h.on hb1
  refine wpList_append_lies _ hgd s x 34 ho B 3 i0 _ 1 8 Tryd.underlying34 hi hz0 hz1 hz2 rfl (by decide) v zs.length (zs.map (Value.int .i64)) hs hown ⟨W.heap.size, 0, none⟩ 1 1 [.int .i64 z] hx (by simp) (World.news_of_block (fr := (0, 0)) (t := 3) (by rw [alloc_at, if_pos rfl])) (by simp [Value.oneCell']) (by decide) (by unfold maxLen; omega) (by omega) (by rw [alloc_size]; omega) _ rfl ?_
  intro g cap w' h1 h2 _ _
  refine hk _ w' ?_ ((hT.trans ((Below.refl B W).alloc hB _)).grown h2 (by rw [alloc_size]; omega) (fun k hk => (World.ownsRow.lt hown k hk).1))
  unfold Own
  rw [List.length_append, List.map_append]
  exact h1
end Go.Proofs.YtjiecfagblijhaaDoor.Cd
