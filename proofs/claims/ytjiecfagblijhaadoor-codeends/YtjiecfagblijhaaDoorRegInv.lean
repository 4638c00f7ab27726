/- A region whose order is drawn: a condition that each operation keeps, whichever comes up, holds when all have come up. No program. -/
import Derived.Orders
import Derived.WalkKit
namespace Go.Proofs.YtjiecfagblijhaaDoor
open Go
set_option linter.unusedVariables false

/-- How many are left. -/
def leftN : List Bool → Nat
  | [] => 0
  | b :: r => (if b then 0 else 1) + leftN r
theorem leftN_set : ∀ (l : List Bool) (i : Nat), l[i]? = some false → leftN (l.set i true) + 1 = leftN l
  | [], i, h => by simp at h
  | b :: r, 0, h => by simp at h; subst h; simp [leftN]; omega
  | b :: r, i + 1, h => by
    have := leftN_set r i (by simpa using h)
    simp only [List.set_cons_succ, leftN]
    omega
theorem leftN_mem : ∀ (l : List Bool) (i : Nat), l[i]? = some false → 1 ≤ leftN l := fun l i h => by have := leftN_set l i h; omega
theorem leftN_rep : ∀ n, leftN (List.replicate n false) = n
  | 0 => rfl
  | n + 1 => by simp only [List.replicate_succ, leftN, leftN_rep n]; simp; omega

theorem getD_true {L : Array Bool} {j : Nat} (h : L.getD j true = false) : L.toList[j]? = some false := by
  rw [Array.getElem?_toList]
  cases hj : L[j]? with
  | none => simp [Array.getD_eq_getD_getElem?, hj] at h
  | some b => simp [Array.getD_eq_getD_getElem?, hj] at h; rw [h]

theorem wpAny_inv {P : Program} {ops : Array Oper} {Q : Exit → Act → World → Prop} {md : Region.Mode} (I : Array Bool → Act → World → Prop)
    (hstep : ∀ L a w i, i ∈ Region.ready md ops L → I L a w → wpOp P ops Q i (I (L.setIfInBounds i true)) a w)
    (hend : ∀ L a w, Region.ready md ops L = [] → I L a w → Q .normal a w) :
    ∀ (n : Nat) (L : Array Bool) (a : Act) (w : World), leftN L.toList ≤ n → I L a w → wpAny P md ops Q n L a w
  | 0, L, a, w, hn, hI => by
    have hr : Region.ready md ops L = [] := by
      rw [List.eq_nil_iff_forall_not_mem]
      intro j hj
      have := leftN_mem _ _ (getD_true (mem_ready.1 hj).1)
      omega
    exact ⟨hr, hend L a w hr hI⟩
  | n + 1, L, a, w, hn, hI => by
    refine ⟨fun hr => hend L a w hr hI, fun i hi => ?_⟩
    refine wpOp_mono (fun a' w' h' => wpAny_inv I hstep hend n _ a' w' ?_ h') (hstep L a w i hi hI)
    have h1 := getD_true (mem_ready.1 hi).1
    have := leftN_set _ _ h1
    simp only [Array.toList_setIfInBounds]
    omega

/-- The order of the text is one that may be. -/
def lexOK (ops : Array Oper) : Bool := (List.range ops.size).all fun i => ((ops[i]?).map fun o => o.after.all fun e => !Region.binds .any e || decide (e.on < i)).getD true
theorem lexOK_at {ops : Array Oper} (h : lexOK ops = true) {i : Nat} {o : Oper} (ho : ops[i]? = some o) {e : Edge} (he : e ∈ o.after) (hb : Region.binds .any e = true) : e.on < i := by
  have hlt : i < ops.size := (Array.getElem?_eq_some_iff.1 ho).1
  have := List.all_eq_true.1 h i (List.mem_range.2 hlt)
  rw [ho] at this
  simp only [Option.map_some, Option.getD_some, Array.all_eq_true_iff_forall_mem] at this
  have := this e he
  simpa [hb] using this

theorem wp_region_inv {P : Program} {ops : Array Oper} {Q : Exit → Act → World → Prop} {id : Nat} {a : Act} {w : World} (hm : P.follows .mixedOrders = true) (hl : lexOK ops = true) (I : (Nat → Bool) → Act → World → Prop)
    (h0 : I (fun _ => false) a w.drew)
    (hstep : ∀ (L : Nat → Bool) a w i o, ops[i]? = some o → L i = false → (∀ e ∈ o.after, Region.binds .any e = true → L e.on = true) → I L a w → wpOp P ops Q i (I (fun j => if j = i then true else L j)) a w)
    (hend : ∀ (L : Nat → Bool) a w, (∀ j, j < ops.size → L j = true) → I L a w → Q .normal a w) : (Code.region id ops true).wp P Q a w := by
  refine wp_region_any hm (wpAny_inv (fun L a w => L.size = ops.size ∧ I (fun j => L.getD j false) a w) ?_ ?_ ops.size _ a _ (by simp [leftN_rep]) ⟨by simp, ?_⟩)
  · rintro L a w i hi ⟨hs, hI⟩
    obtain ⟨hi0, o, ho, hpre⟩ := mem_ready.1 hi
    have hlt : i < ops.size := (Array.getElem?_eq_some_iff.1 ho).1
    have hi1 : L.getD i false = false := by
      rw [Array.getD_eq_getD_getElem?] at hi0 ⊢
      rw [Array.getElem?_eq_getElem (by omega)] at hi0 ⊢
      simpa using hi0
    refine wpOp_mono (fun a' w' h' => ⟨by simpa using hs, ?_⟩) (hstep (fun j => L.getD j false) a w i o ho hi1 hpre hI)
    have e : (fun j => (L.setIfInBounds i true).getD j false) = fun j => if j = i then true else L.getD j false := by
      funext j
      by_cases hj : j = i
      · subst hj
        rw [if_pos rfl, Array.getD_eq_getD_getElem?, Array.getElem?_setIfInBounds_self_of_lt (by omega)]
        rfl
      · rw [if_neg hj, getD_set_ne _ (fun e => hj e.symm)]
    rw [e]
    exact h'
  · rintro L a w hr ⟨hs, hI⟩
    refine hend (fun j => L.getD j false) a w ?_ hI
    intro j
    induction j using Nat.strongRecOn with
    | ind j ih =>
      intro hj
      show L.getD j false = true
      cases hv : L.getD j false with
      | true => rfl
      | false =>
        exfalso
        have ho : ops[j]? = some ops[j] := by simp [hj]
        have hm' : j ∈ Region.ready .any ops L := by
          refine mem_ready.2 ⟨?_, ops[j], ho, fun e he hb => ih e.on (lexOK_at hl ho he hb) (by have := lexOK_at hl ho he hb; omega)⟩
          rw [Array.getD_eq_getD_getElem?] at hv ⊢
          rw [Array.getElem?_eq_getElem (by omega)] at hv ⊢
          simpa using hv
        rw [hr] at hm'
        cases hm'
  · have e : (fun j => (Array.replicate ops.size false).getD j false) = fun _ => false := by
      funext j
      rw [Array.getD_eq_getD_getElem?]
      by_cases hj : j < ops.size <;> simp [hj]
    rw [e]
    exact h0
end Go.Proofs.YtjiecfagblijhaaDoor
