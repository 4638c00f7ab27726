/- Blocks that operations of a region have made, in whatever order: each lies somewhere, no two at one place. No program. -/
import Derived.Test.YtlfiicfkjlobhaaDoorRegPos
import Derived.Test.YtlfiicfkjlobhaaDoorMakeRet
namespace Go.Proofs.YtlfiicfkjlobhaaDoor
open Go.ChangeShapes Go.WideShapes Go.ChangeAt Go.RowKit
set_option linter.unusedVariables false

def PosInv (B : Nat) (W : World) (S : List Nat) (L : Nat → Bool) (pos : Nat → Nat) (cont : Nat → Obj) (w : World) : Prop :=
  Below B W w ∧ B ≤ w.heap.size ∧ (∀ i ∈ S, L i = true → B ≤ pos i ∧ w.heap[pos i]? = some (cont i)) ∧ (∀ i ∈ S, ∀ j ∈ S, L i = true → L j = true → pos i = pos j → i = j)
theorem PosInv.alloc {B : Nat} {W : World} {S : List Nat} {L : Nat → Bool} {pos : Nat → Nat} {cont cont' : Nat → Obj} {w : World} (h : PosInv B W S L pos cont w) {i : Nat} (hi : i ∈ S) (hL : L i = false) (o : Obj) (hc : cont' i = o) (hc' : ∀ j ∈ S, j ≠ i → L j = true → cont' j = cont j) :
    PosInv B W S (fun j => if j = i then true else L j) (fun j => if j = i then w.heap.size else pos j) cont' (w.alloc o) := by
  obtain ⟨h1, h2, h3, h4⟩ := h
  have hlt : ∀ j ∈ S, L j = true → pos j < w.heap.size := fun j hj hLj => heap_lt (h3 j hj hLj).2
  refine ⟨h1.alloc h2 o, by rw [alloc_size]; omega, fun j hj hLj => ?_, fun j hj k hk hLj hLk e => ?_⟩
  · by_cases e : j = i
    · subst e
      simp only [if_true]
      exact ⟨h2, by rw [alloc_at, if_pos rfl, hc]⟩
    · have hLj' : L j = true := by simpa [e] using hLj
      simp only [if_neg e]
      have := hlt j hj hLj'
      exact ⟨(h3 j hj hLj').1, by rw [alloc_at, if_neg (by omega), (h3 j hj hLj').2, hc' j hj e hLj']⟩
  · by_cases ej : j = i
    · by_cases ek : k = i
      · rw [ej, ek]
      · have hLk' : L k = true := by simpa [ek] using hLk
        simp only [if_pos ej, if_neg ek] at e
        have := hlt k hk hLk'
        omega
    · have hLj' : L j = true := by simpa [ej] using hLj
      by_cases ek : k = i
      · simp only [if_neg ej, if_pos ek] at e
        have := hlt j hj hLj'
        omega
      · have hLk' : L k = true := by simpa [ek] using hLk
        simp only [if_neg ej, if_neg ek] at e
        exact h4 j hj k hk hLj' hLk' e
theorem PosInv.other {B : Nat} {W : World} {S : List Nat} {L : Nat → Bool} {pos : Nat → Nat} {cont cont' : Nat → Obj} {w : World} (h : PosInv B W S L pos cont w) {i : Nat} (hi : i ∉ S) (hc' : ∀ j ∈ S, L j = true → cont' j = cont j) :
    PosInv B W S (fun j => if j = i then true else L j) pos cont' w := by
  obtain ⟨h1, h2, h3, h4⟩ := h
  have key : ∀ j ∈ S, (if j = i then true else L j) = true → L j = true := fun j hj hLj => by
    have : j ≠ i := fun e => hi (e ▸ hj)
    simpa [this] using hLj
  exact ⟨h1, h2, fun j hj hLj => ⟨(h3 j hj (key j hj hLj)).1, by rw [(h3 j hj (key j hj hLj)).2, hc' j hj (key j hj hLj)]⟩, fun j hj k hk hLj hLk e => h4 j hj k hk (key j hj hLj) (key k hk hLk) e⟩
theorem PosInv.put {B : Nat} {W : World} {S : List Nat} {L : Nat → Bool} {pos : Nat → Nat} {cont cont' : Nat → Obj} {w w' : World} (h : PosInv B W S L pos cont w) {i k : Nat} (hi : i ∉ S) (hk : k ∈ S) (hLk : L k = true) (hg : w.grownBy w' (some (pos k))) (hz : w'.heap.size = w.heap.size) (hn : w'.heap[pos k]? = some (cont' k)) (hc' : ∀ j ∈ S, j ≠ k → L j = true → cont' j = cont j) :
    PosInv B W S (fun j => if j = i then true else L j) pos cont' w' := by
  obtain ⟨h1, h2, h3, h4⟩ := h
  have key : ∀ j ∈ S, (if j = i then true else L j) = true → L j = true := fun j hj hLj => by
    have : j ≠ i := fun e => hi (e ▸ hj)
    simpa [this] using hLj
  have hpk := (h3 k hk hLk).1
  refine ⟨h1.grown hg h2 (fun b hb => by cases hb; exact hpk), by omega, fun j hj hLj => ?_, fun j hj k hk hLj hLk e => h4 j hj k hk (key j hj hLj) (key k hk hLk) e⟩
  have hLj' := key j hj hLj
  refine ⟨(h3 j hj hLj').1, ?_⟩
  by_cases e : j = k
  · subst e; exact hn
  · have hlt := heap_lt (h3 j hj hLj').2
    rw [hg.block _ hlt (fun e' => e (h4 j hj k hk hLj' hLk (Option.some.inj e'))), (h3 j hj hLj').2, hc' j hj e hLj']
end Go.Proofs.YtlfiicfkjlobhaaDoor
