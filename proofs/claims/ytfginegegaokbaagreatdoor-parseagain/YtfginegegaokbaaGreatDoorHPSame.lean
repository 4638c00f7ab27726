/- Who is the same but for where he stands is the same to tree.Same, at any greater depth. Plain. -/
import Derived.Test.YtfginegegaokbaaGreatDoorGPBackAll
import Derived.Test.YtfginegegaokbaaGreatDoorGSameA
namespace Go.Proofs.YtfginegegaokbaaGreatDoor.Pr
set_option linter.unusedVariables false
set_option linter.unusedSimpArgs false

theorem listEq_of {α : Type} {f : α → α → Bool} {R : α → α → Prop} (h : ∀ x y, R x y → f y x = true) {a b : List α} (hl : eqL R a b) : listEq f b a = true :=
  listEq_true hl.1.symm fun i x y hx hy => h y x (hl.2 i y x hy hx)
theorem teq_of : ∀ (n m : Nat) (s t : Tree), n ≤ m → eqT n s t → teq m t s = true
  | 0, _, _, _, _, h => h.elim
  | n + 1, m, s, t, hm, ⟨h1, h2, h3, h4, h5, h6⟩ => by
    obtain ⟨m, rfl⟩ : ∃ k, m = k + 1 := ⟨m - 1, by omega⟩
    have := listEq_of (f := teq m) (R := eqT n) (fun x y h => teq_of n m x y (by omega) h) (a := s.kids) (b := t.kids) ⟨h5, h6⟩
    simp [teq, h1, h2, h3, h4, this]
theorem seqS_of {k m : Nat} (hk : k ≤ m) : ∀ (n j : Nat) (s t : Stm), n ≤ j → eqS k n s t → seqS m j t s = true
  | 0, _, _, _, _, h => h.elim
  | n + 1, j, s, t, hj, ⟨h1, h2, h3, h4, h5, h6⟩ => by
    obtain ⟨j, rfl⟩ : ∃ i, j = i + 1 := ⟨j - 1, by omega⟩
    have a := listEq_of (f := teq m) (R := eqT k) (fun x y h => teq_of k m x y hk h) h4
    have b := listEq_of (f := seqS m j) (R := eqS k n) (fun x y h => seqS_of hk n j x y (by omega) h) h5
    have c := listEq_of (f := seqS m j) (R := eqS k n) (fun x y h => seqS_of hk n j x y (by omega) h) h6
    simp [seqS, h1, h2, h3, a, b, c]
theorem peqP_of {k n m j : Nat} (hk : k ≤ m) (hn : n ≤ j) {q p : Prg} (h : eqP k n q p) : peqP m j p q = true := by
  have a := listEq_of (f := deqD) (R := eqD) (fun x y ⟨h1, h2, h3, h4, h5⟩ => by simp [deqD, h1, h2, h3, h4, h5]) h.1
  have b := listEq_of (f := beqB m j) (R := eqL (eqS k n)) (fun x y h => listEq_of (f := seqS m j) (R := eqS k n) (fun x y h => seqS_of hk n j x y hn h) h) h.2
  simp [peqP, a, b]
end Go.Proofs.YtfginegegaokbaaGreatDoor.Pr
