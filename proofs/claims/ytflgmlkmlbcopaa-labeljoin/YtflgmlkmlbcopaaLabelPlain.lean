/- Plain functions that say what package label answers, and the facts on them that the statements of layer 2 want. No conditions. -/
namespace Go.Proofs.Ytflgmlkmlbcopaa

def hidB (a : Int) : Bool := a != 0
def flowsB (a b : Int) : Bool := a == 0 || b != 0
def joinI (zs : List Int) : Int := if zs.all (fun z => z == 0) then 0 else 1

theorem hid_yes {a : Int} (h : a ≠ 0) : hidB a = true := by simp [hidB, h]
theorem hid_no {a : Int} (h : a = 0) : hidB a = false := by simp [hidB, h]
theorem flows_eq (a b : Int) : (!hidB a || hidB b) = flowsB a b := by simp [hidB, flowsB, bne]

theorem join_nil : joinI [] = 0 := rfl
theorem join_snoc_no (zs : List Int) {z : Int} (h : z = 0) : joinI (zs ++ [z]) = joinI zs := by
  subst h; simp [joinI]
theorem join_snoc_yes (zs : List Int) {z : Int} (h : z ≠ 0) : joinI (zs ++ [z]) = 1 := by
  simp only [joinI, List.all_append, List.all_cons, List.all_nil]
  simp [h]
theorem join_mem {zs : List Int} {z : Int} (hm : z ∈ zs) (h : z ≠ 0) : joinI zs = 1 := by
  unfold joinI
  rw [if_neg]
  intro hall
  have := List.all_eq_true.1 hall z hm
  simp at this
  exact h this
theorem join_two (xs ys : List Int) : joinI (xs ++ ys) = joinI [joinI xs, joinI ys] := by
  unfold joinI
  rw [List.all_append]
  generalize xs.all (fun z => z == 0) = p
  generalize ys.all (fun z => z == 0) = q
  cases p <;> cases q <;> rfl
theorem join_pair (x y : Int) : joinI [x, y] = if x = 0 ∧ y = 0 then 0 else 1 := by
  simp [joinI]
theorem join_01 (zs : List Int) : joinI zs = 0 ∨ joinI zs = 1 := by
  unfold joinI; split <;> simp

theorem take_snoc (zs : List Int) (k : Nat) (hk : k < zs.length) : zs.take (k + 1) = zs.take k ++ [zs.getD k 0] := by
  rw [List.take_add_one, List.getElem?_eq_getElem hk]; simp [List.getD, hk]
theorem take_map_snoc (zs : List Int) (k : Nat) (hk : k < zs.length) {α : Type} (f : Int → α) : (zs.take k).map f ++ [f (zs.getD k 0)] = (zs.take (k + 1)).map f := by
  rw [take_snoc zs k hk]; simp
theorem getD_mem (zs : List Int) (k : Nat) (hk : k < zs.length) : zs.getD k 0 ∈ zs := by
  simp [List.getD, hk]
end Go.Proofs.Ytflgmlkmlbcopaa
