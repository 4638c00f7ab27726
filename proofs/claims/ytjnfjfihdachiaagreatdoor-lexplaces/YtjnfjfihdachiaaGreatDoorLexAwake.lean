/- What the statements' own awake answers: true. Conditions: the package variables hold what their initialisers lay. -/
import Derived.Test.YtjnfjfihdachiaaGreatDoorLexFrame
namespace Go.Proofs.YtjnfjfihdachiaaGreatDoor
open Go.ChangeShapes Go.WideShapes Go.ChangeAt Go.RowKit
set_option linter.unusedVariables false

theorem awakeOne : cutAll (bys ⟨#[97, 49, 60, 60, 50, 32, 35, 32, 120]⟩) = .ok [⟨1, [97, 49], 0, 0⟩, ⟨4, [60, 60], 0, 2⟩, ⟨3, [50], 2, 4⟩, ⟨0, [], 0, 9⟩] := @of_decide_eq_true _ (resDec _ _) (by decide +kernel)
theorem awakeTwo : cutAll (bys ⟨#[50, 97]⟩) = .err 1 0 := @of_decide_eq_true _ (resDec _ _) (by decide +kernel)

set_option maxRecDepth 100000 in
set_option maxHeartbeats 4000000 in
theorem awake_any (w : World) (hV : Vars w) : Calls Tryz.prog 10 #[] w fun e w' => e = .returned (.bool true) ∧ Below w.heap.size w w' := by
  go_enter Tryz.func10, Tryz.ntmps10
  go_wp2_with fail
  refine (cut_ok _ _ _ (by unfold maxLen; decide) hV awakeOne).mono ?_
  rintro e w1 ⟨g, cap, rfl, hrow, hg0, hg1, hcap, hfz, hb1⟩
  have hV1 := hV.grown hb1 hV.lt
  go_wp2_with fail
  refine (cut_err _ _ _ _ (by unfold maxLen; decide) hV1 awakeTwo).mono ?_
  rintro e w2 ⟨fb, rfl, hf0, hf1, hb2⟩
  have hV2 := hV1.grown hb2 hV1.lt
  have hrow2 := hrow.below hb2 hg1
  obtain ⟨a0, a1, a2, a3⟩ := hrow2 0 _ rfl
  obtain ⟨b0, b1, b2, b3⟩ := hrow2 1 _ rfl
  obtain ⟨c0, c1, c2, c3⟩ := hrow2 2 _ rfl
  obtain ⟨d0, d1, d2, d3⟩ := hrow2 3 _ rfl
  simp only [Nat.zero_mul, Nat.zero_add, Nat.one_mul, Nat.reduceMul, Nat.reduceAdd] at a0 a1 a2 a3 b0 b1 b2 b3 c0 c1 c2 c3 d0 d1 d2 d3
  clear hrow hrow2 a0 a2 a3 b0 b2 b3 c0 c1 c3 d0 d1 d2
  have e1 : bstr [97, 49] = ⟨#[97, 49]⟩ := rfl
  have e2 : bstr [60, 60] = ⟨#[60, 60]⟩ := rfl
  rw [e1] at a1
  rw [e2] at b1
  simp only [List.length_cons, List.length_nil, Nat.zero_add, Nat.reduceAdd] at hcap ⊢
  go_wp2_with (first | (go_at_call 14; refine (number_any fb _ _ _ hV2.1 hf1).mono ?_; rintro e w3 ⟨rfl, hb3⟩; have hV3 := hV2.grown hb3 hV2.lt; have hf3 := (hb3.block fb (lt_of_block hf1)).trans hf1) | (go_at_call 15; refine (place_any fb _ _ _ hV3.1 hf3).mono ?_; rintro e w4 ⟨rfl, hb4⟩))
  go_ret
  exact ⟨rfl, ((hb1.trans (hb2.mono hb1.size)).trans (hb3.mono (Nat.le_trans hb1.size hb2.size))).trans (hb4.mono (Nat.le_trans hb1.size (Nat.le_trans hb2.size hb3.size)))⟩
end Go.Proofs.YtjnfjfihdachiaaGreatDoor
