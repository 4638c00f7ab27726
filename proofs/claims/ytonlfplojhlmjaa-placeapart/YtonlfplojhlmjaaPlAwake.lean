/- The document's examples: what the statements' own awake answers. Conditions: none. -/
import Derived.Test.YtonlfplojhlmjaaPlLab
namespace Go.Proofs.Ytonlfplojhlmjaa.Pl
open Go.ChangeShapes Go.WideShapes Go.RowKit Go.Maps
set_option linter.unusedVariables false
set_option linter.unusedSimpArgs false

def threeD : List Pd := [⟨true, 0, ⟨#[108]⟩, 0, ⟨#[]⟩, 0⟩, ⟨false, 0, ⟨#[97]⟩, 3, ⟨#[]⟩, 0⟩, ⟨false, 1, ⟨#[98]⟩, 0, ⟨#[]⟩, 0⟩]
@[reducible] def threeObj : Obj := .cells #[.bool true, .int .i64 0, .string ⟨#[108]⟩, .int .i64 0, .string ⟨#[]⟩, .int .i64 0, .bool false, .int .i64 0, .string ⟨#[97]⟩, .int .i64 3, .string ⟨#[]⟩, .int .i64 0, .bool false, .int .i64 1, .string ⟨#[98]⟩, .int .i64 0, .string ⟨#[]⟩, .int .i64 0] 35
theorem three_size : sizeP threeD = 5 := by simp [threeD, sizeP, cellsP]; decide
theorem three_a : startsP threeD none0 0 ⟨#[97]⟩ = some 1 := by
  simp [threeD, startsP, stepF, putP, none0, cellsP]
theorem three_b : startsP threeD none0 0 ⟨#[98]⟩ = some 4 := by
  simp [threeD, startsP, stepF, putP, none0, cellsP]; decide
theorem sz1 {b : UInt8} : (⟨#[b]⟩ : ByteArray).size ≤ maxLen := by simp [ByteArray.size, maxLen]
theorem three_at (w : World) : PsAt (w.alloc threeObj) (.slice (some ⟨w.heap.size, 0, none⟩) 3 3) threeD := by
  have hh : (w.alloc threeObj).heap[w.heap.size]? = some threeObj := by rw [alloc_at, if_pos rfl]
  refine ⟨_, 3, rfl, by decide, fun i d hd => ?_⟩
  match i, hd with
  | 0, hd =>
    simp [threeD] at hd; subst hd
    exact ⟨sz1, w.heap.size, 0, rfl, by simp, by rw [Lib.cell_of_heap hh]; rfl, by rw [Lib.cell_of_heap hh]; rfl, by rw [Lib.cell_of_heap hh]; rfl, by rw [Lib.cell_of_heap hh]; rfl, by rw [Lib.cell_of_heap hh]; rfl, by rw [Lib.cell_of_heap hh]; rfl⟩
  | 1, hd =>
    simp [threeD] at hd; subst hd
    exact ⟨sz1, w.heap.size, 0, rfl, by simp, by rw [Lib.cell_of_heap hh]; rfl, by rw [Lib.cell_of_heap hh]; rfl, by rw [Lib.cell_of_heap hh]; rfl, by rw [Lib.cell_of_heap hh]; rfl, by rw [Lib.cell_of_heap hh]; rfl, by rw [Lib.cell_of_heap hh]; rfl⟩
  | 2, hd =>
    simp [threeD] at hd; subst hd
    exact ⟨sz1, w.heap.size, 0, rfl, by simp, by rw [Lib.cell_of_heap hh]; rfl, by rw [Lib.cell_of_heap hh]; rfl, by rw [Lib.cell_of_heap hh]; rfl, by rw [Lib.cell_of_heap hh]; rfl, by rw [Lib.cell_of_heap hh]; rfl, by rw [Lib.cell_of_heap hh]; rfl⟩
  | i + 3, hd => simp [threeD] at hd
theorem start_some {b n : Nat} {f : ByteArray → Option Int} {w : World} (h : MpAt b n f w) (m : Int) (s : ByteArray) (hs : s.size ≤ maxLen) (x : Int) (hx : f s = some x) :
    Calls Try.prog 12 #[.agg #[.map (some b), .int .i64 m], .string s] w fun e w' => e = .returned (.tuple #[.int .i64 x, .bool true]) ∧ Below w.heap.size w w' := by
  have := start_any h m s hs
  rw [hx] at this
  exact this

set_option maxHeartbeats 4000000 in
set_option maxRecDepth 100000 in
theorem awake_any (w : World) : Calls Try.prog 8 #[] w fun e w' => e = .returned (.bool true) ∧ Below w.heap.size w w' := by
  have H1 := of_any threeD _ _ (three_at w)
  rw [three_size, alloc_size] at H1
  go_enter Try.func8, Try.ntmps8
  go_wp2_with (go_at_call 10; refine H1.mono ?_; rintro e w1 ⟨rfl, hM1, hb1⟩)
  have hM2 := hM1.below ((Below.refl _ _).alloc (Nat.le_refl _) (.cells #[.map (some (w.heap.size + 1 + 1)), .int .i64 5] 29))
  obtain ⟨w2, hw2⟩ : ∃ w2, w2 = w1.alloc (.cells #[.map (some (w.heap.size + 1 + 1)), .int .i64 5] 29) := ⟨_, rfl⟩
  have hB2 : w2.heap[w1.heap.size]? = some (.cells #[.map (some (w.heap.size + 1 + 1)), .int .i64 5] 29 (0, 0)) := by rw [hw2, alloc_at, if_pos rfl]
  have hb2 : Below w.heap.size w w2 := by
    rw [hw2]
    have h0 : Below w.heap.size w (w.alloc threeObj) := (Below.refl _ _).alloc (Nat.le_refl _) _
    have h1 := h0.trans (hb1.mono (by omega))
    exact h1.alloc h1.size _
  rw [← hw2] at hM2 ⊢
  clear hw2 hb1 hM1 H1
  refine (start_some hM2 5 ⟨#[97]⟩ sz1 1 three_a).mono ?_
  rintro e w3 ⟨rfl, hb3⟩
  have hB3 : w3.heap[w1.heap.size]? = _ := (hb3.block _ (heap_lt hB2)).trans hB2
  obtain ⟨a0, a1, _, _⟩ := map_cells hB3
  have hM3 := hM2.below hb3
  go_wp2_with fail
  go_at_call 12
  refine (start_some hM3 5 ⟨#[98]⟩ sz1 4 three_b).mono ?_
  rintro e w4 ⟨rfl, hb4⟩
  have hB4 : w4.heap[w1.heap.size]? = _ := (hb4.block _ (heap_lt hB3)).trans hB3
  obtain ⟨c0, c1, _, _⟩ := map_cells hB4
  go_wp2_with (go_at_call 13; refine (size_any _ _ _).mono ?_; rintro e w5 ⟨rfl, hb5⟩)
  go_ret
  refine ⟨rfl, ?_⟩
  have b3 := hb2.trans (hb3.mono hb2.size)
  have b4 := b3.trans (hb4.mono b3.size)
  exact b4.trans (hb5.mono b4.size)
end Go.Proofs.Ytonlfplojhlmjaa.Pl
