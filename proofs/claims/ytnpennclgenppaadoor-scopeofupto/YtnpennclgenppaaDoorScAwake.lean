/- The document's examples: what the statements' own awake answers. Conditions: none. -/
import Derived.Test.YtnpennclgenppaaDoorScOfAll
namespace Go.Proofs.YtnpennclgenppaaDoor
open Go.ChangeShapes Go.WideShapes Go.RowKit Go.Maps
set_option linter.unusedVariables false
set_option linter.unusedSimpArgs false

theorem find_at {X : Nat → Prop} {bs n : Nat} {f : ByteArray → Mng} {ls : List ByteArray} {w : World} (h : ScAt X bs n f ls w) (s : ByteArray) (hs : s.size ≤ maxLen) (k l c : Int) (b : ByteArray) (hf : f s = ⟨k, l, c, b⟩) :
    Calls Tryd.prog 11 #[.pointer (some ⟨bs, 0, none⟩), .string s] w fun e w' => e = .returned (.tuple #[.int .i64 k, .int .i64 l, .int .i64 c, .string b]) ∧ Below w.heap.size w w' := by
  have := find_any h s hs
  rw [hf] at this
  exact this
def twoD : List Dc := [⟨false, 0, ⟨#[97]⟩, 0, ⟨#[]⟩, 0⟩, ⟨true, 0, ⟨#[108]⟩, 0, ⟨#[]⟩, 0⟩]
@[reducible] def twoObj : Obj := .cells #[.bool false, .int .i64 0, .string ⟨#[97]⟩, .int .i64 0, .string ⟨#[]⟩, .int .i64 0, .bool true, .int .i64 0, .string ⟨#[108]⟩, .int .i64 0, .string ⟨#[]⟩, .int .i64 0] 29
def twoF : ByteArray → Mng := put (put none0 ⟨#[97]⟩ ⟨2, 0, 0, ⟨#[]⟩⟩) ⟨#[108]⟩ ⟨1, 0, 0, ⟨#[]⟩⟩
theorem two_ok : firstBad none0 twoD = none := by
  simp [twoD, firstBad, bad, none0, mnone, put, declM]
theorem two_means : meansOf none0 twoD = twoF := by
  simp [twoD, meansOf, twoF, declM]
theorem two_at (w : World) : DsAt (w.alloc twoObj) (.slice (some ⟨w.heap.size, 0, none⟩) 2 2) twoD := by
  have hh : (w.alloc twoObj).heap[w.heap.size]? = some twoObj := by rw [alloc_at, if_pos rfl]
  refine ⟨_, 2, rfl, by decide, fun i d hd => ?_⟩
  match i, hd with
  | 0, hd =>
    simp [twoD] at hd; subst hd
    exact ⟨by decide, by decide, w.heap.size, 0, rfl, by simp, by rw [Lib.cell_of_heap hh]; rfl, by rw [Lib.cell_of_heap hh]; rfl, by rw [Lib.cell_of_heap hh]; rfl, by rw [Lib.cell_of_heap hh]; rfl, by rw [Lib.cell_of_heap hh]; rfl, by rw [Lib.cell_of_heap hh]; rfl⟩
  | 1, hd =>
    simp [twoD] at hd; subst hd
    exact ⟨by decide, by decide, w.heap.size, 0, rfl, by simp, by rw [Lib.cell_of_heap hh]; rfl, by rw [Lib.cell_of_heap hh]; rfl, by rw [Lib.cell_of_heap hh]; rfl, by rw [Lib.cell_of_heap hh]; rfl, by rw [Lib.cell_of_heap hh]; rfl, by rw [Lib.cell_of_heap hh]; rfl⟩
  | i + 2, hd => simp [twoD] at hd
theorem of_two (w : World) : Calls Tryd.prog 7 #[.slice (some ⟨w.heap.size, 0, none⟩) 2 2] (w.alloc twoObj) fun e w' => ∃ bs, e = .returned (.tuple #[.pointer (some ⟨bs, 0, none⟩), .nilIface]) ∧ ScAt (· < w.heap.size + 1) bs 2 twoF [] w' ∧ Below (w.heap.size + 1) (w.alloc twoObj) w' := by
  refine (of_any twoD _ _ (two_at w) (by decide)).mono ?_
  rintro e w' ⟨hb, ⟨_, bs, rfl, hS⟩ | ⟨d, b, h, _⟩⟩
  · rw [two_means] at hS
    rw [alloc_size] at hb hS
    exact ⟨bs, rfl, hS, hb⟩
  · rw [two_ok] at h; cases h
theorem sz1 {b : UInt8} : (⟨#[b]⟩ : ByteArray).size ≤ maxLen := by simp [ByteArray.size, maxLen]
theorem twoF_a : twoF ⟨#[97]⟩ = ⟨2, 0, 0, ⟨#[]⟩⟩ := by simp [twoF, put]
theorem twoF_l : twoF ⟨#[108]⟩ = ⟨1, 0, 0, ⟨#[]⟩⟩ := by simp [twoF, put]
theorem twoF_i : twoF ⟨#[105]⟩ = mnone := by simp [twoF, put, none0]

set_option maxHeartbeats 4000000 in
set_option maxRecDepth 100000 in
theorem awake_any (w : World) : Calls Tryd.prog 4 #[] w fun e w' => e = .returned (.bool true) ∧ Below w.heap.size w w' := by
  have H1 := of_two w
  have hpos : ∀ k, k < w.heap.size + 1 → k < (w.alloc twoObj).heap.size := fun k hk => by rw [alloc_size]; exact hk
  go_enter Tryd.func4, Tryd.ntmps4
  go_wp2_with (go_at_call 7; refine H1.mono ?_; rintro e w1 ⟨bs, rfl, hS1, hb1⟩)
  go_wp2_with (go_at_call 11; refine (find_at hS1 _ sz1 _ _ _ _ twoF_a).mono ?_; rintro e w2 ⟨rfl, hb2⟩; have hS2 := hS1.below hb2)
  have hX2 : ∀ k, k < w.heap.size + 1 → k < w2.heap.size := fun k hk => Nat.lt_of_lt_of_le (hpos k hk) (Nat.le_trans hb1.size hb2.size)
  have H3 := enter_yes hS2 hX2 (by unfold maxLen; omega) (by simp) ⟨#[105]⟩ sz1 0 4 (by rw [twoF_i]; rfl)
  go_wp2_with (go_at_call 12; refine H3.mono ?_; rintro e w3 ⟨rfl, hS3, hK3⟩)
  have H4 := find_at hS3 ⟨#[105]⟩ sz1 5 0 4 ⟨#[]⟩ (by rw [put_same]; rfl)
  go_wp2_with (go_at_call 11; refine H4.mono ?_; rintro e w4 ⟨rfl, hb4⟩; have hS4 := hS3.below hb4)
  have H5 := enter_no hS4 ⟨#[97]⟩ sz1 0 0 (by rw [put_ne _ _ _ _ (by simp), twoF_a]; simp)
  go_wp2_with (go_at_call 12; refine H5.mono ?_; rintro e w5 ⟨rfl, rfl⟩)
  go_ret
  refine ⟨rfl, ?_⟩
  have hw : Below w.heap.size w (w.alloc twoObj) := (Below.refl _ _).alloc (Nat.le_refl _) _
  have hz1 := hb1.size
  rw [alloc_size] at hz1
  have hz2 := hb2.size
  have hz3 := hK3.size
  exact (((hw.trans (hb1.mono (by omega))).trans (hb2.mono (by omega))).trans ((hK3.below (by omega)).mono (by omega))).trans (hb4.mono (by omega))
end Go.Proofs.YtnpennclgenppaaDoor
