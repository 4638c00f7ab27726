/- The walk of ScopeHides: on every input it returns true. Conditions: none. -/
import Derived.Test.YtnpennclgenppaaScAwake
import Derived.Test.YtnpennclgenppaaScLeave
namespace Go.Proofs.Ytnpennclgenppaa
open Go.ChangeShapes Go.WideShapes Go.RowKit Go.Maps
set_option linter.unusedVariables false
set_option linter.unusedSimpArgs false

theorem u8_wf {a : Int} (h : (Lit.int .u8 a).wf = true) : 0 ≤ a ∧ a < 256 := by
  simp [Lit.wf] at h
  have h1 : IntKind.u8.min = 0 := rfl
  have h2 : IntKind.u8.max = 255 := rfl
  omega
theorem twoF_x : twoF ⟨#[120]⟩ = mnone := by simp [twoF, put, none0]
theorem twoF_y : twoF ⟨#[121]⟩ = mnone := by simp [twoF, put, none0]
@[reducible] def fourObj : Obj := .cells #[.string ⟨#[97]⟩, .string ⟨#[108]⟩, .string ⟨#[120]⟩, .string ⟨#[121]⟩] 9
theorem local_kind (l c : Int) : (localM l c).kind = if 0 < c then 5 else 4 := by unfold localM; split <;> rfl
theorem local_ne (l c : Int) : (localM l c).kind ≠ 0 := by rw [local_kind]; split <;> decide
theorem local_is (l c : Int) (hc : 0 ≤ c) : localM l c = ⟨if 0 < c then 5 else 4, l, c, ⟨#[]⟩⟩ := by
  unfold localM
  split
  · rfl
  · rw [show c = 0 by omega]

set_option maxHeartbeats 400000 in
set_option maxRecDepth 100000 in
theorem hides_a (a0 a1 a2 : Int) (b0 : 0 ≤ a0 ∧ a0 < 256) (b1 : 0 ≤ a1 ∧ a1 < 256) (b2 : 0 ≤ a2 ∧ a2 < 256) (hr : a0 % 4 = 0) (w : World) :
    Calls Try.prog 5 #[.int .u8 a0, .int .u8 a1, .int .u8 a2] w fun e w' => e = .returned (.bool true) ∧ Below w.heap.size w w' := by
  have H0 := awake_any w
  go_enter Try.func5, Try.ntmps5
  go_wp2_with (go_at_call 6; refine H0.mono ?_; rintro e w1 ⟨rfl, hb0⟩)
  have H1 := of_two (w1.alloc fourObj)
  rw [alloc_size] at H1
  have HC2 : ∀ w2, Below (w1.heap.size + 1 + 1) ((w1.alloc fourObj).alloc twoObj) w2 → w2.cell? ⟨w1.heap.size, 0, none⟩ = some (.string ⟨#[97]⟩) := fun w2 hb => by
    have e1 : w2.heap[w1.heap.size]? = some fourObj := by
      rw [hb.block _ (by omega), alloc_at, if_neg (by rw [alloc_size]; omega), alloc_at, if_pos rfl]
    rw [Lib.cell_of_heap e1]; rfl
  go_wp2_with (go_at_call 8; refine H1.mono ?_; rintro e w2 ⟨bs, rfl, hS2, hb2⟩; have hc2 := HC2 _ hb2)
  have hz2 := hb2.size
  simp only [alloc_size] at hz2
  have hX : ∀ k, k < w1.heap.size + 1 + 1 → k < w2.heap.size := fun k hk => by omega
  have hB2 : Below w1.heap.size w1 w2 := (((Below.refl _ _).alloc (Nat.le_refl _) _).alloc (by simp) _).trans (hb2.mono (by omega))
  have hk : (twoF ⟨#[97]⟩).kind ≠ 0 := by rw [twoF_a]; decide
  have HE : ∀ l c, _ := fun l c => enter_no hS2 ⟨#[97]⟩ sz1 l c hk
  go_wp2_with (go_at_call 11; refine (HE _ _).mono ?_; rintro e w3 ⟨rfl, h3⟩; obtain rfl := h3.symm; clear h3)
  go_wp2_with (go_at_call 13; refine (find_at hS2 _ sz1 _ _ _ _ twoF_a).mono ?_; rintro e w3 ⟨rfl, hb3⟩; have hS3 := hS2.below hb3)
  have HL := leave_no hS3 0 (.inr (by simp))
  go_wp2_with (go_at_call 9; refine HL.mono ?_; rintro e w4 ⟨rfl, h4⟩; obtain rfl := h4.symm)
  have HE2 := enter_no hS3 ⟨#[97]⟩ sz1 0 0 hk
  go_wp2_with (go_at_call 11; refine HE2.mono ?_; rintro e w5 ⟨rfl, h5⟩; obtain rfl := h5.symm)
  go_ret
  have hKall : Below w1.heap.size w2 _ := hb3.mono (by omega)
  refine ⟨rfl, ?_⟩
  exact (hb0.trans (hB2.mono hb0.size)).trans (hKall.mono hb0.size)

set_option maxHeartbeats 400000 in
set_option maxRecDepth 100000 in
theorem hides_l (a0 a1 a2 : Int) (b0 : 0 ≤ a0 ∧ a0 < 256) (b1 : 0 ≤ a1 ∧ a1 < 256) (b2 : 0 ≤ a2 ∧ a2 < 256) (hr : a0 % 4 = 1) (w : World) :
    Calls Try.prog 5 #[.int .u8 a0, .int .u8 a1, .int .u8 a2] w fun e w' => e = .returned (.bool true) ∧ Below w.heap.size w w' := by
  have H0 := awake_any w
  go_enter Try.func5, Try.ntmps5
  go_wp2_with (go_at_call 6; refine H0.mono ?_; rintro e w1 ⟨rfl, hb0⟩)
  have H1 := of_two (w1.alloc fourObj)
  rw [alloc_size] at H1
  have HC2 : ∀ w2, Below (w1.heap.size + 1 + 1) ((w1.alloc fourObj).alloc twoObj) w2 → w2.cell? ⟨w1.heap.size, 1, none⟩ = some (.string ⟨#[108]⟩) := fun w2 hb => by
    have e1 : w2.heap[w1.heap.size]? = some fourObj := by
      rw [hb.block _ (by omega), alloc_at, if_neg (by rw [alloc_size]; omega), alloc_at, if_pos rfl]
    rw [Lib.cell_of_heap e1]; rfl
  go_wp2_with (go_at_call 8; refine H1.mono ?_; rintro e w2 ⟨bs, rfl, hS2, hb2⟩; have hc2 := HC2 _ hb2)
  have hz2 := hb2.size
  simp only [alloc_size] at hz2
  have hX : ∀ k, k < w1.heap.size + 1 + 1 → k < w2.heap.size := fun k hk => by omega
  have hB2 : Below w1.heap.size w1 w2 := (((Below.refl _ _).alloc (Nat.le_refl _) _).alloc (by simp) _).trans (hb2.mono (by omega))
  have hk : (twoF ⟨#[108]⟩).kind ≠ 0 := by rw [twoF_l]; decide
  have HE : ∀ l c, _ := fun l c => enter_no hS2 ⟨#[108]⟩ sz1 l c hk
  go_wp2_with (go_at_call 11; refine (HE _ _).mono ?_; rintro e w3 ⟨rfl, h3⟩; obtain rfl := h3.symm; clear h3)
  go_wp2_with (go_at_call 13; refine (find_at hS2 _ sz1 _ _ _ _ twoF_l).mono ?_; rintro e w3 ⟨rfl, hb3⟩; have hS3 := hS2.below hb3)
  have HL := leave_no hS3 0 (.inr (by simp))
  go_wp2_with (go_at_call 9; refine HL.mono ?_; rintro e w4 ⟨rfl, h4⟩; obtain rfl := h4.symm)
  have HE2 := enter_no hS3 ⟨#[108]⟩ sz1 0 0 hk
  go_wp2_with (go_at_call 11; refine HE2.mono ?_; rintro e w5 ⟨rfl, h5⟩; obtain rfl := h5.symm)
  go_ret
  have hKall : Below w1.heap.size w2 _ := hb3.mono (by omega)
  refine ⟨rfl, ?_⟩
  exact (hb0.trans (hB2.mono hb0.size)).trans (hKall.mono hb0.size)

set_option maxHeartbeats 1000000 in
set_option maxRecDepth 100000 in
theorem hides_x5 (a0 a1 a2 : Int) (b0 : 0 ≤ a0 ∧ a0 < 256) (b1 : 0 ≤ a1 ∧ a1 < 256) (b2 : 0 ≤ a2 ∧ a2 < 256) (hr : a0 % 4 = 2) (hd : decide (0 < a2 % 5) = true) (w : World) :
    Calls Try.prog 5 #[.int .u8 a0, .int .u8 a1, .int .u8 a2] w fun e w' => e = .returned (.bool true) ∧ Below w.heap.size w w' := by
  have hc0 : 0 ≤ a2 % 5 := by omega
  have hcp : 0 < a2 % 5 := by simpa using hd
  have hloc : localM (a1 % 2) (a2 % 5) = ⟨5, a1 % 2, a2 % 5, ⟨#[]⟩⟩ := by rw [local_is _ _ hc0]; simp [hcp]
  have HLoc := Lib.hid hloc
  clear hloc hcp
  have H0 := awake_any w
  go_enter Try.func5, Try.ntmps5
  go_wp2_with (go_at_call 6; refine H0.mono ?_; rintro e w1 ⟨rfl, hb0⟩)
  have H1 := of_two (w1.alloc fourObj)
  rw [alloc_size] at H1
  have HC2 : ∀ w2, Below (w1.heap.size + 1 + 1) ((w1.alloc fourObj).alloc twoObj) w2 → w2.cell? ⟨w1.heap.size, 2, none⟩ = some (.string ⟨#[120]⟩) := fun w2 hb => by
    have e1 : w2.heap[w1.heap.size]? = some fourObj := by
      rw [hb.block _ (by omega), alloc_at, if_neg (by rw [alloc_size]; omega), alloc_at, if_pos rfl]
    rw [Lib.cell_of_heap e1]; rfl
  go_wp2_with (go_at_call 8; refine H1.mono ?_; rintro e w2 ⟨bs, rfl, hS2, hb2⟩; have hc2 := HC2 _ hb2)
  have hz2 := hb2.size
  simp only [alloc_size] at hz2
  have hX : ∀ k, k < w1.heap.size + 1 + 1 → k < w2.heap.size := fun k hk => by omega
  have hB2 : Below w1.heap.size w1 w2 := (((Below.refl _ _).alloc (Nat.le_refl _) _).alloc (by simp) _).trans (hb2.mono (by omega))
  have HE := enter_yes hS2 hX (by unfold maxLen; omega) (by simp) ⟨#[120]⟩ sz1 (a1 % 2) (a2 % 5) (by rw [twoF_x]; rfl)
  go_wp2_with fail
  go_at_call 11
  refine HE.mono ?_
  rintro e w3 ⟨rfl, hS3, hK3⟩
  have HE2 := enter_no hS3 ⟨#[120]⟩ sz1 0 0 (by rw [put_same]; exact local_ne _ _)
  go_wp2_with (go_at_call 11; refine HE2.mono ?_; rintro e w4 ⟨rfl, h4⟩; obtain rfl := h4.symm; clear h4)
  have HF := find_at hS3 ⟨#[120]⟩ sz1 5 (a1 % 2) (a2 % 5) ⟨#[]⟩ (by rw [put_same]; exact HLoc.out)
  go_wp2_with (go_at_call 13; refine HF.mono ?_; rintro e w4 ⟨rfl, hb4⟩; have hS4 := hS3.below hb4)
  have HL := leave_yes hS4 (by simp) 0 (by simp)
  go_wp2_with (go_at_call 9; refine HL.mono ?_; rintro e w5 ⟨rfl, hS5, hK5⟩)
  have hz3 := hK3.size
  have hz4 := hb4.size
  have hz5 := hK5.size
  have HE3 := enter_yes hS5 (fun k hk => by have := hX k hk; omega) (by unfold maxLen; omega) (by simp) ⟨#[120]⟩ sz1 0 0 (by simp [putAll, put_same]; rfl)
  go_wp2_with (go_at_call 11; refine HE3.mono ?_; rintro e w6 ⟨rfl, hS6, hK6⟩)
  go_ret
  have hKall : Below w1.heap.size w2 w6 := (((hK3.below (by omega)).mono (by omega)).trans (hb4.mono (by omega))).trans (((hK5.below (by omega)).mono (by omega)).trans ((hK6.below (by omega)).mono (by omega)))
  refine ⟨rfl, ?_⟩
  exact (hb0.trans (hB2.mono hb0.size)).trans (hKall.mono hb0.size)

set_option maxHeartbeats 1000000 in
set_option maxRecDepth 100000 in
theorem hides_x4 (a0 a1 a2 : Int) (b0 : 0 ≤ a0 ∧ a0 < 256) (b1 : 0 ≤ a1 ∧ a1 < 256) (b2 : 0 ≤ a2 ∧ a2 < 256) (hr : a0 % 4 = 2) (hd : decide (0 < a2 % 5) = false) (w : World) :
    Calls Try.prog 5 #[.int .u8 a0, .int .u8 a1, .int .u8 a2] w fun e w' => e = .returned (.bool true) ∧ Below w.heap.size w w' := by
  have hc0 : 0 ≤ a2 % 5 := by omega
  have hcp : a2 % 5 ≤ 0 := by simpa using hd
  have hloc : localM (a1 % 2) (a2 % 5) = ⟨4, a1 % 2, a2 % 5, ⟨#[]⟩⟩ := by rw [local_is _ _ hc0]; simp [hcp]
  have HLoc := Lib.hid hloc
  clear hloc hcp
  have H0 := awake_any w
  go_enter Try.func5, Try.ntmps5
  go_wp2_with (go_at_call 6; refine H0.mono ?_; rintro e w1 ⟨rfl, hb0⟩)
  have H1 := of_two (w1.alloc fourObj)
  rw [alloc_size] at H1
  have HC2 : ∀ w2, Below (w1.heap.size + 1 + 1) ((w1.alloc fourObj).alloc twoObj) w2 → w2.cell? ⟨w1.heap.size, 2, none⟩ = some (.string ⟨#[120]⟩) := fun w2 hb => by
    have e1 : w2.heap[w1.heap.size]? = some fourObj := by
      rw [hb.block _ (by omega), alloc_at, if_neg (by rw [alloc_size]; omega), alloc_at, if_pos rfl]
    rw [Lib.cell_of_heap e1]; rfl
  go_wp2_with (go_at_call 8; refine H1.mono ?_; rintro e w2 ⟨bs, rfl, hS2, hb2⟩; have hc2 := HC2 _ hb2)
  have hz2 := hb2.size
  simp only [alloc_size] at hz2
  have hX : ∀ k, k < w1.heap.size + 1 + 1 → k < w2.heap.size := fun k hk => by omega
  have hB2 : Below w1.heap.size w1 w2 := (((Below.refl _ _).alloc (Nat.le_refl _) _).alloc (by simp) _).trans (hb2.mono (by omega))
  have HE := enter_yes hS2 hX (by unfold maxLen; omega) (by simp) ⟨#[120]⟩ sz1 (a1 % 2) (a2 % 5) (by rw [twoF_x]; rfl)
  go_wp2_with fail
  go_at_call 11
  refine HE.mono ?_
  rintro e w3 ⟨rfl, hS3, hK3⟩
  have HE2 := enter_no hS3 ⟨#[120]⟩ sz1 0 0 (by rw [put_same]; exact local_ne _ _)
  go_wp2_with (go_at_call 11; refine HE2.mono ?_; rintro e w4 ⟨rfl, h4⟩; obtain rfl := h4.symm; clear h4)
  have HF := find_at hS3 ⟨#[120]⟩ sz1 4 (a1 % 2) (a2 % 5) ⟨#[]⟩ (by rw [put_same]; exact HLoc.out)
  go_wp2_with (go_at_call 13; refine HF.mono ?_; rintro e w4 ⟨rfl, hb4⟩; have hS4 := hS3.below hb4)
  have HL := leave_yes hS4 (by simp) 0 (by simp)
  go_wp2_with (go_at_call 9; refine HL.mono ?_; rintro e w5 ⟨rfl, hS5, hK5⟩)
  have hz3 := hK3.size
  have hz4 := hb4.size
  have hz5 := hK5.size
  have HE3 := enter_yes hS5 (fun k hk => by have := hX k hk; omega) (by unfold maxLen; omega) (by simp) ⟨#[120]⟩ sz1 0 0 (by simp [putAll, put_same]; rfl)
  go_wp2_with (go_at_call 11; refine HE3.mono ?_; rintro e w6 ⟨rfl, hS6, hK6⟩)
  go_ret
  have hKall : Below w1.heap.size w2 w6 := (((hK3.below (by omega)).mono (by omega)).trans (hb4.mono (by omega))).trans (((hK5.below (by omega)).mono (by omega)).trans ((hK6.below (by omega)).mono (by omega)))
  refine ⟨rfl, ?_⟩
  exact (hb0.trans (hB2.mono hb0.size)).trans (hKall.mono hb0.size)

set_option maxHeartbeats 1000000 in
set_option maxRecDepth 100000 in
theorem hides_y5 (a0 a1 a2 : Int) (b0 : 0 ≤ a0 ∧ a0 < 256) (b1 : 0 ≤ a1 ∧ a1 < 256) (b2 : 0 ≤ a2 ∧ a2 < 256) (hr : a0 % 4 = 3) (hd : decide (0 < a2 % 5) = true) (w : World) :
    Calls Try.prog 5 #[.int .u8 a0, .int .u8 a1, .int .u8 a2] w fun e w' => e = .returned (.bool true) ∧ Below w.heap.size w w' := by
  have hc0 : 0 ≤ a2 % 5 := by omega
  have hcp : 0 < a2 % 5 := by simpa using hd
  have hloc : localM (a1 % 2) (a2 % 5) = ⟨5, a1 % 2, a2 % 5, ⟨#[]⟩⟩ := by rw [local_is _ _ hc0]; simp [hcp]
  have HLoc := Lib.hid hloc
  clear hloc hcp
  have H0 := awake_any w
  go_enter Try.func5, Try.ntmps5
  go_wp2_with (go_at_call 6; refine H0.mono ?_; rintro e w1 ⟨rfl, hb0⟩)
  have H1 := of_two (w1.alloc fourObj)
  rw [alloc_size] at H1
  have HC2 : ∀ w2, Below (w1.heap.size + 1 + 1) ((w1.alloc fourObj).alloc twoObj) w2 → w2.cell? ⟨w1.heap.size, 3, none⟩ = some (.string ⟨#[121]⟩) := fun w2 hb => by
    have e1 : w2.heap[w1.heap.size]? = some fourObj := by
      rw [hb.block _ (by omega), alloc_at, if_neg (by rw [alloc_size]; omega), alloc_at, if_pos rfl]
    rw [Lib.cell_of_heap e1]; rfl
  go_wp2_with (go_at_call 8; refine H1.mono ?_; rintro e w2 ⟨bs, rfl, hS2, hb2⟩; have hc2 := HC2 _ hb2)
  have hz2 := hb2.size
  simp only [alloc_size] at hz2
  have hX : ∀ k, k < w1.heap.size + 1 + 1 → k < w2.heap.size := fun k hk => by omega
  have hB2 : Below w1.heap.size w1 w2 := (((Below.refl _ _).alloc (Nat.le_refl _) _).alloc (by simp) _).trans (hb2.mono (by omega))
  have HE := enter_yes hS2 hX (by unfold maxLen; omega) (by simp) ⟨#[121]⟩ sz1 (a1 % 2) (a2 % 5) (by rw [twoF_y]; rfl)
  go_wp2_with fail
  go_at_call 11
  refine HE.mono ?_
  rintro e w3 ⟨rfl, hS3, hK3⟩
  have HE2 := enter_no hS3 ⟨#[121]⟩ sz1 0 0 (by rw [put_same]; exact local_ne _ _)
  go_wp2_with (go_at_call 11; refine HE2.mono ?_; rintro e w4 ⟨rfl, h4⟩; obtain rfl := h4.symm; clear h4)
  have HF := find_at hS3 ⟨#[121]⟩ sz1 5 (a1 % 2) (a2 % 5) ⟨#[]⟩ (by rw [put_same]; exact HLoc.out)
  go_wp2_with (go_at_call 13; refine HF.mono ?_; rintro e w4 ⟨rfl, hb4⟩; have hS4 := hS3.below hb4)
  have HL := leave_yes hS4 (by simp) 0 (by simp)
  go_wp2_with (go_at_call 9; refine HL.mono ?_; rintro e w5 ⟨rfl, hS5, hK5⟩)
  have hz3 := hK3.size
  have hz4 := hb4.size
  have hz5 := hK5.size
  have HE3 := enter_yes hS5 (fun k hk => by have := hX k hk; omega) (by unfold maxLen; omega) (by simp) ⟨#[121]⟩ sz1 0 0 (by simp [putAll, put_same]; rfl)
  go_wp2_with (go_at_call 11; refine HE3.mono ?_; rintro e w6 ⟨rfl, hS6, hK6⟩)
  go_ret
  have hKall : Below w1.heap.size w2 w6 := (((hK3.below (by omega)).mono (by omega)).trans (hb4.mono (by omega))).trans (((hK5.below (by omega)).mono (by omega)).trans ((hK6.below (by omega)).mono (by omega)))
  refine ⟨rfl, ?_⟩
  exact (hb0.trans (hB2.mono hb0.size)).trans (hKall.mono hb0.size)

set_option maxHeartbeats 1000000 in
set_option maxRecDepth 100000 in
theorem hides_y4 (a0 a1 a2 : Int) (b0 : 0 ≤ a0 ∧ a0 < 256) (b1 : 0 ≤ a1 ∧ a1 < 256) (b2 : 0 ≤ a2 ∧ a2 < 256) (hr : a0 % 4 = 3) (hd : decide (0 < a2 % 5) = false) (w : World) :
    Calls Try.prog 5 #[.int .u8 a0, .int .u8 a1, .int .u8 a2] w fun e w' => e = .returned (.bool true) ∧ Below w.heap.size w w' := by
  have hc0 : 0 ≤ a2 % 5 := by omega
  have hcp : a2 % 5 ≤ 0 := by simpa using hd
  have hloc : localM (a1 % 2) (a2 % 5) = ⟨4, a1 % 2, a2 % 5, ⟨#[]⟩⟩ := by rw [local_is _ _ hc0]; simp [hcp]
  have HLoc := Lib.hid hloc
  clear hloc hcp
  have H0 := awake_any w
  go_enter Try.func5, Try.ntmps5
  go_wp2_with (go_at_call 6; refine H0.mono ?_; rintro e w1 ⟨rfl, hb0⟩)
  have H1 := of_two (w1.alloc fourObj)
  rw [alloc_size] at H1
  have HC2 : ∀ w2, Below (w1.heap.size + 1 + 1) ((w1.alloc fourObj).alloc twoObj) w2 → w2.cell? ⟨w1.heap.size, 3, none⟩ = some (.string ⟨#[121]⟩) := fun w2 hb => by
    have e1 : w2.heap[w1.heap.size]? = some fourObj := by
      rw [hb.block _ (by omega), alloc_at, if_neg (by rw [alloc_size]; omega), alloc_at, if_pos rfl]
    rw [Lib.cell_of_heap e1]; rfl
  go_wp2_with (go_at_call 8; refine H1.mono ?_; rintro e w2 ⟨bs, rfl, hS2, hb2⟩; have hc2 := HC2 _ hb2)
  have hz2 := hb2.size
  simp only [alloc_size] at hz2
  have hX : ∀ k, k < w1.heap.size + 1 + 1 → k < w2.heap.size := fun k hk => by omega
  have hB2 : Below w1.heap.size w1 w2 := (((Below.refl _ _).alloc (Nat.le_refl _) _).alloc (by simp) _).trans (hb2.mono (by omega))
  have HE := enter_yes hS2 hX (by unfold maxLen; omega) (by simp) ⟨#[121]⟩ sz1 (a1 % 2) (a2 % 5) (by rw [twoF_y]; rfl)
  go_wp2_with fail
  go_at_call 11
  refine HE.mono ?_
  rintro e w3 ⟨rfl, hS3, hK3⟩
  have HE2 := enter_no hS3 ⟨#[121]⟩ sz1 0 0 (by rw [put_same]; exact local_ne _ _)
  go_wp2_with (go_at_call 11; refine HE2.mono ?_; rintro e w4 ⟨rfl, h4⟩; obtain rfl := h4.symm; clear h4)
  have HF := find_at hS3 ⟨#[121]⟩ sz1 4 (a1 % 2) (a2 % 5) ⟨#[]⟩ (by rw [put_same]; exact HLoc.out)
  go_wp2_with (go_at_call 13; refine HF.mono ?_; rintro e w4 ⟨rfl, hb4⟩; have hS4 := hS3.below hb4)
  have HL := leave_yes hS4 (by simp) 0 (by simp)
  go_wp2_with (go_at_call 9; refine HL.mono ?_; rintro e w5 ⟨rfl, hS5, hK5⟩)
  have hz3 := hK3.size
  have hz4 := hb4.size
  have hz5 := hK5.size
  have HE3 := enter_yes hS5 (fun k hk => by have := hX k hk; omega) (by unfold maxLen; omega) (by simp) ⟨#[121]⟩ sz1 0 0 (by simp [putAll, put_same]; rfl)
  go_wp2_with (go_at_call 11; refine HE3.mono ?_; rintro e w6 ⟨rfl, hS6, hK6⟩)
  go_ret
  have hKall : Below w1.heap.size w2 w6 := (((hK3.below (by omega)).mono (by omega)).trans (hb4.mono (by omega))).trans (((hK5.below (by omega)).mono (by omega)).trans ((hK6.below (by omega)).mono (by omega)))
  refine ⟨rfl, ?_⟩
  exact (hb0.trans (hB2.mono hb0.size)).trans (hKall.mono hb0.size)

theorem hides_walk (a0 a1 a2 : Int) (w : World) (h0 : (Lit.int .u8 a0).wf = true) (h1 : (Lit.int .u8 a1).wf = true) (h2 : (Lit.int .u8 a2).wf = true) :
    Calls Try.prog 5 #[.int .u8 a0, .int .u8 a1, .int .u8 a2] w fun e w' => e = .returned (.bool true) ∧ Below w.heap.size w w' := by
  have b0 := u8_wf h0
  have b1 := u8_wf h1
  have b2 := u8_wf h2
  rcases (show a0 % 4 = 0 ∨ a0 % 4 = 1 ∨ a0 % 4 = 2 ∨ a0 % 4 = 3 by omega) with h | h | h | h
  · exact hides_a a0 a1 a2 b0 b1 b2 h w
  · exact hides_l a0 a1 a2 b0 b1 b2 h w
  · cases hd : decide (0 < a2 % 5)
    · exact hides_x4 a0 a1 a2 b0 b1 b2 h hd w
    · exact hides_x5 a0 a1 a2 b0 b1 b2 h hd w
  · cases hd : decide (0 < a2 % 5)
    · exact hides_y4 a0 a1 a2 b0 b1 b2 h hd w
    · exact hides_y5 a0 a1 a2 b0 b1 b2 h hd w
end Go.Proofs.Ytnpennclgenppaa
