/- What the statements' own awake answers: the document's examples. Conditions: the table of powers holds what its initialiser lays. -/
import Derived.Test.YtjiecfagblijhaaDoorCdText
namespace Go.Proofs.YtjiecfagblijhaaDoor.Cd
open Go.ChangeShapes Go.WideShapes Go.ChangeAt Go.RowKit
set_option linter.unusedVariables false
set_option linter.unusedSimpArgs false

theorem ex_one : textP ⟨2, 1, 3, 1, 2, 0, 0, 0⟩ = [100, 111, 32, 118, 51, 32, 45, 32, 118, 49, 32, 118, 50] := by kernel_rfl
theorem ex_two : textP ⟨4, 0, 1, -1, 0, 0, 5, 0⟩ = [114, 101, 97, 100, 32, 118, 49, 32, 53] := by kernel_rfl
theorem ex_good : goodB [⟨13, 0, 0, 0, 0, 0, 0, 0⟩] = true := by kernel_rfl
theorem halt_at (W : World) : CodesAt (W.alloc (.cells #[.int .i64 13, .int .i64 0, .int .i64 0, .int .i64 0, .int .i64 0, .int .i64 0, .int .u64 0, .int .i64 0] 26)) (.slice (some ⟨W.heap.size, 0, none⟩) 1 1) [⟨13, 0, 0, 0, 0, 0, 0, 0⟩] := by
  refine ⟨_, 1, rfl, by simp, fun i x hx => ?_⟩
  obtain ⟨rfl, rfl⟩ : i = 0 ∧ x = ⟨13, 0, 0, 0, 0, 0, 0, 0⟩ := by
    match i, hx with
    | 0, hx => exact ⟨rfl, (Option.some.inj hx).symm⟩
  have h : (W.alloc (.cells #[.int .i64 13, .int .i64 0, .int .i64 0, .int .i64 0, .int .i64 0, .int .i64 0, .int .u64 0, .int .i64 0] 26)).heap[W.heap.size]? = some (.cells #[.int .i64 13, .int .i64 0, .int .i64 0, .int .i64 0, .int .i64 0, .int .i64 0, .int .u64 0, .int .i64 0] 26 (0, 0)) := by rw [alloc_at, if_pos rfl]
  obtain ⟨x0, x1, x2, x3, x4, x5, x6, x7⟩ := code_cells h
  refine ⟨by simp only [Cd.fits]; omega, _, 0, rfl, by rw [alloc_size]; omega, x0, x1, x2, x3, x4, x5, x6, x7⟩

set_option maxHeartbeats 2000000 in
set_option maxRecDepth 100000 in
theorem awake_any (w : World) (hV : Vars w.heap.size w) : Calls Tryd.prog 8 #[] w fun e w' => e = .returned (.bool true) ∧ Below w.heap.size w w' := by
  have P1 := text_any ⟨2, 1, 3, 1, 2, 0, 0, 0⟩ (by simp only [Cd.fits]; omega) w hV
  have P2 := fun w1 (hb1 : Below w.heap.size w w1) => text_any ⟨4, 0, 1, -1, 0, 0, 5, 0⟩ (by simp only [Cd.fits]; omega) w1 ((hV.on hb1).mono hb1.size)
  have P3 := fun w1 => good_any [⟨13, 0, 0, 0, 0, 0, 0, 0⟩] _ _ (halt_at w1)
  rw [ex_one] at P1
  simp only [ex_two] at P2
  simp only [ex_good] at P3
  simp only [bstr] at P1 P2
  go_enter Tryd.func8, Tryd.ntmps8
  go_wp2_with (first
    | (go_at_call 18; refine (P2 _ hb1).mono ?_; rintro ed w2 ⟨rfl, hb2⟩)
    | (go_at_call 18; refine P1.mono ?_; rintro ed w1 ⟨rfl, hb1⟩)
    | (go_at_call 16; refine (P3 _).mono ?_; rintro ed w3 ⟨rfl, hb3⟩))
  go_ret
  exact ⟨rfl, (hb1.trans (hb2.mono hb1.size)).trans (((Below.refl _ _).alloc (Nat.le_refl _) _).trans (hb3.mono (by simp)) |>.mono (Nat.le_trans hb1.size hb2.size))⟩
end Go.Proofs.YtjiecfagblijhaaDoor.Cd
