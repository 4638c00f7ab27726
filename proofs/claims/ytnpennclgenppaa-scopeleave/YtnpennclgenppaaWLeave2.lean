/- The walk of ScopeLeave: on every input it returns true. Conditions: none. -/
import Derived.Test.YtnpennclgenppaaWLeave
namespace Go.Proofs.Ytnpennclgenppaa
open Go.ChangeShapes Go.WideShapes Go.RowKit Go.Maps
set_option linter.unusedVariables false
set_option linter.unusedSimpArgs false

set_option maxHeartbeats 1000000 in
set_option maxRecDepth 100000 in
theorem leave_walk (a0 a1 : Int) (w : World) (h0 : (Lit.int .u8 a0).wf = true) (h1 : (Lit.int .u8 a1).wf = true) :
    Calls Try.prog 4 #[.int .u8 a0, .int .u8 a1] w fun e w' => e = .returned (.bool true) ∧ Below w.heap.size w w' := by
  have b0 := u8_wf h0
  have b1 := u8_wf h1
  obtain ⟨k, hk, hkI⟩ : ∃ k : Nat, k ≤ 12 ∧ a0 % 13 = (k : Int) := ⟨(a0 % 13).toNat, by omega, by omega⟩
  obtain ⟨j, hj, hjI⟩ : ∃ j : Nat, j ≤ 12 ∧ a1 % 13 = (j : Int) := ⟨(a1 % 13).toNat, by omega, by omega⟩
  have H0 := awake_any w
  go_enter Try.func4, Try.ntmps4
  go_wp2_with (go_at_call 6; refine H0.mono ?_; rintro e w1 ⟨rfl, hb0⟩)
  have H1 := of_nil w1
  go_wp2_with (go_at_call 8; refine H1.mono ?_; rintro e w2 ⟨bs, rfl, hS2, hb2⟩)
  simp only [hkI, hjI]
  go_loopw [10] (fun iv wr => ∃ i : Nat, i ≤ k ∧ iv = .int .i64 i ∧ ScAt (· < w1.heap.size) bs i (fA i) (nmsA i) wr ∧ Below w1.heap.size w1 wr) (fun iv _ => k - (intOf iv).toNat)
  case atStart => exact ⟨0, Nat.zero_le _, rfl, hS2, hb2⟩
  case round =>
    obtain ⟨i, hi, rfl, hSr, hBr⟩ := hrel
    by_cases hlt : i < k
    · have hcut := fun W => cut_nm (i := i) (by omega) W (i : Int) ((i : Int) + 1) rfl rfl
      have hsz := nm_size (i := i) (by omega)
      have HE := enter_yes hSr (fun q hq => Nat.lt_of_lt_of_le hq hBr.size) (by unfold maxLen; omega) (by rw [nmsA_len]; omega) (nm i) hsz 0 0 (fA_free (by omega))
      go_wp2_with (go_at_call 11; refine HE.mono ?_; rintro e w3 ⟨rfl, hS3, hK3⟩)
      go_roundw
      case rel => exact ⟨i + 1, by omega, by go_num, by rw [fA_succ, nmsA_succ]; exact hS3, hBr.trans (hK3.below hBr.size)⟩
      case measure => simp [intOf]; omega
    · obtain rfl : k = i := by omega
      have HM := mark_any hSr
      rw [nmsA_len] at HM
      go_wp2_with (go_at_call 12; refine HM.mono ?_; rintro e w3 ⟨rfl, h3⟩; obtain rfl := h3.symm)
      clear HM hlt hi
      go_loopw [12] (fun iv wr => ∃ q : Nat, q ≤ j ∧ iv = .int .i64 q ∧ ScAt (· < w1.heap.size) bs (k + q) (fB k q) (nmsA k ++ nmsB q) wr ∧ Below w1.heap.size w1 wr) (fun iv _ => j - (intOf iv).toNat)
      case atStart => exact ⟨0, Nat.zero_le _, rfl, by rw [show fB k 0 = fA k from rfl]; simpa [nmsB] using hSr, hBr⟩
      case round =>
        obtain ⟨q, hq, rfl, hSq, hBq⟩ := hrel
        by_cases hlt : q < j
        · have hcut := fun W => cut_nm (i := 13 + q) (by omega) W (13 + (q : Int)) (14 + (q : Int)) (by omega) (by omega)
          have hsz := nm_size (i := 13 + q) (by omega)
          have HE := enter_yes hSq (fun x hx => Nat.lt_of_lt_of_le hx hBq.size) (by unfold maxLen; omega) (by rw [List.length_append, nmsA_len, nmsB_len]; omega) (nm (13 + q)) hsz 1 3 (fB_free (by omega) (by omega))
          go_wp2_with (go_at_call 11; refine HE.mono ?_; rintro e w3 ⟨rfl, hS3, hK3⟩)
          go_roundw
          case rel => exact ⟨q + 1, by omega, by go_num, by rw [fB_succ, nmsB_succ, ← List.append_assoc]; exact hS3, hBq.trans (hK3.below hBq.size)⟩
          case measure => simp [intOf]; omega
        · obtain rfl : j = q := by omega
          have HL := leave_le hSq (by rw [List.length_append, nmsA_len, nmsB_len]; omega) k (by rw [List.length_append, nmsA_len]; omega)
          rw [List.drop_append_of_le_length (by rw [nmsA_len]; omega), List.take_append_of_le_length (by rw [nmsA_len]; omega)] at HL
          rw [List.drop_eq_nil_iff.2 (by rw [nmsA_len]; omega), List.nil_append, List.take_of_length_le (by rw [nmsA_len]; omega)] at HL
          go_wp2_with (go_at_call 9; refine HL.mono ?_; rintro e w4 ⟨rfl, hS4, hK4⟩)
          have hB4 := hBq.trans (hK4.below hBq.size)
          clear HL hlt hq
          go_loopw [13] (fun iv wr => ∃ i : Nat, i ≤ 26 ∧ iv = .int .i64 i ∧ ScAt (· < w1.heap.size) bs (k + j) (putAll (fB k j) (nmsB j)) (nmsA k) wr ∧ Below w1.heap.size w1 wr) (fun iv _ => 26 - (intOf iv).toNat)
          case atStart => exact ⟨0, Nat.zero_le _, rfl, hS4, hB4⟩
          case round =>
            obtain ⟨i, hi, rfl, hSi, hBi⟩ := hrel
            by_cases hlt : i < 26
            · have hcut := fun W => cut_nm (i := i) (by omega) W (i : Int) ((i : Int) + 1) rfl rfl
              have hsz := nm_size (i := i) (by omega)
              have hlf := left_is (k := k) (j := j) (i := i) (by omega) (by omega) hlt
              by_cases hik : i < k
              · rw [if_pos hik] at hlf
                have HF := find_at hSi (nm i) hsz _ _ _ _ hlf
                go_wp2_with (go_at_call 13; refine HF.mono ?_; rintro e w5 ⟨rfl, hb5⟩)
                go_roundw
                case rel => exact ⟨i + 1, by omega, by go_num, hSi.below hb5, hBi.trans (hb5.mono hBi.size)⟩
                case measure => simp [intOf]; omega
              · rw [if_neg hik] at hlf
                have hd1 : decide (i < k) = false := by simpa using hik
                have hd2 : decide (k ≤ i) = true := by simpa using hik
                have HF := find_at hSi (nm i) hsz _ _ _ _ hlf
                go_wp2_with (go_at_call 13; refine HF.mono ?_; rintro e w5 ⟨rfl, hb5⟩)
                go_roundw
                case rel => exact ⟨i + 1, by omega, by go_num, hSi.below hb5, hBi.trans (hb5.mono hBi.size)⟩
                case measure => simp [intOf]; omega
            · have HM := mark_any hSi
              rw [nmsA_len] at HM
              have hlf := left_is (k := k) (j := j) (i := 13) (by omega) (by omega) (by omega)
              rw [if_neg (by omega), nm13] at hlf
              have HE := enter_yes hSi (fun x hx => Nat.lt_of_lt_of_le hx hBi.size) (by unfold maxLen; omega) (by rw [nmsA_len]; omega) ⟨#[110]⟩ sz1 0 0 (by rw [hlf]; rfl)
              go_wp2_with (first | (go_at_call 12; refine HM.mono ?_; rintro e w5 ⟨rfl, h5⟩; obtain rfl := h5.symm) | (go_at_call 11; refine HE.mono ?_; rintro e w6 ⟨rfl, hS6, hK6⟩))
              go_ret
              exact ⟨rfl, hb0.trans ((hBi.trans (hK6.below hBi.size)).mono hb0.size)⟩
end Go.Proofs.Ytnpennclgenppaa
