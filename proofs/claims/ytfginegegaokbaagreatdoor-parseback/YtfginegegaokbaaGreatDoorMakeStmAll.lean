/- What the maker's stmt does, when it is called, whatever its numbers are. Conditions: the maker lies in a block of its own. -/
import Derived.Test.YtfginegegaokbaaGreatDoorMakeStmA
import Derived.Test.YtfginegegaokbaaGreatDoorMakeStmB
import Derived.Test.YtfginegegaokbaaGreatDoorMakeStmC
import Derived.Test.YtfginegegaokbaaGreatDoorMakeStmD
import Derived.Test.YtfginegegaokbaaGreatDoorMakeStmF
import Derived.Test.YtfginegegaokbaaGreatDoorMakeStmE
import Derived.Test.YtfginegegaokbaaGreatDoorMakeStmG
namespace Go.Proofs.YtfginegegaokbaaGreatDoor
open Go.ChangeShapes Go.WideShapes Go.ChangeAt Go.RowKit
set_option linter.unusedVariables false

set_option maxHeartbeats 2000000 in
theorem mstmt_all : ∀ f, MStmtC f
  | 0 => fun B bm inside E ns w hM hf hd1 hd4 hroom => by
    have := heldN_le E
    omega
  | f + 1 => fun B bm inside E ns w hM hf hd1 hd4 hroom => by
    have ih := mstmt_all f
    have h12 := nxV_lt ns 12 (by omega)
    show Calls Tryz.prog 40 _ w (MadeS B bm (f + 1) w (stmtB (stmtM f) inside E ns))
    unfold stmtB
    by_cases c0 : nxV ns 12 = 0 ∧ E.loc.length < 90
    · rw [if_pos c0]; exact stmt_localS B bm f E inside ns w hM c0.2 c0.1
    rw [if_neg c0]
    by_cases c1 : nxV ns 12 = 1 ∧ E.loc.length < 90 ∧ inside = false
    · rw [if_pos c1]; exact stmt_localP B bm f E inside ns w hM c1.2.1 c1.2.2 c1.1
    rw [if_neg c1]
    by_cases c2 : nxV ns 12 = 2
    · rw [if_pos c2]; exact stmt_assignS B bm f E inside ns w hM c2
    rw [if_neg c2]
    by_cases c3 : nxV ns 12 = 3
    · rw [if_pos c3]; exact stmt_storeS B bm f E inside ns w hM c3
    rw [if_neg c3]
    by_cases c4 : nxV ns 12 = 4 ∧ E.deep < 4
    · rw [if_pos c4]; exact stmt_ifS ih B bm E inside ns w hM hf hd1 c4.2 hroom c4.1
    rw [if_neg c4]
    by_cases c5 : nxV ns 12 = 5 ∧ E.deep < 4
    · rw [if_pos c5]; exact stmt_loop ih B bm E inside ns w hM hf hd1 c5.2 hroom c5.1
    rw [if_neg c5]
    by_cases hin : inside = true
    · rw [if_pos hin]
      have hk : (nxV ns 12 = 0 ∨ nxV ns 12 = 1 ∨ nxV ns 12 = 4 ∨ nxV ns 12 = 5) ∨ nxV ns 12 = 6 ∨ nxV ns 12 = 7 ∨ nxV ns 12 = 8 ∨ nxV ns 12 = 9 ∨ nxV ns 12 = 10 ∨ nxV ns 12 = 11 := by omega
      rcases hk with (k | k | k | k) | k | k | k | k | k | k
      · exact stmt_in0 B bm f E inside ns w hM (fun h => c0 ⟨k, h⟩) hin k
      · by_cases hl : E.loc.length < 90
        · exact stmt_in2 B bm f E inside ns w hM hl hin k
        · exact stmt_in1 B bm f E inside ns w hM hl hin k
      · exact stmt_in3 B bm f E inside ns w hM (fun h => c4 ⟨k, h⟩) hin k
      · exact stmt_in4 B bm f E inside ns w hM (fun h => c5 ⟨k, h⟩) hin k
      · exact stmt_in5 B bm f E inside ns w hM hin k
      · exact stmt_in6 B bm f E inside ns w hM hin k
      · exact stmt_in7 B bm f E inside ns w hM hin k
      · exact stmt_in8 B bm f E inside ns w hM hin k
      · exact stmt_in9 B bm f E inside ns w hM hin k
      · exact stmt_in10 B bm f E inside ns w hM hin k
    rw [if_neg hin]
    have hnot : inside = false := by cases inside <;> simp_all
    by_cases c6 : nxV ns 12 = 6 ∧ E.deep < 4
    · rw [if_pos c6]; exact stmt_ifP ih B bm E inside ns w hM hf hd1 c6.2 hroom hnot c6.1
    rw [if_neg c6]
    by_cases c7 : nxV ns 12 = 7
    · rw [if_pos c7]; exact stmt_storeP B bm f E inside ns w hM hnot c7
    rw [if_neg c7]
    by_cases c8 : nxV ns 12 = 8 ∧ E.held = false
    · rw [if_pos c8]; exact stmt_held ih B bm E inside ns w hM hf hd1 hd4 hroom hnot c8.2 c8.1
    rw [if_neg c8]
    by_cases c9 : nxV ns 12 = 9
    · rw [if_pos c9]; exact stmt_bump B bm f E inside ns w hM hnot c9
    rw [if_neg c9]
    by_cases c10 : nxV ns 12 = 10
    · rw [if_pos c10]; exact stmt_output B bm f E inside ns w hM hnot c10
    rw [if_neg c10]
    by_cases c11 : nxV ns 12 = 11
    · rw [if_pos c11]; exact stmt_fence B bm f E inside ns w hM hnot c11
    rw [if_neg c11]
    have hk : nxV ns 12 = 0 ∨ nxV ns 12 = 1 ∨ nxV ns 12 = 4 ∨ nxV ns 12 = 5 ∨ nxV ns 12 = 6 ∨ nxV ns 12 = 8 := by omega
    rcases hk with k | k | k | k | k | k
    · exact stmt_out0 B bm f E inside ns w hM (fun h => c0 ⟨k, h⟩) hnot k
    · exact stmt_out1 B bm f E inside ns w hM (fun h => c1 ⟨k, h, hnot⟩) hnot k
    · exact stmt_out2 B bm f E inside ns w hM (fun h => c4 ⟨k, h⟩) hnot k
    · exact stmt_out3 B bm f E inside ns w hM (fun h => c5 ⟨k, h⟩) hnot k
    · exact stmt_out4 B bm f E inside ns w hM (fun h => c6 ⟨k, h⟩) hnot k
    · exact stmt_out5 B bm f E inside ns w hM (by cases h : E.held with | true => rfl | false => exact absurd ⟨k, h⟩ c8) hnot k
end Go.Proofs.YtfginegegaokbaaGreatDoor
