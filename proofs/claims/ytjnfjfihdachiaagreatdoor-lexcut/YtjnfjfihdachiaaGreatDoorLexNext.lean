/- What the statements' own skip, value and next answer when they are called. Conditions: as each theorem says. -/
import Derived.Test.YtjnfjfihdachiaaGreatDoorLexKeyC
namespace Go.Proofs.YtjnfjfihdachiaaGreatDoor
open Go.ChangeShapes Go.WideShapes Go.ChangeAt Go.RowKit
set_option linter.unusedVariables false

/-- How many bytes there are ahead of a line's end. -/
def toLine : List UInt8 → Nat
  | [] => 0
  | c :: r => if num c = 10 then 0 else toLine r + 1
theorem blanks_true : ∀ l : List UInt8, blanks true l = toLine l + blanks false (l.drop (toLine l))
  | [] => rfl
  | c :: r => by
    by_cases h10 : num c = 10
    · rw [blanks_line h10, toLine, if_pos h10, List.drop_zero, blanks_line h10]; omega
    · have e : toLine (c :: r) = toLine r + 1 := by rw [toLine, if_neg h10]
      by_cases h35 : num c = 35
      · rw [blanks_hash h35, e, List.drop_succ_cons, blanks_true r]; omega
      · rw [blanks_more h35 h10 (by simp), e, List.drop_succ_cons, blanks_true r]; omega
theorem toLine_le : ∀ l : List UInt8, toLine l ≤ l.length
  | [] => Nat.le_refl _
  | c :: r => by
    have := toLine_le r
    unfold toLine
    split <;> simp <;> omega
theorem toLine_yes {c : UInt8} {r : List UInt8} (h : num c = 10) : toLine (c :: r) = 0 := by rw [toLine, if_pos h]
theorem toLine_no {c : UInt8} {r : List UInt8} (h : ¬ num c = 10) : toLine (c :: r) = toLine r + 1 := by rw [toLine, if_neg h]

set_option maxHeartbeats 2000000 in
theorem lawSkip (s : ByteArray) (k0 : Nat) (w : World) (hs : s.size ≤ 65536) (h0 : k0 ≤ s.size) :
    Calls Tryz.prog 12 #[.string s, .int .i64 k0] w fun e w' => e = .returned (.int .i64 ((k0 + blanks false ((bys s).drop k0) : Nat) : Int)) ∧ w' = w := by
  go_enter Tryz.func12, Tryz.ntmps12
  go_wp2
  go_loop [1] (fun i => ∃ (k : Nat), k ≤ s.size ∧ i = .int .i64 k ∧ Hid (k + blanks false ((bys s).drop k) = k0 + blanks false ((bys s).drop k0))) (fun i => s.size - (intOf i).toNat)
  case atStart => exact ⟨k0, h0, rfl, rfl⟩
  case round =>
    obtain ⟨k, hk, rfl, hh⟩ := hrel
    by_cases hlt : k < s.size
    · have hd := drop_cons s k hlt
      by_cases h35 : num s[k] = 35
      · obtain ⟨m, hm⟩ : ∃ m, k + 1 + toLine ((bys s).drop (k + 1)) = m := ⟨_, rfl⟩
        have hms : m ≤ s.size := by have := toLine_le ((bys s).drop (k + 1)); rw [List.length_drop, bys_length] at this; omega
        have H : Hid (m + blanks false ((bys s).drop m) = k0 + blanks false ((bys s).drop k0)) := by
          show _ = _
          rw [← hh.out, hd, blanks_hash h35, blanks_true, List.drop_drop, ← hm]; omega
        have hnb : blankB (num s[k]) = false := by rw [h35]; rfl
        have h35' := h35
        clear hd hh
        unfold num at h35' hnb
        go_wp2_with (go_at_call 22; refine (lawBlank _ _).mono ?_; rintro e w' ⟨rfl, rfl⟩)
        go_loop [1] (fun i => ∃ (j : Nat), k ≤ j ∧ j ≤ s.size ∧ i = .int .i64 j ∧ Hid (j = k ∨ (k < j ∧ j + toLine ((bys s).drop j) = m))) (fun i => s.size - (intOf i).toNat)
        case atStart => exact ⟨k, by omega, by omega, rfl, Or.inl rfl⟩
        case round =>
          obtain ⟨j, hkj, hjs, rfl, hj⟩ := hrel
          by_cases hjlt : j < s.size
          · have hdj := drop_cons s j hjlt
            by_cases h10 : num s[j] = 10
            · have HM : Hid (j = m ∧ k < j) := by
                show _ ∧ _
                rcases hj.out with e | ⟨e1, e2⟩
                · subst e; rw [h35] at h10; omega
                · rw [hdj, toLine_yes h10] at e2; omega
              have h10' := h10
              unfold num at h10'
              clear hdj hj
              go_wp2
              go_round
              case rel => exact ⟨m, hms, by rw [← HM.out.1], H⟩
              case measure => have := HM.out; simp [intOf]; omega
            · have HJ : Hid (j + 1 = k ∨ (k < j + 1 ∧ j + 1 + toLine ((bys s).drop (j + 1)) = m)) := by
                refine Or.inr ⟨by omega, ?_⟩
                rcases hj.out with e | ⟨e1, e2⟩
                · rw [e]; exact hm
                · rw [hdj, toLine_no h10] at e2; omega
              have h10' := h10
              unfold num at h10'
              clear hdj hj
              go_wp2
              go_round
              case rel => exact ⟨j + 1, by omega, by omega, by go_num, HJ⟩
              case measure => simp [intOf]; omega
          · have HM : Hid (j = m ∧ k < j) := by
              show _ ∧ _
              rcases hj.out with e | ⟨e1, e2⟩
              · omega
              · rw [drop_all s j hjlt] at e2; simp [toLine] at e2; omega
            clear hj
            go_wp2
            go_round
            case rel => exact ⟨m, hms, by rw [← HM.out.1], H⟩
            case measure => have := HM.out; simp [intOf]; omega
      · cases hb : blankB (num s[k])
        · have h10 : ¬ num s[k] = 10 := fun e => by rw [e] at hb; cases hb
          have H : Hid (k = k0 + blanks false ((bys s).drop k0)) := by rw [← hh.out, hd, blanks_stop h35 h10 (by simp [hb])]; rfl
          clear hd hh
          have h35' := h35
          unfold num at h35' hb
          go_wp2_with (go_at_call 22; refine (lawBlank _ _).mono ?_; rintro e w' ⟨rfl, rfl⟩)
          go_ret
          exact ⟨ret_int (by have := H.out; omega), rfl⟩
        · have H : Hid (k + 1 + blanks false ((bys s).drop (k + 1)) = k0 + blanks false ((bys s).drop k0)) := by
            show _ = _
            rw [← hh.out, hd]
            by_cases h10 : num s[k] = 10
            · rw [blanks_line h10]; omega
            · rw [blanks_more h35 h10 (by simp [hb])]; omega
          clear hd hh
          have h35' := h35
          unfold num at h35' hb
          go_wp2_with (go_at_call 22; refine (lawBlank _ _).mono ?_; rintro e w' ⟨rfl, rfl⟩)
          go_round
          case rel => exact ⟨k + 1, by omega, by go_num, H⟩
          case measure => simp [intOf]; omega
    · have H : Hid (k = k0 + blanks false ((bys s).drop k0)) := by rw [← hh.out, drop_all s k hlt]; rfl
      clear hh
      go_wp2
      go_ret
      exact ⟨ret_int (by have := H.out; omega), rfl⟩
end Go.Proofs.YtjnfjfihdachiaaGreatDoor
