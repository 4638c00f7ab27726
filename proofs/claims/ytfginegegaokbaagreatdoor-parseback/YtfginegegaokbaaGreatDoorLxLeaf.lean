/- What the small functions of packages lex, strings, api and of the statements' own package answer when they are called: by contracts over the plain functions of the text LexPlain. Conditions: as each theorem says. -/
import Derived.Test.YtfginegegaokbaaGreatDoorRows
import Derived.Test.YtfginegegaokbaaGreatDoorLxPlain
import Derived.WalkKit
import Derived.ProofKit
import Derived.OpenShut
import Derived.Lib.Strings
import Derived.Lib.Bytealg
import Derived.Lib.BufferWrite
import Derived.Lib.UnsafeStr
import Derived.Laws.MakeOwn
namespace Go.Proofs.YtfginegegaokbaaGreatDoor.Lx
open Go.ChangeShapes Go.WideShapes Go.ChangeAt Go.RowKit

theorem ret_int {k : IntKind} {a b : Int} (h : a = b) : Ending.returned (.int k a) = .returned (.int k b) := by rw [h]
theorem ret_bool {a b : Bool} (h : a = b) : Ending.returned (.bool a) = .returned (.bool b) := by rw [h]





theorem lexBlank (c : Int) (w : World) : Calls Tryz.prog 60 #[.int .u8 c] w fun e w' => e = .returned (.bool (blankB c)) ∧ w' = w := by
  go_enter Tryz.func60, Tryz.ntmps60
  go_wp2
  all_goals go_ret
  all_goals refine ⟨ret_bool ?_, rfl⟩
  all_goals (unfold blankB; rw [Bool.eq_iff_iff]; simp; try omega)

theorem lexLetter (c : Int) (w : World) : Calls Tryz.prog 61 #[.int .u8 c] w fun e w' => e = .returned (.bool (letterB c)) ∧ w' = w := by
  go_enter Tryz.func61, Tryz.ntmps61
  go_wp2
  all_goals go_ret
  all_goals refine ⟨ret_bool ?_, rfl⟩
  all_goals (unfold letterB; rw [Bool.eq_iff_iff]; simp; try omega)

theorem lexDigit (c : Int) (w : World) : Calls Tryz.prog 65 #[.int .u8 c] w fun e w' => e = .returned (.bool (digitB c)) ∧ w' = w := by
  go_enter Tryz.func65, Tryz.ntmps65
  go_wp2
  all_goals go_ret
  all_goals refine ⟨ret_bool ?_, rfl⟩
  all_goals (unfold digitB; rw [Bool.eq_iff_iff]; simp; try omega)

theorem lexWord (c : Int) (w : World) : Calls Tryz.prog 63 #[.int .u8 c] w fun e w' => e = .returned (.bool (wordB c)) ∧ w' = w := by
  cases hl : letterB c
  all_goals
    go_enter Tryz.func63, Tryz.ntmps63
    go_wp2_with (first | (go_at_call 61; refine (lexLetter _ _).mono ?_; rintro e w' ⟨rfl, rfl⟩) | (go_at_call 65; refine (lexDigit _ _).mono ?_; rintro e w' ⟨rfl, rfl⟩))
    go_ret
    exact ⟨ret_bool (by simp [wordB, hl]), rfl⟩

theorem runWord (s : ByteArray) (k0 : Nat) (w : World) (hs : s.size ≤ 65536) (h0 : k0 ≤ s.size) :
    Calls Tryz.prog 62 #[.string s, .int .i64 k0, .func (.func 63) #[] #[]] w fun e w' => e = .returned (.int .i64 ((k0 + lead wordB ((bys s).drop k0) : Nat) : Int)) ∧ w' = w := by
  go_enter Tryz.func62, Tryz.ntmps62
  go_wp2
  go_loop [1] (fun i => ∃ k : Nat, k ≤ s.size ∧ i = .int .i64 k ∧ Hid (k + lead wordB ((bys s).drop k) = k0 + lead wordB ((bys s).drop k0))) (fun i => s.size - (intOf i).toNat)
  case atStart => exact ⟨k0, h0, rfl, rfl⟩
  case round =>
    obtain ⟨k, hk, rfl, hh⟩ := hrel
    by_cases hlt : k < s.size
    · have hd := drop_cons s k hlt
      cases hc : wordB (num s[k])
      · have H : Hid (k = k0 + lead wordB ((bys s).drop k0)) := by rw [← hh.out, hd, lead_no hc]; rfl
        clear hd hh
        unfold num at hc
        go_wp2_with (go_at_call 63; refine (lexWord _ _).mono ?_; rintro e w' ⟨rfl, rfl⟩)
        go_ret
        exact ⟨ret_int (by have := H.out; omega), rfl⟩
      · have H : Hid (k + 1 + lead wordB ((bys s).drop (k + 1)) = k0 + lead wordB ((bys s).drop k0)) := by rw [← hh.out, hd, lead_yes hc]; show _ = _; omega
        clear hd hh
        unfold num at hc
        go_wp2_with (go_at_call 63; refine (lexWord _ _).mono ?_; rintro e w' ⟨rfl, rfl⟩)
        go_round
        case rel => exact ⟨k + 1, by omega, by go_num, H⟩
        case measure => simp [intOf]; omega
    · have H : Hid (k = k0 + lead wordB ((bys s).drop k0)) := by rw [← hh.out, drop_all s k hlt]; rfl
      clear hh
      go_wp2
      go_ret
      exact ⟨ret_int (by have := H.out; omega), rfl⟩

theorem runDigit (s : ByteArray) (k0 : Nat) (w : World) (hs : s.size ≤ 65536) (h0 : k0 ≤ s.size) :
    Calls Tryz.prog 62 #[.string s, .int .i64 k0, .func (.func 65) #[] #[]] w fun e w' => e = .returned (.int .i64 ((k0 + lead digitB ((bys s).drop k0) : Nat) : Int)) ∧ w' = w := by
  go_enter Tryz.func62, Tryz.ntmps62
  go_wp2
  go_loop [1] (fun i => ∃ k : Nat, k ≤ s.size ∧ i = .int .i64 k ∧ Hid (k + lead digitB ((bys s).drop k) = k0 + lead digitB ((bys s).drop k0))) (fun i => s.size - (intOf i).toNat)
  case atStart => exact ⟨k0, h0, rfl, rfl⟩
  case round =>
    obtain ⟨k, hk, rfl, hh⟩ := hrel
    by_cases hlt : k < s.size
    · have hd := drop_cons s k hlt
      cases hc : digitB (num s[k])
      · have H : Hid (k = k0 + lead digitB ((bys s).drop k0)) := by rw [← hh.out, hd, lead_no hc]; rfl
        clear hd hh
        unfold num at hc
        go_wp2_with (go_at_call 65; refine (lexDigit _ _).mono ?_; rintro e w' ⟨rfl, rfl⟩)
        go_ret
        exact ⟨ret_int (by have := H.out; omega), rfl⟩
      · have H : Hid (k + 1 + lead digitB ((bys s).drop (k + 1)) = k0 + lead digitB ((bys s).drop k0)) := by rw [← hh.out, hd, lead_yes hc]; show _ = _; omega
        clear hd hh
        unfold num at hc
        go_wp2_with (go_at_call 65; refine (lexDigit _ _).mono ?_; rintro e w' ⟨rfl, rfl⟩)
        go_round
        case rel => exact ⟨k + 1, by omega, by go_num, H⟩
        case measure => simp [intOf]; omega
    · have H : Hid (k = k0 + lead digitB ((bys s).drop k0)) := by rw [← hh.out, drop_all s k hlt]; rfl
      clear hh
      go_wp2
      go_ret
      exact ⟨ret_int (by have := H.out; omega), rfl⟩

theorem blanks_hash {r : Bool} {c : UInt8} {l : List UInt8} (h : num c = 35) : blanks r (c :: l) = blanks true l + 1 := by simp [blanks, h]
theorem blanks_line {r : Bool} {c : UInt8} {l : List UInt8} (h2 : num c = 10) : blanks r (c :: l) = blanks false l + 1 := by simp [blanks, h2]
theorem blanks_more {r : Bool} {c : UInt8} {l : List UInt8} (h : ¬ num c = 35) (h2 : ¬ num c = 10) (h3 : (r || blankB (num c)) = true) : blanks r (c :: l) = blanks r l + 1 := by simp only [blanks, if_neg h, if_neg h2, h3, if_true]
theorem blanks_stop {r : Bool} {c : UInt8} {l : List UInt8} (h : ¬ num c = 35) (h2 : ¬ num c = 10) (h3 : (r || blankB (num c)) = false) : blanks r (c :: l) = 0 := by simp [blanks, h, h2, h3]

theorem lexSkip (s : ByteArray) (k0 : Nat) (w : World) (hs : s.size ≤ 65536) (h0 : k0 ≤ s.size) :
    Calls Tryz.prog 38 #[.string s, .int .i64 k0] w fun e w' => e = .returned (.int .i64 ((k0 + blanks false ((bys s).drop k0) : Nat) : Int)) ∧ w' = w := by
  go_enter Tryz.func38, Tryz.ntmps38
  go_wp2
  go_loop [1, 5] (fun i v => ∃ (k : Nat) (r : Bool), k ≤ s.size ∧ i = .int .i64 k ∧ v = .bool r ∧ Hid (k + blanks r ((bys s).drop k) = k0 + blanks false ((bys s).drop k0))) (fun i _ => s.size - (intOf i).toNat)
  case atStart => exact ⟨k0, false, h0, rfl, rfl, rfl⟩
  case round =>
    obtain ⟨k, r, hk, rfl, rfl, hh⟩ := hrel
    by_cases hlt : k < s.size
    · have hd := drop_cons s k hlt
      by_cases h35 : num s[k] = 35
      · have H : Hid (k + 1 + blanks true ((bys s).drop (k + 1)) = k0 + blanks false ((bys s).drop k0)) := by rw [← hh.out, hd, blanks_hash h35]; show _ = _; omega
        clear hd hh
        unfold num at h35
        go_wp2
        go_round
        case rel => exact ⟨k + 1, true, by omega, by go_num, rfl, H⟩
        case measure => simp [intOf]; omega
      · by_cases h10 : num s[k] = 10
        · have H : Hid (k + 1 + blanks false ((bys s).drop (k + 1)) = k0 + blanks false ((bys s).drop k0)) := by rw [← hh.out, hd, blanks_line h10]; show _ = _; omega
          clear hd hh
          unfold num at h35 h10
          go_wp2
          go_round
          case rel => exact ⟨k + 1, false, by omega, by go_num, rfl, H⟩
          case measure => simp [intOf]; omega
        · cases hb : blankB (num s[k])
          · cases r
            · have H : Hid (k = k0 + blanks false ((bys s).drop k0)) := by rw [← hh.out, hd, blanks_stop h35 h10 (by simp [hb])]; rfl
              clear hd hh
              unfold num at h35 h10 hb
              go_wp2_with (go_at_call 60; refine (lexBlank _ _).mono ?_; rintro e w' ⟨rfl, rfl⟩)
              go_ret
              exact ⟨ret_int (by have := H.out; omega), rfl⟩
            · have H : Hid (k + 1 + blanks true ((bys s).drop (k + 1)) = k0 + blanks false ((bys s).drop k0)) := by rw [← hh.out, hd, blanks_more h35 h10 (by simp)]; show _ = _; omega
              clear hd hh
              unfold num at h35 h10 hb
              go_wp2_with (go_at_call 60; refine (lexBlank _ _).mono ?_; rintro e w' ⟨rfl, rfl⟩)
              go_round
              case rel => exact ⟨k + 1, true, by omega, by go_num, rfl, H⟩
              case measure => simp [intOf]; omega
          · have H : Hid (k + 1 + blanks r ((bys s).drop (k + 1)) = k0 + blanks false ((bys s).drop k0)) := by rw [← hh.out, hd, blanks_more h35 h10 (by simp [hb])]; show _ = _; omega
            clear hd hh
            unfold num at h35 h10 hb
            cases r
            all_goals
              go_wp2_with (go_at_call 60; refine (lexBlank _ _).mono ?_; rintro e w' ⟨rfl, rfl⟩)
              go_round
              case rel => exact ⟨k + 1, _, by omega, by go_num, rfl, H⟩
              case measure => simp [intOf]; omega
    · have H : Hid (k = k0 + blanks false ((bys s).drop k0)) := by rw [← hh.out, drop_all s k hlt]; rfl
      clear hh
      go_wp2
      go_ret
      exact ⟨ret_int (by have := H.out; omega), rfl⟩

theorem wrap_any (ev : Value) (k : Int) (w : World) :
    Calls Tryz.prog 36 #[.iface 38 ev, .int .i64 k] w fun e w' => e = .returned (.iface 96 (.pointer (some ⟨w.heap.size, 0, none⟩))) ∧ w' = w.alloc (.cells #[.int .i64 k, .iface 38 ev] 100) := by
  go_enter Tryz.func36, Tryz.ntmps36
  go_wp2
  go_ret
  exact ⟨rfl, rfl⟩
end Go.Proofs.YtfginegegaokbaaGreatDoor.Lx
