/- What the statements' own value answers at digits: their number, or that it is too great. Conditions: every byte is a digit. -/
import Derived.Test.YtjnfjfihdachiaaGreatDoorLexNext
namespace Go.Proofs.YtjnfjfihdachiaaGreatDoor
open Go.ChangeShapes Go.WideShapes Go.ChangeAt Go.RowKit
set_option linter.unusedVariables false

def valueTuple : Option Nat → Value
  | some n => .tuple #[.int .u64 n, .bool true]
  | none => .tuple #[.int .u64 0, .bool false]

set_option maxHeartbeats 8000000 in
set_option maxRecDepth 100000 in
theorem value_any (t : ByteArray) (hmax : t.size ≤ 65536) (hdig : ∀ c ∈ bys t, digitB (num c) = true) (w : World) :
    Calls Tryz.prog 25 #[.string t] w fun e w' => e = .returned (valueTuple (numFrom 0 (bys t))) ∧ w' = w := by
  go_enter Tryz.func25, Tryz.ntmps25
  go_wp2
  go_loop [4, 5] (fun vn vi => ∃ (k acc : Nat) (a : Int), vn = .int .u64 a ∧ vi = .int .i64 k ∧ k ≤ t.size ∧ Hid (a = (acc : Int) ∧ acc < 18446744073709551616 ∧ numFrom 0 (bys t) = numFrom acc ((bys t).drop k)))
    (fun _ vi => t.size - (intOf vi).toNat)
  case atStart => exact ⟨0, 0, 0, rfl, rfl, by omega, rfl, by omega, rfl⟩
  case round =>
    obtain ⟨k, acc, a, rfl, rfl, hk, hh⟩ := hrel
    obtain ⟨ha, hacc, hdec⟩ := hh.out
    clear hh
    have a0 : 0 ≤ a := by omega
    have a1 : a < 18446744073709551616 := by omega
    by_cases hkn : k < t.size
    · have hd := drop_cons t k hkn
      rw [hd] at hdec
      have hdg := digit_is (hdig t[k] (by
        have : t[k] ∈ (bys t).drop k := by rw [hd]; simp
        exact List.mem_of_mem_drop this))
      unfold num at hdg
      obtain ⟨hd0, hd1⟩ := hdg
      have hx0 : 48 ≤ t[k].toNat := by omega
      have hx1 : t[k].toNat ≤ 57 := by omega
      have hwb : IntKind.u8.wrap ((t[k].toNat : Int) - 48) = (t[k].toNat : Int) - 48 := by rw [IntKind.wrap_u8]; omega
      clear hd hdig
      by_cases hov : acc * 10 + (t[k].toNat - 48) < 18446744073709551616
      · have hF := num_step (r := (bys t).drop (k + 1)) hov
        have HN : Hid (a * 10 + ((t[k].toNat : Int) - 48) = ((acc * 10 + (t[k].toNat - 48) : Nat) : Int) ∧ acc * 10 + (t[k].toNat - 48) < 18446744073709551616 ∧ numFrom 0 (bys t) = numFrom (acc * 10 + (t[k].toNat - 48)) ((bys t).drop (k + 1))) := show _ from ⟨by omega, by omega, hdec.trans hF⟩
        have iov : a * 10 + ((t[k].toNat : Int) - 48) < 18446744073709551616 := by omega
        by_cases he : a = 1844674407370955161
        · have hd5 : (t[k].toNat : Int) - 48 ≤ 5 := by omega
          clear hacc hF hov hdec ha
          subst he
          go_wp2
          go_round
          case rel => exact ⟨k + 1, acc * 10 + (t[k].toNat - 48), _, rfl, by go_num, by omega, HN⟩
          case measure => simp [intOf]; omega
        · have hlt : a < 1844674407370955161 := by omega
          clear hacc hF hov hdec ha
          go_wp2
          go_round
          case rel => exact ⟨k + 1, acc * 10 + (t[k].toNat - 48), _, rfl, by go_num, by omega, HN⟩
          case measure => simp [intOf]; omega
      · have hF := num_over (r := (bys t).drop (k + 1)) hov
        rw [hF] at hdec
        have HD : Hid (numFrom 0 (bys t) = none) := hdec
        by_cases he : a = 1844674407370955161
        · have hd5 : 5 < (t[k].toNat : Int) - 48 := by omega
          clear hacc hF hov hdec ha
          subst he
          go_wp2
          go_ret2
          exact ⟨by rw [HD.out]; rfl, rfl⟩
        · have hlt : 1844674407370955161 < a := by omega
          clear hacc hF hov hdec ha
          go_wp2
          go_ret2
          exact ⟨by rw [HD.out]; rfl, rfl⟩
    · have hF : numFrom acc ((bys t).drop k) = some acc := by rw [drop_all t k hkn]; rfl
      rw [hF] at hdec
      have HD : Hid (numFrom 0 (bys t) = some acc) := hdec
      subst ha
      clear hacc hF a0 a1 hdec hdig
      go_wp2
      go_ret2
      exact ⟨by rw [HD.out]; rfl, rfl⟩
end Go.Proofs.YtjnfjfihdachiaaGreatDoor
