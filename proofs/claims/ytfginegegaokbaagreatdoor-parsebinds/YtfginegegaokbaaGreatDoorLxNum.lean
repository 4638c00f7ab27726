/- What strconv.ParseUint answers at digits, base 10, 64 bits: their number, or an error, if it is no word. Conditions: every byte is a digit, there is one; the variable strconv.ErrRange holds an error. -/
import Derived.Test.YtfginegegaokbaaGreatDoorLxStr
import Derived.Lib.ConvBytes
import Derived.Lib.IfaceEq
import Derived.Laws.Strings3
import Derived.BigCall
import Derived.BigGuard
import Derived.Deep.RegionWith
namespace Go.Proofs.YtfginegegaokbaaGreatDoor.Lx
open Go.ChangeShapes Go.WideShapes Go.ChangeAt Go.RowKit

/-- What the inner ParseUint answers. -/
def uintTuple : Option Nat → Value
  | some n => .tuple #[.int .u64 n, .nilIface]
  | none => .tuple #[.int .u64 18446744073709551615, .iface 206 (.int .i64 1)]

theorem num_over {acc : Nat} {c : UInt8} {r : List UInt8} (h : ¬ acc * 10 + (c.toNat - 48) < 18446744073709551616) : numFrom acc (c :: r) = none := by simp only [numFrom, if_neg h]
theorem num_step {acc : Nat} {c : UInt8} {r : List UInt8} (h : acc * 10 + (c.toNat - 48) < 18446744073709551616) : numFrom acc (c :: r) = numFrom (acc * 10 + (c.toNat - 48)) r := by simp only [numFrom, if_pos h]

set_option maxHeartbeats 32000000 in
set_option maxRecDepth 100000 in
theorem parseIn (t : ByteArray) (hne : t.size ≠ 0) (hmax : t.size ≤ 65536) (hdig : ∀ c ∈ bys t, digitB (num c) = true) (w : World) :
    Calls Tryz.prog 106 #[.string t, .int .i64 10, .int .i64 64] w fun e w' => e = .returned (uintTuple (numFrom 0 (bys t))) ∧ w' = Lib.bytesWorld w 5 t := by
  have hemp : t.toList.isEmpty = false := by
    rw [← decide_eq_emptyBytes]
    exact decide_eq_false (fun h => hne (by rw [h]; rfl))
  have hcv := Lib.run_convert_string_bytes (P := Tryz.prog) w 9 22 5 t (u := .string) Tryz.underlying9 Tryz.underlying22 Tryz.underlying5
  have hB : ∀ j, j < t.size → (Lib.bytesWorld w 5 t).cell? ⟨w.heap.size, j, none⟩ = some (.int .u8 (t.data.toList.getD j 0).toNat) := fun j hj => Lib.bytesWorld_cell w 5 t j hj
  obtain ⟨W1, hW1⟩ : ∃ W1, W1 = Lib.bytesWorld w 5 t := ⟨_, rfl⟩
  rw [← hW1] at hcv hB ⊢
  clear hW1
  obtain ⟨bs, hL⟩ : ∃ bs, bs = bys t := ⟨_, rfl⟩
  have hLn : bs.length = t.size := by rw [hL, bys_length]
  rw [← hL] at hdig
  have hB' : ∀ j, j < t.size → W1.cell? ⟨w.heap.size, j, none⟩ = some (.int .u8 (bs.getD j 0).toNat) := by rw [hL]; exact hB
  rw [← hL]
  clear hL hB
  have hmv : IntKind.u64.wrap (IntKind.u64.wrap 18446744073709551616 - 1) = 18446744073709551615 := by
    rw [IntKind.wrap_u64, IntKind.wrap_u64]
    decide
  go_enter Tryz.func106, Tryz.ntmps106
  go_wp2
  go_loop [12, 13, 101] (fun vu vn vi => ∃ (k acc : Nat) (a : Int), vu = .bool false ∧ vn = .int .u64 a ∧ vi = .int .i64 k ∧ k ≤ t.size ∧ Hid (a = (acc : Int) ∧ acc < 18446744073709551616 ∧ numFrom 0 bs = numFrom acc (bs.drop k)))
    (fun _ _ vi => t.size - (intOf vi).toNat)
  case atStart => exact ⟨0, 0, 0, rfl, rfl, rfl, by omega, rfl, by omega, rfl⟩
  case round =>
    obtain ⟨k, acc, a, rfl, rfl, rfl, hk, hh⟩ := hrel
    obtain ⟨ha, hacc, hdec⟩ := hh.out
    clear hh
    have a0 : 0 ≤ a := by omega
    have a1 : a < 18446744073709551616 := by omega
    by_cases hkn : k < t.size
    · have hc := hB' k hkn
      have hdrop : bs.drop k = bs[k]'(by omega) :: bs.drop (k + 1) := List.drop_eq_getElem_cons (by omega)
      have hget : bs.getD k 0 = bs[k]'(by omega) := by simp [List.getD, List.getElem?_eq_getElem (show k < bs.length by omega)]
      have hd := digit_is (hdig (bs[k]'(by omega)) (List.getElem_mem _))
      rw [hdrop] at hdec
      rw [hget] at hc
      unfold num at hd
      generalize bs[k]'(by omega) = c at hc hdec hd
      have hc256 : c.toNat < 256 := c.toNat_lt
      clear hB' hdrop hget hdig
      obtain ⟨hd0', hd1'⟩ := hd
      have hd0 : 48 ≤ c.toNat := by omega
      have hd1 : c.toNat ≤ 57 := by omega
      clear hd0' hd1'
      by_cases hcut : 1844674407370955162 ≤ acc
      · have hF : numFrom acc (c :: bs.drop (k + 1)) = none := num_over (by omega)
        rw [hF] at hdec
        have icut : 1844674407370955162 ≤ a := by omega
        have HD : Hid (numFrom 0 bs = none) := hdec
        clear hcut hacc hF ha hdec
        go_wp2
        go_ret2
        exact ⟨by rw [HD.out]; rfl, rfl⟩
      · by_cases hov : acc * 10 + (c.toNat - 48) < 18446744073709551616
        · have hF := num_step (r := bs.drop (k + 1)) hov
          have HN : Hid (a * 10 + ((c.toNat : Int) - 48) = ((acc * 10 + (c.toNat - 48) : Nat) : Int) ∧ acc * 10 + (c.toNat - 48) < 18446744073709551616 ∧ numFrom 0 bs = numFrom (acc * 10 + (c.toNat - 48)) (bs.drop (k + 1))) := show _ from ⟨by omega, by omega, hdec.trans hF⟩
          have icut : a < 1844674407370955162 := by omega
          have iov : a * 10 + ((c.toNat : Int) - 48) < 18446744073709551616 := by omega
          clear hcut hacc hF hov hdec ha
          go_wp2
          refine ⟨⟨k + 1, acc * 10 + (c.toNat - 48), a * 10 + ((c.toNat : Int) - 48), rfl, (by first | rfl | (congr 1; omega)), (by first | rfl | (congr 1; omega)), by omega, HN⟩, by simp [intOf]; omega⟩
        · have hF := num_over (r := bs.drop (k + 1)) hov
          rw [hF] at hdec
          have icut : a < 1844674407370955162 := by omega
          have iov : 18446744073709551616 ≤ a * 10 + ((c.toNat : Int) - 48) := by omega
          have hwr : IntKind.u64.wrap (a * 10 + ((c.toNat : Int) - 48)) = a * 10 + ((c.toNat : Int) - 48) - 18446744073709551616 := by
            rw [IntKind.wrap_u64]
            omega
          have HD : Hid (numFrom 0 bs = none) := hdec
          clear hcut hacc hF hov ha hdec
          go_wp2
          go_ret2
          exact ⟨by rw [HD.out]; rfl, rfl⟩
    · have hkk : k = t.size := by omega
      subst hkk
      have hF : numFrom acc (bs.drop t.size) = some acc := by rw [List.drop_eq_nil_of_le (by omega)]; rfl
      rw [hF] at hdec
      have HD : Hid (numFrom 0 bs = some acc) := hdec
      subst ha
      clear hacc hF a0 a1 hdec hB' hdig
      go_wp2
      go_ret2
      exact ⟨by rw [HD.out]; rfl, rfl⟩
end Go.Proofs.YtfginegegaokbaaGreatDoor.Lx
