/- What the statements' own number and digits answer: the decimal digits. Conditions: none. -/
import Derived.Test.YtjiecfagblijhaaDoorCdTextP
import Derived.Test.YtjiecfagblijhaaDoorCdRep
import Derived.Laws.Runes
import Derived.Deep.CutRange
namespace Go.Proofs.YtjiecfagblijhaaDoor.Cd
open Go.ChangeShapes Go.WideShapes Go.ChangeAt Go.RowKit
set_option linter.unusedVariables false
set_option linter.unusedSimpArgs false

def restD (m : Nat) : List UInt8 := if m = 0 then [] else Lib.decDigits m
theorem dec_rest (m : Nat) : Lib.decDigits m = restD (m / 10) ++ [UInt8.ofNat (48 + m % 10)] := by
  rw [Lib.decDigits]
  split
  · rename_i h
    rw [show m / 10 = 0 by omega, show m % 10 = m by omega]; rfl
  · rename_i h
    rw [restD, if_neg (by omega)]
def DInv (u m : Nat) (l : List UInt8) : Prop := (l = [] ∧ m = u) ∨ (l ≠ [] ∧ Lib.decDigits u = restD m ++ l)
theorem DInv.next {u m : Nat} {l : List UInt8} (h : DInv u m l) (hm : l = [] ∨ m ≠ 0) : DInv u (m / 10) (UInt8.ofNat (48 + m % 10) :: l) := by
  refine .inr ⟨by simp, ?_⟩
  rcases h with ⟨rfl, rfl⟩ | ⟨h1, h2⟩
  · exact dec_rest _
  · have hm' : m ≠ 0 := by rcases hm with h | h; exact absurd h h1; exact h
    rw [h2, restD, if_neg hm', dec_rest m, List.append_assoc]; rfl
theorem DInv.done {u m : Nat} {l : List UInt8} (h : DInv u m l) (hl : l ≠ []) (hm : m = 0) : l = Lib.decDigits u := by
  rcases h with ⟨h1, _⟩ | ⟨_, h2⟩
  · exact absurd h1 hl
  · rw [h2, hm]; rfl
theorem DInv.len {u m : Nat} {l : List UInt8} (h : DInv u m l) (hu : u < 18446744073709551616) : l.length ≤ 20 := by
  rcases h with ⟨rfl, _⟩ | ⟨_, h2⟩
  · simp
  · have h3 : (Lib.decDigits u).length ≤ 20 := by rw [Lib.decDigits_length]; exact Lib.nDigits_le20 u hu
    rw [h2, List.length_append] at h3; omega
theorem DInv.le {u m : Nat} {l : List UInt8} (h : DInv u m l) (hu : u < 18446744073709551616) (hm : m < 18446744073709551616) : True := trivial
theorem enc_dig (m : Nat) : Utf8.encode (48 + (m : Int) % 10) = bstr [UInt8.ofNat (48 + m % 10)] := by
  have h : (48 + (m : Int) % 10) = ((48 + m % 10 : Nat) : Int) := by omega
  rw [h]
  have : m % 10 = 0 ∨ m % 10 = 1 ∨ m % 10 = 2 ∨ m % 10 = 3 ∨ m % 10 = 4 ∨ m % 10 = 5 ∨ m % 10 = 6 ∨ m % 10 = 7 ∨ m % 10 = 8 ∨ m % 10 = 9 := by omega
  rcases this with e | e | e | e | e | e | e | e | e | e <;> rw [e] <;> decide +kernel
theorem toList_bstr (l : List UInt8) : (bstr l).toList = l := by
  rw [Lib.toList_data]
  rfl
theorem bstr_isE {l : List UInt8} (h : l = []) : (bstr l).toList.isEmpty = true := by rw [toList_bstr, h]; rfl
theorem bstr_noE {l : List UInt8} (h : l ≠ []) : (bstr l).toList.isEmpty = false := by
  rw [toList_bstr]
  cases l with
  | nil => exact absurd rfl h
  | cons a r => rfl
theorem bstr_put (c : UInt8) (l : List UInt8) : bstr [c] ++ bstr l = bstr (c :: l) := by
  apply ByteArray.ext
  rw [ByteArray.data_append]
  show #[c] ++ l.toArray = (c :: l).toArray
  simp
theorem conv_str {P : Program} {o : Oper} {a : Act} {w : World} {K : Act → World → Prop} {Q : Exit → Act → World → Prop} (src dst : TypeId) (x : Operand) (n : Int) (s : ByteArray) (ho : o.op = .convert src dst x) (hx : a.eval x = .int .i32 n)
    (hs : (P.underlying src).isSome = true) (hd : P.underlying dst = some .string) (he : Utf8.encode n = s) (hk : K (a.put o.dst (.string s)) w) : o.wp P a w K Q := by
  have h := run_convert_int_string (P := P) w src dst .i32 n hs hd
  rw [he] at h
  unfold Oper.wp
  have h2 : (execOp a.eval o).run P w = .ok (.value (.string s)) w := by
    unfold execOp
    rw [ho]
    simp [hx, h]
  rw [h2]
  exact hk
set_option maxHeartbeats 1000000 in
set_option maxRecDepth 100000 in
theorem digits_any (u : Nat) (hu : u < 18446744073709551616) (w : World) : Calls Tryd.prog 21 #[.int .u64 u] w fun e w' => e = .returned (.string (bstr (Lib.decDigits u))) ∧ w' = w := by
  go_enter Tryd.func21, Tryd.ntmps21
  go_wp2_with fail
  go_loopg [0, 3] (2 * u + 1) (fun q n s wx => wx = w ∧ ∃ (m : Nat) (l : List UInt8), q = 2 * m + (if l = [] then 1 else 0) ∧ m < 18446744073709551616 ∧ n = .int .u64 m ∧ s = .string (bstr l) ∧ DInv u m l)
  case atStart => exact ⟨rfl, u, [], rfl, hu, rfl, rfl, .inl ⟨rfl, rfl⟩⟩
  case round =>
    obtain ⟨rfl, m, l, hq, hm, rfl, rfl, hI⟩ := hrel
    have hlen := hI.len hu
    have hE := enc_dig m
    obtain ⟨c, hc⟩ : ∃ c, c = UInt8.ofNat (48 + m % 10) := ⟨_, rfl⟩
    rw [← hc] at hE
    have HC := Lib.hid hc
    have HI := Lib.hid hI
    have HQ := Lib.hid hq
    have HLE := Lib.hid hlen
    clear hI hc hq hlen
    have hsz : (bstr l).size ≤ 20 := HLE.out
    obtain ⟨S, hS⟩ : ∃ S, S = bstr [c] := ⟨_, rfl⟩
    have hS1 : S.size ≤ 1 := by rw [hS]; exact Nat.le_refl 1
    rw [← hS] at hE
    have HS := Lib.hid hS
    have HE := Lib.hid hE
    clear hS hE
    have hm10 : (48 + (m : Int) % 10) < 2147483648 := by omega
    have hm10' : 0 ≤ (48 + (m : Int) % 10) := by omega
    by_cases h0 : 0 < m
    · have hmz : (0 : Int) < m := by omega
      go_upto_region 3 with fail
      iterate 14 go_step
      refine conv_str _ _ _ _ _ rfl rfl ?_ ?_ HE.out ?_
      · rfl
      · rfl
      go_wp2_with fail
      go_roundg (2 * (m / 10))
      case measure => rw [HQ.out]; omega
      case rel => exact ⟨rfl, m / 10, c :: l, by simp, by omega, by rw [Int.natCast_ediv]; rfl, by rw [HS.out, bstr_put], by rw [HC.out]; exact HI.out.next (.inr (by omega))⟩
    · have hmz : ¬ (0 : Int) < m := by omega
      by_cases hl : l = []
      · have HL := Lib.hid hl
        have he : (bstr l).toList.isEmpty = true := bstr_isE hl
        clear hl
        go_upto_region 3 with fail
        iterate 14 go_step
        refine conv_str _ _ _ _ _ rfl rfl ?_ ?_ HE.out ?_
        · rfl
        · rfl
        go_wp2_with fail
        go_roundg (2 * (m / 10))
        case measure => rw [HQ.out, HL.out]; simp; omega
        case rel => exact ⟨rfl, m / 10, c :: l, by simp, by omega, by rw [Int.natCast_ediv]; rfl, by rw [HS.out, bstr_put], by rw [HC.out]; exact HI.out.next (.inl HL.out)⟩
      · have HL := Lib.hid hl
        have he : (bstr l).toList.isEmpty = false := bstr_noE hl
        clear hl
        go_wp2_with fail
        go_ret
        exact ⟨by rw [← HI.out.done HL.out (by omega)]; rfl, rfl⟩

theorem dec_len (u : Nat) (h : u < 18446744073709551616) : (Lib.decDigits u).length ≤ 20 := by rw [Lib.decDigits_length]; exact Lib.nDigits_le20 u h
set_option maxHeartbeats 1000000 in
set_option maxRecDepth 100000 in
theorem number_any (n : Int) (h0 : -9223372036854775808 ≤ n) (h1 : n ≤ 9223372036854775807) (w : World) : Calls Tryd.prog 19 #[.int .i64 n] w fun e w' => e = .returned (.string (bstr (Lib.itoa n))) ∧ w' = w := by
  by_cases hn : n < 0
  · obtain ⟨m, hm⟩ : ∃ m : Nat, n = -(m : Int) - 1 := ⟨(-(n + 1)).toNat, by omega⟩
    subst hm
    have PD := fun w1 => digits_any (m + 1) (by omega) w1
    rw [show (((m + 1 : Nat) : Nat) : Int) = (m : Int) + 1 by omega] at PD
    have he : Lib.itoa (-(m : Int) - 1) = 45 :: Lib.decDigits (m + 1) := by
      unfold Lib.itoa
      rw [if_pos hn, show (-(m : Int) - 1).natAbs = m + 1 by omega]
    rw [he]
    clear he
    have hl := dec_len (m + 1) (by omega)
    obtain ⟨D, hD⟩ : ∃ D, D = bstr (Lib.decDigits (m + 1)) := ⟨_, rfl⟩
    have hsz : D.size ≤ 20 := by rw [hD]; exact hl
    rw [← hD] at PD
    have HD := Lib.hid hD
    clear hD hl
    have hm1 : (m : Int) + 1 ≤ 9223372036854775808 := by omega
    have ev : -(-(m : Int) - 1 + 1) = m := by omega
    obtain ⟨nv, hnv⟩ : ∃ nv, nv = -(m : Int) - 1 := ⟨_, rfl⟩
    rw [← hnv] at hn ev ⊢
    have hnv1 : nv + 1 = -(m : Int) := by omega
    have hnv2 : -9223372036854775808 ≤ nv := by omega
    clear hnv h0 h1
    go_enter Tryd.func19, Tryd.ntmps19
    go_wp2_with (go_at_call 21; refine (PD _).mono ?_; rintro ed w2 ⟨rfl, rfl⟩)
    go_ret
    exact ⟨by rw [← bstr_put, ← HD.out]; rfl, rfl⟩
  · obtain ⟨m, rfl⟩ : ∃ m : Nat, n = m := ⟨n.toNat, by omega⟩
    have PD := fun w1 => digits_any m (by omega) w1
    have he : Lib.itoa (m : Int) = Lib.decDigits m := by
      unfold Lib.itoa
      rw [if_neg (by omega), show ((m : Int)).toNat = m by omega]
    rw [he]
    clear he
    go_enter Tryd.func19, Tryd.ntmps19
    go_wp2_with (go_at_call 21; refine (PD _).mono ?_; rintro ed w2 ⟨rfl, rfl⟩)
    go_ret
    exact ⟨rfl, rfl⟩
end Go.Proofs.YtjiecfagblijhaaDoor.Cd
