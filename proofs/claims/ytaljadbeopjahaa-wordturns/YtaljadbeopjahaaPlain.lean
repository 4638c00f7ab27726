/- Plain facts on 64-bit words that the program's bit tricks rest on, over integers from 0 to 2^64 - 1. Conditions: each word is in that range. -/
import Derived.Laws.BitsAllLaws
namespace Go.Proofs.Ytaljadbeopjahaa

def someI (a : Int) : Int := if a = 0 then 0 else 1
def lessI (a b : Int) : Int := if a < b then 1 else 0
def sameI (a b : Int) : Int := if a = b then 1 else 0
def pickI (c a b : Int) : Int := if c = 0 then b else a
def tightI (o : Int) : Int :=
  if o = 2 then 7 else if o = 0 ∨ o = 1 then 6 else if o = 6 ∨ o = 7 then 5 else if o = 3 then 4
  else if o = 8 ∨ o = 9 then 3 else if o = 5 then 2 else if o = 4 then 1 else 0
def turnsB (o : Int) : Bool := decide (o = 0 ∨ o = 2 ∨ o = 3 ∨ o = 4 ∨ o = 5 ∨ o = 8)
def applyI (o a b : Int) : Int :=
  if o = 0 then IntKind.u64.wrap (a + b) else if o = 1 then IntKind.u64.wrap (a - b) else if o = 2 then IntKind.u64.wrap (a * b)
  else if o = 3 then bits .and .u64 a b else if o = 4 then bits .or .u64 a b else if o = 5 then bits .xor .u64 a b
  else if o = 6 then IntKind.u64.wrap (a * 2 ^ (b % 64).toNat) else if o = 7 then a / 2 ^ (b % 64).toNat
  else if o = 8 then sameI a b else if o = 9 then lessI a b else 0

theorem some_eq (a : Int) (h0 : 0 ≤ a) (h1 : a < 18446744073709551616) :
    bits .or .u64 a (IntKind.u64.wrap (-a)) / 9223372036854775808 = someI a := by
  unfold someI
  by_cases h : a = 0
  · subst h; decide
  · rw [if_neg h, IntKind.wrap_u64]
    have e : (-a) % 18446744073709551616 = 18446744073709551616 - a := by omega
    rw [e, u64_or a _ h0 h1 (by omega) (by omega)]
    have l1 : a.toNat ≤ a.toNat ||| (18446744073709551616 - a).toNat := Nat.left_le_or
    have l2 : (18446744073709551616 - a).toNat ≤ a.toNat ||| (18446744073709551616 - a).toNat := Nat.right_le_or
    have l3 : a.toNat ||| (18446744073709551616 - a).toNat < 2 ^ 64 := Nat.or_lt_two_pow (by omega) (by omega)
    omega

theorem some_range (a : Int) : 0 ≤ someI a ∧ someI a ≤ 1 := by unfold someI; split <;> omega

theorem xor_bounds (a b : Int) (h0 : 0 ≤ a) (h1 : a < 18446744073709551616) (h2 : 0 ≤ b) (h3 : b < 18446744073709551616) :
    0 ≤ bits .xor .u64 a b ∧ bits .xor .u64 a b < 18446744073709551616 := by
  rw [u64_xor a b h0 h1 h2 h3]
  have : a.toNat ^^^ b.toNat < 2 ^ 64 := Nat.xor_lt_two_pow (by omega) (by omega)
  omega

theorem same_eq (a b : Int) (h0 : 0 ≤ a) (h1 : a < 18446744073709551616) (h2 : 0 ≤ b) (h3 : b < 18446744073709551616) :
    IntKind.u64.wrap (1 - someI (bits .xor .u64 a b)) = sameI a b := by
  unfold sameI someI
  by_cases h : a = b
  · subst h
    rw [u64_xor a a h0 h1 h0 h1, Nat.xor_self, if_pos rfl]; decide
  · have hx : bits .xor .u64 a b ≠ 0 := by
      rw [u64_xor a b h0 h1 h2 h3]
      intro e
      have e' : a.toNat ^^^ b.toNat = 0 := by omega
      have e2 : (a.toNat ^^^ b.toNat) ^^^ b.toNat = 0 ^^^ b.toNat := by rw [e']
      rw [Nat.xor_assoc, Nat.xor_self, Nat.xor_zero, Nat.zero_xor] at e2
      omega
    rw [if_neg hx, if_neg h]; decide

theorem pick_eq (c a b : Int) (h0 : 0 ≤ a) (h1 : a < 18446744073709551616) (h2 : 0 ≤ b) (h3 : b < 18446744073709551616) :
    bits .or .u64 (bits .and .u64 a (IntKind.u64.wrap (-someI c))) (bits .andNot .u64 b (IntKind.u64.wrap (-someI c))) = pickI c a b := by
  unfold pickI someI
  by_cases h : c = 0
  · rw [if_pos h, if_pos h]
    have e : IntKind.u64.wrap (-0) = 0 := by decide
    rw [e, u64_and a 0 h0 h1 (by omega) (by omega), u64_andNot b 0 h2 h3 (by omega) (by omega)]
    have e1 : a.toNat &&& (0 : Int).toNat = 0 := by simp
    have e2 : b.toNat &&& (18446744073709551615 - (0 : Int).toNat) = b.toNat := by
      show b.toNat &&& (2 ^ 64 - 1) = b.toNat
      rw [Nat.and_two_pow_sub_one_eq_mod]; omega
    rw [e1, e2, u64_or _ _ (by omega) (by omega) (by omega) (by omega)]
    simp; omega
  · rw [if_neg h, if_neg h]
    have e : IntKind.u64.wrap (-1) = 18446744073709551615 := by decide
    rw [e, u64_and a _ h0 h1 (by omega) (by omega), u64_andNot b _ h2 h3 (by omega) (by omega)]
    have e1 : a.toNat &&& (18446744073709551615 : Int).toNat = a.toNat := by
      show a.toNat &&& (2 ^ 64 - 1) = a.toNat
      rw [Nat.and_two_pow_sub_one_eq_mod]; omega
    have e2 : b.toNat &&& (18446744073709551615 - (18446744073709551615 : Int).toNat) = 0 := by
      show b.toNat &&& 0 = 0
      simp
    rw [e1, e2, u64_or _ _ (by omega) (by omega) (by omega) (by omega)]
    simp; omega
end Go.Proofs.Ytaljadbeopjahaa
