/- The law WordShift returns true on every input and leaves its arguments as they were: shifts count round at 64, and shifted there and back the high bits are gone. No conditions. -/
import Derived.Test.YtaljadbeopjahaaRows
import Derived.WalkKit
import Derived.ProofKit
import Derived.OpenShut
import Derived.Test.YtaljadbeopjahaaParts
namespace Go.Proofs.Ytaljadbeopjahaa.wordShift
open Go.ChangeShapes Go.WideShapes Go.ChangeAt Go.RowKit
set_option linter.unusedVariables false

theorem own : ownKnob Try.prog.godebug = none := by kernel_rfl

theorem shl_mod (a b : Int) : applyI 6 a (b % 64) = applyI 6 a b := by
  show IntKind.u64.wrap (a * 2 ^ (b % 64 % 64).toNat) = IntKind.u64.wrap (a * 2 ^ (b % 64).toNat)
  rw [Int.emod_emod]
theorem shr_mod (a b : Int) : applyI 7 a (b % 64) = applyI 7 a b := by
  show a / 2 ^ (b % 64 % 64).toNat = a / 2 ^ (b % 64).toNat
  rw [Int.emod_emod]
theorem range6 (a b : Int) : 0 ≤ applyI 6 a b ∧ applyI 6 a b < 18446744073709551616 := by
  show 0 ≤ IntKind.u64.wrap (a * 2 ^ (b % 64).toNat) ∧ IntKind.u64.wrap (a * 2 ^ (b % 64).toNat) < 18446744073709551616
  rw [IntKind.wrap_u64]; omega
theorem range7 (a b : Int) (h0 : 0 ≤ a) (h1 : a < 18446744073709551616) : 0 ≤ applyI 7 a b ∧ applyI 7 a b < 18446744073709551616 := by
  show 0 ≤ a / 2 ^ (b % 64).toNat ∧ a / 2 ^ (b % 64).toNat < 18446744073709551616
  have hp : (0 : Int) < 2 ^ (b % 64).toNat := Int.pow_pos (by decide)
  exact ⟨Int.ediv_nonneg h0 (by omega), Int.lt_of_le_of_lt (Int.ediv_le_self _ h0) h1⟩
theorem back_nat (x k : Nat) (hk : k < 64) : x * 2 ^ k % 18446744073709551616 / 2 ^ k = x &&& (2 ^ (64 - k) - 1) := by
  have e : 18446744073709551616 = 2 ^ (64 - k) * 2 ^ k := by
    rw [← Nat.pow_add, Nat.sub_add_cancel (by omega)]
  rw [e, Nat.mul_mod_mul_right, Nat.mul_div_cancel _ (Nat.two_pow_pos k), Nat.and_two_pow_sub_one_eq_mod]
theorem mask_int (j : Nat) (h1 : 1 ≤ j) (h2 : j ≤ 64) : ((2 : Int) ^ j % 18446744073709551616 - 1) % 18446744073709551616 = ((2 ^ j - 1 : Nat) : Int) := by
  have hp : (1 : Nat) ≤ 2 ^ j := Nat.one_le_two_pow
  have hc : ((2 : Int) ^ j) = ((2 ^ j : Nat) : Int) := by rw [Int.natCast_pow]; rfl
  rw [hc]
  by_cases h : j = 64
  · subst h; decide
  · have hle : 2 ^ j ≤ 2 ^ 63 := Nat.pow_le_pow_right (by decide) (by omega)
    have h63 : (2 : Nat) ^ 63 = 9223372036854775808 := by decide
    rw [h63] at hle
    omega
theorem there_back (a b : Int) (h0 : 0 ≤ a) (h1 : a < 18446744073709551616) :
    applyI 7 (applyI 6 a b) b = bits .and .u64 a (IntKind.u64.wrap (IntKind.u64.wrap (2 ^ (64 - b % 64).toNat) - 1)) := by
  show IntKind.u64.wrap (a * 2 ^ (b % 64).toNat) / 2 ^ (b % 64).toNat = _
  obtain ⟨x, rfl⟩ : ∃ x : Nat, a = (x : Int) := ⟨a.toNat, by omega⟩
  obtain ⟨k, hk, hk2⟩ : ∃ k : Nat, (b % 64).toNat = k ∧ k < 64 := ⟨_, rfl, by omega⟩
  have hj : (64 - b % 64).toNat = 64 - k := by omega
  rw [hk, hj, IntKind.wrap_u64, IntKind.wrap_u64, IntKind.wrap_u64, mask_int (64 - k) (by omega) (by omega)]
  have hlt : 2 ^ (64 - k) - 1 < 18446744073709551616 := by
    have hle : 2 ^ (64 - k) ≤ 2 ^ 64 := Nat.pow_le_pow_right (by decide) (by omega)
    have h64 : (2 : Nat) ^ 64 = 18446744073709551616 := by decide
    have hp : (1 : Nat) ≤ 2 ^ (64 - k) := Nat.one_le_two_pow
    rw [h64] at hle
    omega
  rw [u64_and_nat x _ (by omega) hlt, ← back_nat x k hk2]
  have hc : ((2 : Int) ^ k) = ((2 ^ k : Nat) : Int) := by rw [Int.natCast_pow]; rfl
  rw [hc]
  simp only [Int.natCast_ediv, Int.natCast_emod, Int.natCast_mul]
  rfl
theorem walk (a0 : Int) (a1 : Int) (w0 : (Lit.int .u64 a0).wf = true) (w1 : (Lit.int .u64 a1).wf = true) (w : World) :
    Calls Try.prog 8 #[.int .u64 a0, .int .u64 a1] w fun e w' => e = .returned (.bool true) ∧ Grown w w' := by
  obtain ⟨l0, l1⟩ := bounds_u64 w0
  obtain ⟨r0, r1⟩ := bounds_u64 w1
  have f1 := shl_mod a0 a1
  have f2 := shr_mod a0 a1
  have ⟨p0, p1⟩ := range6 a0 a1
  have ⟨p2, p3⟩ := range7 a0 a1 (by omega) (by omega)
  have f3 : (applyI 7 (applyI 6 a0 a1) a1 == bits .and .u64 a0 (IntKind.u64.wrap (IntKind.u64.wrap (2 ^ (64 - a1 % 64).toNat) - 1))) = true := by rw [there_back a0 a1 (by omega) (by omega)]; simp
  have f4 : (applyI 6 (applyI 7 a0 a1) a1 == IntKind.u64.wrap (a0 / 2 ^ (a1 % 64).toNat * 2 ^ (a1 % 64).toNat)) = true := beq_self_eq_true _
  go_enter Try.func8, Try.ntmps8
  go_wp2_with (first | (go_at_call 11; refine (awake_any _).mono ?_; rintro e w' ⟨rfl, rfl⟩) | (go_at_call 12; refine (apply_any _ _ _ _ (by omega) (by omega) (by omega) (by omega)).mono ?_; rintro e w' ⟨rfl, rfl⟩))
  go_ret
  exact ⟨rfl, (Grown.refl _).alloc _ _⟩

set_option maxRecDepth 100000 in
theorem lifted (os : Os) (started : os.Started) (H : Type) (enc : TypeId × Value → H) :
    ReturnsInHanded {} Try.checked os 8 .any (Rows.wordShiftSpec.pre6 enc Try.prog Try.f8 Rows.wordShiftRow.domain false) (Rows.wordShiftSpec.post enc Try.prog Try.f8 false true false false) := by
  refine returnsInHanded_of_change (C := Try.checked) own started (by kernel_rfl) Try.func8
    (ChangeSpec.witness6 (enc := enc) (C := Try.checked) false ⟨#[], #[.int .u64 0, .int .u64 0], []⟩ 8 (by kernel_rfl) (by kernel_rfl) (by kernel_rfl) (by kernel_rfl)) ?_
  intro W base args ds gs before hval0 hW hcnd _
  have hval : ∀ (j : Nat) t v, Try.f8.params[j]? = some t → args[j]? = some v → Value.okWide Try.prog W .any base t v := hval0
  have hW' := hW
  obtain ⟨p, q, hA0, hV, rfl, hfz, hnd⟩ := hW
  have hA : DataW.TrodAll enc Try.prog W 0 (fun _ => true) true Try.f8.params.toList args.toList ds p := hA0
  rw [Try.params8] at hA hval
  obtain ⟨v0, vs0, d0, ds0, p0, q0, hargs, rfl, rfl, h0, r0⟩ := trodAll_cons hA
  obtain ⟨v1, vs1, d1, ds1, p1, q1, rfl, rfl, rfl, h1, r1⟩ := trodAll_cons r0
  obtain ⟨rfl, rfl, rfl⟩ := trodAll_nil r1
  obtain rfl : args = #[v0, v1] := by cases args; simp_all
  obtain ⟨rfl, rfl⟩ := trodVars_none hV
  obtain ⟨a0, rfl, rfl, rfl, w0⟩ := open_int Try.underlying22 (hval 0 22 v0 rfl rfl) h0
  obtain ⟨a1, rfl, rfl, rfl, w1⟩ := open_int Try.underlying22 (hval 1 22 v1 rfl rfl) h1
  clear hA0 hval0
  simp only [List.append_nil] at hW'
  refine (walk a0 a1 w0 w1 W).mono fun e W' ⟨he, hg⟩ => ?_
  subst he
  exact ⟨_, rfl, post_of_same (pa := []) (pv := []) hW' (fun _ _ _ => (trodAll_cons_mk (shut_bool Try.underlying4 _) trodAll_mk0)) (fun sp _ => (trodAll_cons_mk (shut_int Try.underlying22 w0) (trodAll_cons_mk (shut_int Try.underlying22 w1) trodAll_mk0))) (fun _ _ => rfl) rfl
    (hg.frame _) hg.2.1 (ok_one (by kernel_rfl) rfl (okWide_bool_mk Try.underlying4 _))⟩

theorem over : Rows.wordShiftRow.holds Try.pinned (OpenSpec.ofChange Rows.wordShiftSpec) :=
  OpenClaim.holds_of_wide 8 Try.f8 rfl rfl rfl rfl rfl rfl rfl ⟨rfl, rfl, rfl, rfl, rfl⟩ rfl rfl rfl rfl rfl (by kernel_rfl) Try.func8 (by kernel_rfl)
    (of_decide_eq_true (by kernel_rfl)) (by unfold Func.isWrapper; first | (rw [if_pos (by decide +kernel)]; kernel_rfl) | (rw [if_neg (by decide +kernel)]; exact ⟨rfl, rfl⟩))
    (fun os started H enc _ => lifted os started H enc)

theorem proved : Rows.WordShiftSaid :=
  over
#print axioms proved
end Go.Proofs.Ytaljadbeopjahaa.wordShift
