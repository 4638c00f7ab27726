/- The law WordRound returns true on every input and leaves its arguments as they were: what is added is taken away again, a word less itself is 0, not twice is nothing. No conditions. -/
import Derived.Test.YtaljadbeopjahaaRows
import Derived.WalkKit
import Derived.ProofKit
import Derived.OpenShut
import Derived.Test.YtaljadbeopjahaaParts
namespace Go.Proofs.Ytaljadbeopjahaa.wordRound
open Go.ChangeShapes Go.WideShapes Go.ChangeAt Go.RowKit
set_option linter.unusedVariables false

theorem own : ownKnob Try.prog.godebug = none := by kernel_rfl

theorem back (a b : Int) (h0 : 0 ≤ a) (h1 : a < 18446744073709551616) : applyI 1 (applyI 0 a b) b = a := by
  show IntKind.u64.wrap (IntKind.u64.wrap (a + b) - b) = a
  rw [IntKind.wrap_u64, IntKind.wrap_u64]; omega
theorem self (a : Int) : applyI 1 a a = 0 := by
  show IntKind.u64.wrap (a - a) = 0
  rw [IntKind.wrap_u64]; omega
theorem twice (a b : Int) (h0 : 0 ≤ a) (h1 : a < 18446744073709551616) (h2 : 0 ≤ b) (h3 : b < 18446744073709551616) : applyI 5 (applyI 5 a b) b = a := by
  show bits .xor .u64 (bits .xor .u64 a b) b = a
  have hx := xor_bounds a b h0 h1 h2 h3
  rw [u64_xor _ b hx.1 hx.2 h2 h3, u64_xor a b h0 h1 h2 h3, Int.toNat_natCast, Nat.xor_assoc, Nat.xor_self, Nat.xor_zero]; omega
theorem one (a b : Int) : IntKind.u64.wrap (IntKind.u64.wrap (applyI 8 a b + applyI 9 a b) + applyI 9 b a) = 1 := by
  show IntKind.u64.wrap (IntKind.u64.wrap (sameI a b + lessI a b) + lessI b a) = 1
  unfold sameI lessI
  rcases Int.lt_trichotomy a b with h | h | h
  · rw [if_neg (by omega), if_pos h, if_neg (by omega)]; decide
  · rw [if_pos h, if_neg (by omega), if_neg (by omega)]; decide
  · rw [if_neg (by omega), if_neg (by omega), if_pos h]; decide
theorem range0 (a b : Int) : 0 ≤ applyI 0 a b ∧ applyI 0 a b < 18446744073709551616 := by
  show 0 ≤ IntKind.u64.wrap (a + b) ∧ IntKind.u64.wrap (a + b) < 18446744073709551616
  rw [IntKind.wrap_u64]; omega
theorem range5 (a b : Int) (h0 : 0 ≤ a) (h1 : a < 18446744073709551616) (h2 : 0 ≤ b) (h3 : b < 18446744073709551616) : 0 ≤ applyI 5 a b ∧ applyI 5 a b < 18446744073709551616 :=
  xor_bounds a b h0 h1 h2 h3
theorem walk (a0 : Int) (a1 : Int) (w0 : (Lit.int .u64 a0).wf = true) (w1 : (Lit.int .u64 a1).wf = true) (w : World) :
    Calls Try.prog 7 #[.int .u64 a0, .int .u64 a1] w fun e w' => e = .returned (.bool true) ∧ Grown w w' := by
  obtain ⟨l0, l1⟩ := bounds_u64 w0
  obtain ⟨r0, r1⟩ := bounds_u64 w1
  have f1 := back a0 a1 (by omega) (by omega)
  have f2 := twice a0 a1 (by omega) (by omega) (by omega) (by omega)
  have f3 := self a0
  have f4 := one a0 a1
  have ⟨x0, x1⟩ := range0 a0 a1
  have ⟨x2, x3⟩ := range5 a0 a1 (by omega) (by omega) (by omega) (by omega)
  go_enter Try.func7, Try.ntmps7
  go_wp2_with (first | (go_at_call 11; refine (awake_any _).mono ?_; rintro e w' ⟨rfl, rfl⟩) | (go_at_call 12; refine (apply_any _ _ _ _ (by omega) (by omega) (by omega) (by omega)).mono ?_; rintro e w' ⟨rfl, rfl⟩))
  go_ret
  exact ⟨rfl, (Grown.refl _).alloc _ _⟩

set_option maxRecDepth 100000 in
theorem lifted (os : Os) (started : os.Started) (H : Type) (enc : TypeId × Value → H) :
    ReturnsInHanded {} Try.checked os 7 .any (Rows.wordRoundSpec.pre6 enc Try.prog Try.f7 Rows.wordRoundRow.domain false) (Rows.wordRoundSpec.post enc Try.prog Try.f7 false true false false) := by
  refine returnsInHanded_of_change (C := Try.checked) own started (by kernel_rfl) Try.func7
    (ChangeSpec.witness6 (enc := enc) (C := Try.checked) false ⟨#[], #[.int .u64 0, .int .u64 0], []⟩ 8 (by kernel_rfl) (by kernel_rfl) (by kernel_rfl) (by kernel_rfl)) ?_
  intro W base args ds gs before hval0 hW hcnd _
  have hval : ∀ (j : Nat) t v, Try.f7.params[j]? = some t → args[j]? = some v → Value.okWide Try.prog W .any base t v := hval0
  have hW' := hW
  obtain ⟨p, q, hA0, hV, rfl, hfz, hnd⟩ := hW
  have hA : DataW.TrodAll enc Try.prog W 0 (fun _ => true) true Try.f7.params.toList args.toList ds p := hA0
  rw [Try.params7] at hA hval
  obtain ⟨v0, vs0, d0, ds0, p0, q0, hargs, rfl, rfl, h0, r0⟩ := trodAll_cons hA
  obtain ⟨v1, vs1, d1, ds1, p1, q1, rfl, rfl, rfl, h1, r1⟩ := trodAll_cons r0
  obtain ⟨rfl, rfl, rfl⟩ := trodAll_nil r1
  obtain rfl : args = #[v0, v1] := by cases args; simp_all
  obtain ⟨rfl, rfl⟩ := trodVars_none hV
  obtain ⟨a0, rfl, rfl, rfl, w0⟩ := open_int Try.underlying22 (hval 0 22 v0 rfl rfl) h0
  obtain ⟨a1, rfl, rfl, rfl, w1⟩ := open_int Try.underlying22 (hval 1 22 v1 rfl rfl) h1
  clear hA0 hval0
  simp only [List.append_nil] at hW'
  refine (walk a0 a1 w0 w1 W).mono fun e W' ⟨he, hg⟩ => ?_
  subst he
  exact ⟨_, rfl, post_of_same (pa := []) (pv := []) hW' (fun _ _ _ => (trodAll_cons_mk (shut_bool Try.underlying4 _) trodAll_mk0)) (fun sp _ => (trodAll_cons_mk (shut_int Try.underlying22 w0) (trodAll_cons_mk (shut_int Try.underlying22 w1) trodAll_mk0))) (fun _ _ => rfl) rfl
    (hg.frame _) hg.2.1 (ok_one (by kernel_rfl) rfl (okWide_bool_mk Try.underlying4 _))⟩

theorem over : Rows.wordRoundRow.holds Try.pinned (OpenSpec.ofChange Rows.wordRoundSpec) :=
  OpenClaim.holds_of_wide 7 Try.f7 rfl rfl rfl rfl rfl rfl rfl ⟨rfl, rfl, rfl, rfl, rfl⟩ rfl rfl rfl rfl rfl (by kernel_rfl) Try.func7 (by kernel_rfl)
    (of_decide_eq_true (by kernel_rfl)) (by unfold Func.isWrapper; first | (rw [if_pos (by decide +kernel)]; kernel_rfl) | (rw [if_neg (by decide +kernel)]; exact ⟨rfl, rfl⟩))
    (fun os started H enc _ => lifted os started H enc)

theorem proved : Rows.WordRoundSaid :=
  over
#print axioms proved
end Go.Proofs.Ytaljadbeopjahaa.wordRound
