/- The law WordRing returns true on every input and leaves its arguments as they were: sums and products are those of a ring. No conditions. -/
import Derived.Test.YtaljadbeopjahaaRows
import Derived.WalkKit
import Derived.ProofKit
import Derived.OpenShut
import Derived.Test.YtaljadbeopjahaaParts
namespace Go.Proofs.Ytaljadbeopjahaa.wordRing
open Go.ChangeShapes Go.WideShapes Go.ChangeAt Go.RowKit
set_option linter.unusedVariables false

theorem own : ownKnob Try.prog.godebug = none := by kernel_rfl

theorem emul (a b m : Int) : a * (b % m) % m = a * b % m := by
  rw [Int.mul_emod, Int.emod_emod, ← Int.mul_emod]
theorem emul' (a b m : Int) : b % m * a % m = b * a % m := by
  rw [Int.mul_emod, Int.emod_emod, ← Int.mul_emod]
theorem closure_add (x y : Int) (w : World) (h0 : 0 ≤ x) (h1 : x < 18446744073709551616) (h2 : 0 ≤ y) (h3 : y < 18446744073709551616) :
    Calls Try.prog 17 #[.int .u64 x, .int .u64 y] w fun e w' => e = .returned (.int .u64 (applyI 0 x y)) ∧ w' = w := by
  go_enter Try.func17, Try.ntmps17
  go_wp2_with (go_at_call 12; refine (apply_any _ _ _ _ (by omega) (by omega) (by omega) (by omega)).mono ?_; rintro e w' ⟨rfl, rfl⟩)
  go_ret
  exact ⟨rfl, rfl⟩
theorem closure_mul (x y : Int) (w : World) (h0 : 0 ≤ x) (h1 : x < 18446744073709551616) (h2 : 0 ≤ y) (h3 : y < 18446744073709551616) :
    Calls Try.prog 18 #[.int .u64 x, .int .u64 y] w fun e w' => e = .returned (.int .u64 (applyI 2 x y)) ∧ w' = w := by
  go_enter Try.func18, Try.ntmps18
  go_wp2_with (go_at_call 12; refine (apply_any _ _ _ _ (by omega) (by omega) (by omega) (by omega)).mono ?_; rintro e w' ⟨rfl, rfl⟩)
  go_ret
  exact ⟨rfl, rfl⟩
theorem range0 (a b : Int) : 0 ≤ applyI 0 a b ∧ applyI 0 a b < 18446744073709551616 := by
  show 0 ≤ IntKind.u64.wrap (a + b) ∧ IntKind.u64.wrap (a + b) < 18446744073709551616
  rw [IntKind.wrap_u64]; omega
theorem range2 (a b : Int) : 0 ≤ applyI 2 a b ∧ applyI 2 a b < 18446744073709551616 := by
  show 0 ≤ IntKind.u64.wrap (a * b) ∧ IntKind.u64.wrap (a * b) < 18446744073709551616
  rw [IntKind.wrap_u64]; omega
theorem add_assoc' (a b c : Int) : applyI 0 (applyI 0 a b) c = applyI 0 a (applyI 0 b c) := by
  show IntKind.u64.wrap (IntKind.u64.wrap (a + b) + c) = IntKind.u64.wrap (a + IntKind.u64.wrap (b + c))
  rw [IntKind.wrap_u64, IntKind.wrap_u64, IntKind.wrap_u64, IntKind.wrap_u64]; omega
theorem mul_assoc' (a b c : Int) : applyI 2 (applyI 2 a b) c = applyI 2 a (applyI 2 b c) := by
  show IntKind.u64.wrap (IntKind.u64.wrap (a * b) * c) = IntKind.u64.wrap (a * IntKind.u64.wrap (b * c))
  rw [IntKind.wrap_u64, IntKind.wrap_u64, IntKind.wrap_u64, IntKind.wrap_u64, emul', emul, Int.mul_assoc]
theorem mul_add' (a b c : Int) : applyI 2 a (applyI 0 b c) = applyI 0 (applyI 2 a b) (applyI 2 a c) := by
  show IntKind.u64.wrap (a * IntKind.u64.wrap (b + c)) = IntKind.u64.wrap (IntKind.u64.wrap (a * b) + IntKind.u64.wrap (a * c))
  rw [IntKind.wrap_u64, IntKind.wrap_u64, IntKind.wrap_u64, IntKind.wrap_u64, IntKind.wrap_u64, emul, Int.mul_add, ← Int.add_emod]
theorem mul_one' (a : Int) (h0 : 0 ≤ a) (h1 : a < 18446744073709551616) : applyI 2 a 1 = a := by
  show IntKind.u64.wrap (a * 1) = a
  rw [IntKind.wrap_u64]; omega
set_option maxHeartbeats 1000000 in
theorem walk (a0 : Int) (a1 : Int) (a2 : Int) (w0 : (Lit.int .u64 a0).wf = true) (w1 : (Lit.int .u64 a1).wf = true) (w2 : (Lit.int .u64 a2).wf = true) (w : World) :
    Calls Try.prog 10 #[.int .u64 a0, .int .u64 a1, .int .u64 a2] w fun e w' => e = .returned (.bool true) ∧ Grown w w' := by
  obtain ⟨l0, l1⟩ := bounds_u64 w0
  obtain ⟨r0, r1⟩ := bounds_u64 w1
  obtain ⟨s0, s1⟩ := bounds_u64 w2
  have f1 : (applyI 0 (applyI 0 a0 a1) a2 == applyI 0 a0 (applyI 0 a1 a2)) = true := by rw [add_assoc']; simp
  have f2 : (applyI 2 (applyI 2 a0 a1) a2 == applyI 2 a0 (applyI 2 a1 a2)) = true := by rw [mul_assoc']; simp
  have f3 : (applyI 2 a0 (applyI 0 a1 a2) == applyI 0 (applyI 2 a0 a1) (applyI 2 a0 a2)) = true := by rw [mul_add']; simp
  have f4 : (applyI 2 a0 1 == a0) = true := by rw [mul_one' a0 (by omega) (by omega)]; simp
  have ⟨p0, p1⟩ := range0 a0 a1
  have ⟨p2, p3⟩ := range0 a1 a2
  have ⟨p4, p5⟩ := range2 a0 a1
  have ⟨p6, p7⟩ := range2 a1 a2
  have ⟨p8, p9⟩ := range2 a0 a2
  go_enter Try.func10, Try.ntmps10
  go_wp2_with (first | (go_at_call 11; refine (awake_any _).mono ?_; rintro e w' ⟨rfl, rfl⟩) | (go_at_call 17; refine (closure_add _ _ _ (by omega) (by omega) (by omega) (by omega)).mono ?_; rintro e w' ⟨rfl, rfl⟩) | (go_at_call 18; refine (closure_mul _ _ _ (by omega) (by omega) (by omega) (by omega)).mono ?_; rintro e w' ⟨rfl, rfl⟩))
  go_ret
  exact ⟨rfl, (Grown.refl _).alloc _ _⟩

set_option maxRecDepth 100000 in
theorem lifted (os : Os) (started : os.Started) (H : Type) (enc : TypeId × Value → H) :
    ReturnsInHanded {} Try.checked os 10 .any (Rows.wordRingSpec.pre6 enc Try.prog Try.f10 Rows.wordRingRow.domain false) (Rows.wordRingSpec.post enc Try.prog Try.f10 false true false false) := by
  refine returnsInHanded_of_change (C := Try.checked) own started (by kernel_rfl) Try.func10
    (ChangeSpec.witness6 (enc := enc) (C := Try.checked) false ⟨#[], #[.int .u64 0, .int .u64 0, .int .u64 0], []⟩ 8 (by kernel_rfl) (by kernel_rfl) (by kernel_rfl) (by kernel_rfl)) ?_
  intro W base args ds gs before hval0 hW hcnd _
  have hval : ∀ (j : Nat) t v, Try.f10.params[j]? = some t → args[j]? = some v → Value.okWide Try.prog W .any base t v := hval0
  have hW' := hW
  obtain ⟨p, q, hA0, hV, rfl, hfz, hnd⟩ := hW
  have hA : DataW.TrodAll enc Try.prog W 0 (fun _ => true) true Try.f10.params.toList args.toList ds p := hA0
  rw [Try.params10] at hA hval
  obtain ⟨v0, vs0, d0, ds0, p0, q0, hargs, rfl, rfl, h0, r0⟩ := trodAll_cons hA
  obtain ⟨v1, vs1, d1, ds1, p1, q1, rfl, rfl, rfl, h1, r1⟩ := trodAll_cons r0
  obtain ⟨v2, vs2, d2, ds2, p2, q2, rfl, rfl, rfl, h2, r2⟩ := trodAll_cons r1
  obtain ⟨rfl, rfl, rfl⟩ := trodAll_nil r2
  obtain rfl : args = #[v0, v1, v2] := by cases args; simp_all
  obtain ⟨rfl, rfl⟩ := trodVars_none hV
  obtain ⟨a0, rfl, rfl, rfl, w0⟩ := open_int Try.underlying22 (hval 0 22 v0 rfl rfl) h0
  obtain ⟨a1, rfl, rfl, rfl, w1⟩ := open_int Try.underlying22 (hval 1 22 v1 rfl rfl) h1
  obtain ⟨a2, rfl, rfl, rfl, w2⟩ := open_int Try.underlying22 (hval 2 22 v2 rfl rfl) h2
  clear hA0 hval0
  simp only [List.append_nil] at hW'
  refine (walk a0 a1 a2 w0 w1 w2 W).mono fun e W' ⟨he, hg⟩ => ?_
  subst he
  exact ⟨_, rfl, post_of_same (pa := []) (pv := []) hW' (fun _ _ _ => (trodAll_cons_mk (shut_bool Try.underlying4 _) trodAll_mk0)) (fun sp _ => (trodAll_cons_mk (shut_int Try.underlying22 w0) (trodAll_cons_mk (shut_int Try.underlying22 w1) (trodAll_cons_mk (shut_int Try.underlying22 w2) trodAll_mk0)))) (fun _ _ => rfl) rfl
    (hg.frame _) hg.2.1 (ok_one (by kernel_rfl) rfl (okWide_bool_mk Try.underlying4 _))⟩

theorem over : Rows.wordRingRow.holds Try.pinned (OpenSpec.ofChange Rows.wordRingSpec) :=
  OpenClaim.holds_of_wide 10 Try.f10 rfl rfl rfl rfl rfl rfl rfl ⟨rfl, rfl, rfl, rfl, rfl⟩ rfl rfl rfl rfl rfl (by kernel_rfl) Try.func10 (by kernel_rfl)
    (of_decide_eq_true (by kernel_rfl)) (by unfold Func.isWrapper; first | (rw [if_pos (by decide +kernel)]; kernel_rfl) | (rw [if_neg (by decide +kernel)]; exact ⟨rfl, rfl⟩))
    (fun os started H enc _ => lifted os started H enc)

theorem proved : Rows.WordRingSaid :=
  over
#print axioms proved
end Go.Proofs.Ytaljadbeopjahaa.wordRing
