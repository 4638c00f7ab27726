/- The law WordTurns returns true on every input and leaves its arguments as they were: operators that do not care for the order are those that the document names, and do not care. No conditions. -/
import Derived.Test.YtaljadbeopjahaaRows
import Derived.WalkKit
import Derived.ProofKit
import Derived.OpenShut
import Derived.Test.YtaljadbeopjahaaParts
namespace Go.Proofs.Ytaljadbeopjahaa.wordTurns
open Go.ChangeShapes Go.WideShapes Go.ChangeAt Go.RowKit
set_option linter.unusedVariables false

theorem own : ownKnob Try.prog.godebug = none := by kernel_rfl

theorem add_turns (a b : Int) : applyI 0 a b = applyI 0 b a := by
  show IntKind.u64.wrap (a + b) = IntKind.u64.wrap (b + a)
  rw [Int.add_comm]
theorem mul_turns (a b : Int) : applyI 2 a b = applyI 2 b a := by
  show IntKind.u64.wrap (a * b) = IntKind.u64.wrap (b * a)
  rw [Int.mul_comm]
theorem and_turns (a b : Int) (h0 : 0 ≤ a) (h1 : a < 18446744073709551616) (h2 : 0 ≤ b) (h3 : b < 18446744073709551616) : applyI 3 a b = applyI 3 b a := by
  show bits .and .u64 a b = bits .and .u64 b a
  rw [u64_and a b h0 h1 h2 h3, u64_and b a h2 h3 h0 h1, Nat.and_comm]
theorem or_turns (a b : Int) (h0 : 0 ≤ a) (h1 : a < 18446744073709551616) (h2 : 0 ≤ b) (h3 : b < 18446744073709551616) : applyI 4 a b = applyI 4 b a := by
  show bits .or .u64 a b = bits .or .u64 b a
  rw [u64_or a b h0 h1 h2 h3, u64_or b a h2 h3 h0 h1, Nat.or_comm]
theorem xor_turns (a b : Int) (h0 : 0 ≤ a) (h1 : a < 18446744073709551616) (h2 : 0 ≤ b) (h3 : b < 18446744073709551616) : applyI 5 a b = applyI 5 b a := by
  show bits .xor .u64 a b = bits .xor .u64 b a
  rw [u64_xor a b h0 h1 h2 h3, u64_xor b a h2 h3 h0 h1, Nat.xor_comm]
theorem same_turns (a b : Int) : applyI 8 a b = applyI 8 b a := by
  show sameI a b = sameI b a
  unfold sameI
  by_cases h : a = b
  · rw [if_pos h, if_pos h.symm]
  · rw [if_neg h, if_neg fun e => h e.symm]
theorem walk (a0 : Int) (a1 : Int) (a2 : Int) (w0 : (Lit.int .i64 a0).wf = true) (w1 : (Lit.int .u64 a1).wf = true) (w2 : (Lit.int .u64 a2).wf = true) (w : World) :
    Calls Try.prog 5 #[.int .i64 a0, .int .u64 a1, .int .u64 a2] w fun e w' => e = .returned (.bool true) ∧ Grown w w' := by
  obtain ⟨l0, l1⟩ := bounds_u64 w1
  obtain ⟨r0, r1⟩ := bounds_u64 w2
  have f0 : (applyI 0 a1 a2 == applyI 0 a2 a1) = true := by rw [add_turns]; simp
  have f2 : (applyI 2 a1 a2 == applyI 2 a2 a1) = true := by rw [mul_turns]; simp
  have f3 : (applyI 3 a1 a2 == applyI 3 a2 a1) = true := by rw [and_turns a1 a2 (by omega) (by omega) (by omega) (by omega)]; simp
  have f4 : (applyI 4 a1 a2 == applyI 4 a2 a1) = true := by rw [or_turns a1 a2 (by omega) (by omega) (by omega) (by omega)]; simp
  have f5 : (applyI 5 a1 a2 == applyI 5 a2 a1) = true := by rw [xor_turns a1 a2 (by omega) (by omega) (by omega) (by omega)]; simp
  have f8 : (applyI 8 a1 a2 == applyI 8 a2 a1) = true := by rw [same_turns]; simp
  rcases op_cases a0 with rfl | rfl | rfl | rfl | rfl | rfl | rfl | rfl | rfl | rfl | ⟨e0, e1, e2, e3, e4, e5, e6, e7, e8, e9⟩
  case inr.inr.inr.inr.inr.inr.inr.inr.inr.inr =>
    have ft : turnsB a0 = false := by simp at *; simp [turnsB, *]
    go_enter Try.func5, Try.ntmps5
    go_wp2_with (first | (go_at_call 11; refine (awake_any _).mono ?_; rintro e w' ⟨rfl, rfl⟩) | (go_at_call 12; refine (apply_any _ _ _ _ (by omega) (by omega) (by omega) (by omega)).mono ?_; rintro e w' ⟨rfl, rfl⟩) | (go_at_call 14; refine (turns_any _ _).mono ?_; rintro e w' ⟨rfl, rfl⟩))
    go_ret
    exact ⟨rfl, (Grown.refl _).alloc _ _⟩
  all_goals
    go_enter Try.func5, Try.ntmps5
    go_wp2_with (first | (go_at_call 11; refine (awake_any _).mono ?_; rintro e w' ⟨rfl, rfl⟩) | (go_at_call 12; refine (apply_any _ _ _ _ (by omega) (by omega) (by omega) (by omega)).mono ?_; rintro e w' ⟨rfl, rfl⟩) | (go_at_call 14; refine (turns_any _ _).mono ?_; rintro e w' ⟨rfl, rfl⟩))
    go_ret
    exact ⟨rfl, (Grown.refl _).alloc _ _⟩

set_option maxRecDepth 100000 in
theorem lifted (os : Os) (started : os.Started) (H : Type) (enc : TypeId × Value → H) :
    ReturnsInHanded {} Try.checked os 5 .any (Rows.wordTurnsSpec.pre6 enc Try.prog Try.f5 Rows.wordTurnsRow.domain false) (Rows.wordTurnsSpec.post enc Try.prog Try.f5 false true false false) := by
  refine returnsInHanded_of_change (C := Try.checked) own started (by kernel_rfl) Try.func5
    (ChangeSpec.witness6 (enc := enc) (C := Try.checked) false ⟨#[], #[.int .i64 0, .int .u64 0, .int .u64 0], []⟩ 8 (by kernel_rfl) (by kernel_rfl) (by kernel_rfl) (by kernel_rfl)) ?_
  intro W base args ds gs before hval0 hW hcnd _
  have hval : ∀ (j : Nat) t v, Try.f5.params[j]? = some t → args[j]? = some v → Value.okWide Try.prog W .any base t v := hval0
  have hW' := hW
  obtain ⟨p, q, hA0, hV, rfl, hfz, hnd⟩ := hW
  have hA : DataW.TrodAll enc Try.prog W 0 (fun _ => true) true Try.f5.params.toList args.toList ds p := hA0
  rw [Try.params5] at hA hval
  obtain ⟨v0, vs0, d0, ds0, p0, q0, hargs, rfl, rfl, h0, r0⟩ := trodAll_cons hA
  obtain ⟨v1, vs1, d1, ds1, p1, q1, rfl, rfl, rfl, h1, r1⟩ := trodAll_cons r0
  obtain ⟨v2, vs2, d2, ds2, p2, q2, rfl, rfl, rfl, h2, r2⟩ := trodAll_cons r1
  obtain ⟨rfl, rfl, rfl⟩ := trodAll_nil r2
  obtain rfl : args = #[v0, v1, v2] := by cases args; simp_all
  obtain ⟨rfl, rfl⟩ := trodVars_none hV
  obtain ⟨a0, rfl, rfl, rfl, w0⟩ := open_int Try.underlying3 (hval 0 3 v0 rfl rfl) h0
  obtain ⟨a1, rfl, rfl, rfl, w1⟩ := open_int Try.underlying22 (hval 1 22 v1 rfl rfl) h1
  obtain ⟨a2, rfl, rfl, rfl, w2⟩ := open_int Try.underlying22 (hval 2 22 v2 rfl rfl) h2
  clear hA0 hval0
  simp only [List.append_nil] at hW'
  refine (walk a0 a1 a2 w0 w1 w2 W).mono fun e W' ⟨he, hg⟩ => ?_
  subst he
  exact ⟨_, rfl, post_of_same (pa := []) (pv := []) hW' (fun _ _ _ => (trodAll_cons_mk (shut_bool Try.underlying4 _) trodAll_mk0)) (fun sp _ => (trodAll_cons_mk (shut_int Try.underlying3 w0) (trodAll_cons_mk (shut_int Try.underlying22 w1) (trodAll_cons_mk (shut_int Try.underlying22 w2) trodAll_mk0)))) (fun _ _ => rfl) rfl
    (hg.frame _) hg.2.1 (ok_one (by kernel_rfl) rfl (okWide_bool_mk Try.underlying4 _))⟩

theorem over : Rows.wordTurnsRow.holds Try.pinned (OpenSpec.ofChange Rows.wordTurnsSpec) :=
  OpenClaim.holds_of_wide 5 Try.f5 rfl rfl rfl rfl rfl rfl rfl ⟨rfl, rfl, rfl, rfl, rfl⟩ rfl rfl rfl rfl rfl (by kernel_rfl) Try.func5 (by kernel_rfl)
    (of_decide_eq_true (by kernel_rfl)) (by unfold Func.isWrapper; first | (rw [if_pos (by decide +kernel)]; kernel_rfl) | (rw [if_neg (by decide +kernel)]; exact ⟨rfl, rfl⟩))
    (fun os started H enc _ => lifted os started H enc)

theorem proved : Rows.WordTurnsSaid :=
  over
#print axioms proved
end Go.Proofs.Ytaljadbeopjahaa.wordTurns
