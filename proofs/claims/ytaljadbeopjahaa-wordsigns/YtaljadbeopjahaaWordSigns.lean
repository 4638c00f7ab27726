/- The law WordSigns returns true on every input and leaves its arguments as they were: signs, and how tight they bind, are what the document says. No conditions. -/
import Derived.Test.YtaljadbeopjahaaRows
import Derived.WalkKit
import Derived.ProofKit
import Derived.OpenShut
import Derived.LoopN
import Derived.Test.YtaljadbeopjahaaParts
namespace Go.Proofs.Ytaljadbeopjahaa.wordSigns
open Go.ChangeShapes Go.WideShapes Go.ChangeAt Go.RowKit
set_option linter.unusedVariables false

theorem own : ownKnob Try.prog.godebug = none := by kernel_rfl

theorem walk (a0 : Int) (w0 : (Lit.int .i64 a0).wf = true) (w : World) :
    Calls Try.prog 6 #[.int .i64 a0] w fun e w' => e = .returned (.bool true) ∧ Grown w w' := by
  go_enter Try.func6, Try.ntmps6
  go_wp2_with (first | (go_at_call 11; refine (awake_any _).mono ?_; rintro e w' ⟨rfl, rfl⟩) | (go_at_call 15; refine (signs_any _).mono ?_; rintro e w' ⟨rfl, rfl⟩) | (go_at_call 16; refine (tight_any _ _).mono ?_; rintro e w' ⟨rfl, rfl⟩))
  have c0 : ((w.alloc (.cells signCells 9)).alloc (.cells signCells 9)).cell? ⟨w.heap.size + 1, 0, none⟩ = some (.string ⟨#[43]⟩) := by simp [go_sem, signCells]
  have c1 : ((w.alloc (.cells signCells 9)).alloc (.cells signCells 9)).cell? ⟨w.heap.size + 1, 1, none⟩ = some (.string ⟨#[45]⟩) := by simp [go_sem, signCells]
  have c2 : ((w.alloc (.cells signCells 9)).alloc (.cells signCells 9)).cell? ⟨w.heap.size + 1, 2, none⟩ = some (.string ⟨#[42]⟩) := by simp [go_sem, signCells]
  have c3 : ((w.alloc (.cells signCells 9)).alloc (.cells signCells 9)).cell? ⟨w.heap.size + 1, 3, none⟩ = some (.string ⟨#[38]⟩) := by simp [go_sem, signCells]
  have c4 : ((w.alloc (.cells signCells 9)).alloc (.cells signCells 9)).cell? ⟨w.heap.size + 1, 4, none⟩ = some (.string ⟨#[124]⟩) := by simp [go_sem, signCells]
  have c5 : ((w.alloc (.cells signCells 9)).alloc (.cells signCells 9)).cell? ⟨w.heap.size + 1, 5, none⟩ = some (.string ⟨#[94]⟩) := by simp [go_sem, signCells]
  have c6 : ((w.alloc (.cells signCells 9)).alloc (.cells signCells 9)).cell? ⟨w.heap.size + 1, 6, none⟩ = some (.string ⟨#[60, 60]⟩) := by simp [go_sem, signCells]
  have c7 : ((w.alloc (.cells signCells 9)).alloc (.cells signCells 9)).cell? ⟨w.heap.size + 1, 7, none⟩ = some (.string ⟨#[62, 62]⟩) := by simp [go_sem, signCells]
  have c8 : ((w.alloc (.cells signCells 9)).alloc (.cells signCells 9)).cell? ⟨w.heap.size + 1, 8, none⟩ = some (.string ⟨#[61, 61]⟩) := by simp [go_sem, signCells]
  have c9 : ((w.alloc (.cells signCells 9)).alloc (.cells signCells 9)).cell? ⟨w.heap.size + 1, 9, none⟩ = some (.string ⟨#[60]⟩) := by simp [go_sem, signCells]
  refine wp_loop_rounds 11 ?_
  rw [rounds_succ]; go_wp2
  rw [rounds_succ]; go_wp2
  rw [rounds_succ]; go_wp2
  rw [rounds_succ]; go_wp2
  rw [rounds_succ]; go_wp2
  rw [rounds_succ]; go_wp2
  rw [rounds_succ]; go_wp2
  rw [rounds_succ]; go_wp2
  rw [rounds_succ]; go_wp2
  rw [rounds_succ]; go_wp2
  have hs : (⟨#[]⟩ ++ ⟨#[43]⟩ ++ ⟨#[32]⟩ ++ ⟨#[45]⟩ ++ ⟨#[32]⟩ ++ ⟨#[42]⟩ ++ ⟨#[32]⟩ ++ ⟨#[38]⟩ ++ ⟨#[32]⟩ ++ ⟨#[124]⟩ ++ ⟨#[32]⟩ ++ ⟨#[94]⟩ ++ ⟨#[32]⟩ ++ ⟨#[60, 60]⟩ ++ ⟨#[32]⟩ ++ ⟨#[62, 62]⟩ ++ ⟨#[32]⟩ ++ ⟨#[61, 61]⟩ ++ ⟨#[32]⟩ ++ ⟨#[60]⟩ ++ ⟨#[32]⟩ : ByteArray) = ⟨#[43, 32, 45, 32, 42, 32, 38, 32, 124, 32, 94, 32, 60, 60, 32, 62, 62, 32, 61, 61, 32, 60, 32]⟩ := rfl
  clear c0 c1 c2 c3 c4 c5 c6 c7 c8 c9
  rw [rounds_succ]
  rcases op_cases a0 with rfl | rfl | rfl | rfl | rfl | rfl | rfl | rfl | rfl | rfl | ⟨e0, e1, e2, e3, e4, e5, e6, e7, e8, e9⟩
  case inr.inr.inr.inr.inr.inr.inr.inr.inr.inr =>
    have f3 : tightI a0 = 0 := by simp at *; simp [tightI, *]
    simp at e0 e1 e2 e3 e4 e5 e6 e7 e8 e9
    have hor : a0 < 0 ∨ (0 ≤ a0 ∧ ¬ a0 < 10 ∧ 9 < a0) := by omega
    clear e0 e1 e2 e3 e4 e5 e6 e7 e8 e9
    rcases hor with hl | ⟨hl, hr, hr'⟩
    all_goals
      go_wp2_with (first | (go_at_call 16; refine (tight_any _ _).mono ?_; rintro e w' ⟨rfl, rfl⟩))
      go_ret
      exact ⟨rfl, ((Grown.refl _).alloc _ _).alloc _ _⟩
  all_goals
    go_wp2_with (first | (go_at_call 16; refine (tight_any _ _).mono ?_; rintro e w' ⟨rfl, rfl⟩))
    go_ret
    exact ⟨rfl, ((Grown.refl _).alloc _ _).alloc _ _⟩

set_option maxRecDepth 100000 in
theorem lifted (os : Os) (started : os.Started) (H : Type) (enc : TypeId × Value → H) :
    ReturnsInHanded {} Try.checked os 6 .any (Rows.wordSignsSpec.pre6 enc Try.prog Try.f6 Rows.wordSignsRow.domain false) (Rows.wordSignsSpec.post enc Try.prog Try.f6 false true false false) := by
  refine returnsInHanded_of_change (C := Try.checked) own started (by kernel_rfl) Try.func6
    (ChangeSpec.witness6 (enc := enc) (C := Try.checked) false ⟨#[], #[.int .i64 0], []⟩ 8 (by kernel_rfl) (by kernel_rfl) (by kernel_rfl) (by kernel_rfl)) ?_
  intro W base args ds gs before hval0 hW hcnd _
  have hval : ∀ (j : Nat) t v, Try.f6.params[j]? = some t → args[j]? = some v → Value.okWide Try.prog W .any base t v := hval0
  have hW' := hW
  obtain ⟨p, q, hA0, hV, rfl, hfz, hnd⟩ := hW
  have hA : DataW.TrodAll enc Try.prog W 0 (fun _ => true) true Try.f6.params.toList args.toList ds p := hA0
  rw [Try.params6] at hA hval
  obtain ⟨v0, vs0, d0, ds0, p0, q0, hargs, rfl, rfl, h0, r0⟩ := trodAll_cons hA
  obtain ⟨rfl, rfl, rfl⟩ := trodAll_nil r0
  obtain rfl : args = #[v0] := by cases args; simp_all
  obtain ⟨rfl, rfl⟩ := trodVars_none hV
  obtain ⟨a0, rfl, rfl, rfl, w0⟩ := open_int Try.underlying3 (hval 0 3 v0 rfl rfl) h0
  clear hA0 hval0
  simp only [List.append_nil] at hW'
  refine (walk a0 w0 W).mono fun e W' ⟨he, hg⟩ => ?_
  subst he
  exact ⟨_, rfl, post_of_same (pa := []) (pv := []) hW' (fun _ _ _ => (trodAll_cons_mk (shut_bool Try.underlying4 _) trodAll_mk0)) (fun sp _ => (trodAll_cons_mk (shut_int Try.underlying3 w0) trodAll_mk0)) (fun _ _ => rfl) rfl
    (hg.frame _) hg.2.1 (ok_one (by kernel_rfl) rfl (okWide_bool_mk Try.underlying4 _))⟩

theorem over : Rows.wordSignsRow.holds Try.pinned (OpenSpec.ofChange Rows.wordSignsSpec) :=
  OpenClaim.holds_of_wide 6 Try.f6 rfl rfl rfl rfl rfl rfl rfl ⟨rfl, rfl, rfl, rfl, rfl⟩ rfl rfl rfl rfl rfl (by kernel_rfl) Try.func6 (by kernel_rfl)
    (of_decide_eq_true (by kernel_rfl)) (by unfold Func.isWrapper; first | (rw [if_pos (by decide +kernel)]; kernel_rfl) | (rw [if_neg (by decide +kernel)]; exact ⟨rfl, rfl⟩))
    (fun os started H enc _ => lifted os started H enc)

theorem proved : Rows.WordSignsSaid :=
  over
#print axioms proved
end Go.Proofs.Ytaljadbeopjahaa.wordSigns
