/- The law LabelJoin returns true on every input and leaves its argument as it was: the label of what is made of some is Secret just if one of them is not Public. No conditions. -/
import Derived.Test.YtflgmlkmlbcopaaRows
import Derived.Test.YtflgmlkmlbcopaaFrame
import Derived.WalkKit
import Derived.ProofKit
import Derived.OpenShut
import Derived.Test.YtflgmlkmlbcopaaLabelPlain
import Derived.Test.YtflgmlkmlbcopaaLabelCalls
namespace Go.Proofs.Ytflgmlkmlbcopaa.labelJoin
open Go.ChangeShapes Go.WideShapes Go.ChangeAt Go.RowKit
open Go.ChangeMaps (open_string shut_string)
set_option linter.unusedVariables false


theorem walk (v0 : Value) (zs0 : List Int) (w : World) (h0 : IntsAt w .i64 v0 zs0) (z0 : ∀ n ∈ zs0, (Lit.int .i64 n).wf = true) (n0 : zs0.length * 8 ≤ 140737488351232) :
    Calls Try.prog 3 #[v0] w fun e w' => e = .returned (.bool true) ∧ Below w.heap.size w w' := by
  obtain ⟨ao, cap, rfl, hm, hc⟩ := h0
  unfold maxLen at hm
  go_enter Try.func3, Try.ntmps3
  go_wp2_with (go_at_call 8; refine (awake_any _).mono ?_; rintro e w' ⟨rfl, rfl⟩)
  go_loopw [3, 4, 11] (fun want v i wr => ∃ k : Nat, k ≤ zs0.length ∧ i = .int .i64 k ∧ want = .int .i64 (joinI (zs0.take k)) ∧ wr.ownsRow w.heap.size 24 1 v k ((zs0.take k).map (Value.int .i64)) ∧ Below w.heap.size w wr)
    (fun _ _ i _ => zs0.length - (intOf i).toNat)
  case atStart => exact ⟨0, Nat.zero_le _, rfl, rfl, World.ownsRow_nil _ _ _ _, (Below.refl _ _).alloc (Nat.le_refl _) _⟩
  case round =>
    obtain ⟨k, hk, rfl, rfl, hown, hb⟩ := hrel
    have hbs := hb.size
    by_cases hlt : k < zs0.length
    · obtain ⟨b, off, rfl, hbw, hcx⟩ := hc k hlt
      have hcw := (hb.cell (p := ⟨b, off + k, none⟩) hbw).trans hcx
      obtain ⟨z, hz⟩ : ∃ z, z = zs0.getD k 0 := ⟨_, rfl⟩
      have hts := take_snoc zs0 k hlt
      rw [← hz] at hcw hts
      have HT : Hid (zs0.take (k + 1) = zs0.take k ++ [z]) := hts
      have HC : Hid (∀ (j : Nat), j < zs0.length → ∃ b_1 off_1, some (⟨b, off, none⟩ : Addr) = some { block := b_1, off := off_1 } ∧ b_1 < w.heap.size ∧ w.cell? { block := b_1, off := off_1 + j } = some (Value.int IntKind.i64 (zs0.getD j 0))) := hc
      clear hts hcx hc hz
      by_cases h0 : z = 0
      · subst h0
        go_wp2_with (at_builtin; refine append_one _ 0 rfl _ _ rfl w.heap.size _ k (zs0.take k) rfl hown rfl (by omega) (by omega) ?_; intro v' w1 ho1 hb1)
        go_roundw
        case rel => exact ⟨k + 1, by omega, by go_num, by rw [HT.out, join_snoc_no _ rfl], by rw [HT.out]; exact ho1, hb.trans hb1⟩
        case measure => simp [intOf]; omega
      · go_wp2_with (at_builtin; refine append_one _ z rfl _ _ rfl w.heap.size _ k (zs0.take k) rfl hown rfl (by omega) (by omega) ?_; intro v' w1 ho1 hb1)
        go_roundw
        case rel => exact ⟨k + 1, by omega, by go_num, by rw [HT.out, join_snoc_yes _ h0], by rw [HT.out]; exact ho1, hb.trans hb1⟩
        case measure => simp [intOf]; omega
    · have he : zs0.take k = zs0 := List.take_of_length_le (by omega)
      have hkk : k = zs0.length := by omega
      rw [he] at hown
      have hj : joinI (zs0.take k) = joinI zs0 := by rw [he]
      clear he
      go_wp2_with (go_at_call 9; refine (join_own w.heap.size k _ zs0 _ hkk (by unfold maxLen; omega) hown).mono ?_; rintro e w' ⟨rfl, rfl⟩)
      go_ret
      exact ⟨ret_bool (by simp), hb⟩

set_option maxRecDepth 100000 in
theorem contract (H : Type) (enc : TypeId × Value → H) (W : World) (base : Nat) (args : Array Value) (ds gs : List (DataW H)) (before : List MemPlace)
    (hval : ∀ (j : Nat) t v, Try.f3.params[j]? = some t → args[j]? = some v → Value.okWide Try.prog W .any base t v)
    (hW : DataW.Whole enc Try.prog Try.f3.params.toList Rows.labelJoinSpec.vars false W args.toList ds gs before) (hsz : (DataW.weightsEach Try.prog (Try.f3.params.toList ++ Rows.labelJoinSpec.plain.varTypes Try.prog) (ds ++ gs)).all (· ≤ reachBytes) = true) :
    Calls Try.prog 3 args W fun e W' => ∃ v, e = .returned v ∧ Rows.labelJoinSpec.post enc Try.prog Try.f3 false true false false W args v W' := by
  have hW' := hW
  obtain ⟨p, q, hA0, hV, rfl, hfz, hnd⟩ := hW
  have hA : DataW.TrodAll enc Try.prog W 0 (fun _ => true) true Try.f3.params.toList args.toList ds p := hA0
  rw [Try.params3] at hA hval hsz
  obtain ⟨v0, vs0, d0, ds0, p0, q0, hargs, rfl, rfl, h0, r0⟩ := trodAll_cons hA
  obtain ⟨rfl, rfl, rfl⟩ := trodAll_nil r0
  obtain rfl : args = #[v0] := by cases args; simp_all
  obtain ⟨rfl, rfl⟩ := trodVars_none hV
  clear hA0
  simp only [List.append_nil] at hW'
  have hlt0 : ∀ x ∈ p0, x.block < W.heap.size := fun x hx => hW'.lt x (by simp [hx])
  have back0 : ∀ (W' : World), Below W.heap.size W W' → DataW.Trod enc Try.prog W' 0 (fun b => decide (b < W.heap.size)) true 22 v0 d0 p0 := fun W' hn => Below.trod Try.laidOut (by kernel_rfl) (of_decide_eq_true (by kernel_rfl)) h0 hn hlt0
  obtain ⟨zs0, i0, z0, f0⟩ := ints_open Try.underlying22 Try.underlying3 (by kernel_rfl) (hval 0 22 v0 rfl rfl) h0 hlt0
  have e0 : Try.prog.bytesOf 3 = 8 := by kernel_rfl
  have n0 : zs0.length * 8 ≤ 140737488351232 := by rw [← e0]; exact ints_reach hsz (j := 0) rfl rfl Try.underlying22 f0
  refine (walk v0 zs0 W i0 z0 n0).mono fun e W' ⟨he, hb⟩ => ?_
  subst he
  exact ⟨_, rfl, _, _, _, _, _, [], hW', (trodAll_cons_mk (shut_bool Try.underlying4 _) trodAll_mk0), (trodAll_cons_mk (back0 _ hb) trodAll_mk0), rfl, hb.frame _, fun h => by cases h⟩

set_option maxRecDepth 100000 in
theorem lifted (os : Os) (started : os.Started) (H : Type) (enc : TypeId × Value → H) :
    ReturnsInHanded {} Try.checked os 3 .any (Rows.labelJoinSpec.pre6 enc Try.prog Try.f3 Rows.labelJoinRow.domain false) (Rows.labelJoinSpec.post enc Try.prog Try.f3 false true false false) := by
  refine returnsInHanded_of_change_sized (C := Try.checked) Try.own started (by kernel_rfl) Try.func3
    (ChangeSpec.witness6 (enc := enc) (C := Try.checked) false ⟨#[], #[.slice none 0 0], []⟩ 8 (by kernel_rfl) (by kernel_rfl) (by kernel_rfl) (by kernel_rfl)) ?_
  intro W base args ds gs before hval hW _ hsz _
  exact contract H enc W base args ds gs before hval hW hsz

theorem over : Rows.labelJoinRow.holds Try.pinned (OpenSpec.ofChange Rows.labelJoinSpec) :=
  OpenClaim.holds_of_wide 3 Try.f3 rfl rfl rfl rfl rfl rfl rfl ⟨rfl, rfl, rfl, rfl, rfl⟩ rfl rfl rfl rfl rfl (by kernel_rfl) Try.func3 (by kernel_rfl)
    (of_decide_eq_true (by kernel_rfl)) (by unfold Func.isWrapper; first | (rw [if_pos (by decide +kernel)]; kernel_rfl) | (rw [if_neg (by decide +kernel)]; exact ⟨rfl, rfl⟩))
    (fun os started H enc _ => lifted os started H enc)

theorem proved : Rows.LabelJoinSaid :=
  over
#print axioms proved
end Go.Proofs.Ytflgmlkmlbcopaa.labelJoin
