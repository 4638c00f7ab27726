/- The law LabelMore returns true on every input and leaves its arguments as they were: with one more the label of some is never lower. No conditions. -/
import Derived.Test.YtflgmlkmlbcopaaRows
import Derived.Test.YtflgmlkmlbcopaaFrame
import Derived.WalkKit
import Derived.ProofKit
import Derived.OpenShut
import Derived.Test.YtflgmlkmlbcopaaLabelPlain
import Derived.Test.YtflgmlkmlbcopaaLabelCalls
namespace Go.Proofs.Ytflgmlkmlbcopaa.labelMore
open Go.ChangeShapes Go.WideShapes Go.ChangeAt Go.RowKit
open Go.ChangeMaps (open_string shut_string)
set_option linter.unusedVariables false

theorem facts (zs : List Int) (x : Int) :
    (∃ v u : Int, joinI zs = v ∧ joinI (zs ++ [x]) = u ∧ flowsB v u = true ∧ flowsB x u = true ∧ (u == v) = true) ∨
    (∃ v u : Int, joinI zs = v ∧ joinI (zs ++ [x]) = u ∧ flowsB v u = true ∧ flowsB x u = true ∧ (u == v) = false ∧ (x != 0) = true) := by
  by_cases h : x = 0
  · exact .inl ⟨_, _, rfl, join_snoc_no zs h, by rcases join_01 zs with e | e <;> rw [e] <;> rfl, by subst h; rfl, by simp⟩
  · have hx : flowsB x 1 = true := by simp [flowsB]
    rcases join_01 zs with e | e
    · exact .inr ⟨0, 1, e, join_snoc_yes zs h, rfl, hx, rfl, by simpa using h⟩
    · exact .inl ⟨1, 1, e, join_snoc_yes zs h, rfl, hx, rfl⟩

theorem walk (v0 : Value) (zs0 : List Int) (a1 : Int) (w : World) (h0 : IntsAt w .i64 v0 zs0) (z0 : ∀ n ∈ zs0, (Lit.int .i64 n).wf = true) (n0 : zs0.length * 8 ≤ 140737488351232) (w1 : (Lit.int .i64 a1).wf = true) :
    Calls Try.prog 6 #[v0, .int .i64 a1] w fun e w' => e = .returned (.bool true) ∧ Below w.heap.size w w' := by
  obtain ⟨ao, cap, rfl, hm, hc⟩ := h0
  unfold maxLen at hm
  go_enter Try.func6, Try.ntmps6
  go_wp2_with (go_at_call 8; refine (awake_any _).mono ?_; rintro e w' ⟨rfl, rfl⟩)
  go_loopw [5, 14] (fun v i wr => ∃ k : Nat, k ≤ zs0.length ∧ i = .int .i64 k ∧ wr.ownsRow w.heap.size 24 1 v k ((zs0.take k).map (Value.int .i64)) ∧ Below w.heap.size w wr)
    (fun _ i _ => zs0.length - (intOf i).toNat)
  case atStart => exact ⟨0, Nat.zero_le _, rfl, World.ownsRow_nil _ _ _ _, (Below.refl _ _).alloc (Nat.le_refl _) _⟩
  case round =>
    obtain ⟨k, hk, rfl, hown, hb⟩ := hrel
    have hbs := hb.size
    by_cases hlt : k < zs0.length
    · obtain ⟨b, off, rfl, hbw, hcx⟩ := hc k hlt
      have hcw := (hb.cell (p := ⟨b, off + k, none⟩) hbw).trans hcx
      obtain ⟨z, hz⟩ : ∃ z, z = zs0.getD k 0 := ⟨_, rfl⟩
      have hts := take_snoc zs0 k hlt
      rw [← hz] at hcw hts
      have HT : Hid (zs0.take (k + 1) = zs0.take k ++ [z]) := hts
      clear hts hcx hc hz
      go_wp2_with (at_builtin; refine append_one _ z rfl _ _ rfl w.heap.size _ k (zs0.take k) rfl hown rfl (by omega) (by omega) ?_; intro v' w1 ho1 hb1)
      go_roundw
      case rel => exact ⟨k + 1, by omega, by go_num, by rw [HT.out]; exact ho1, hb.trans hb1⟩
      case measure => simp [intOf]; omega
    · have he : zs0.take k = zs0 := List.take_of_length_le (by omega)
      obtain rfl : k = zs0.length := by omega
      rw [he] at hown
      clear he hc
      rcases facts zs0 a1 with ⟨v, u, e1, e2, e3, e4, e5⟩ | ⟨v, u, e1, e2, e3, e4, e5, e6⟩
      all_goals
        have hml : zs0.length ≤ maxLen := by unfold maxLen; omega
        have hml1 : zs0.length + 1 ≤ maxLen := by unfold maxLen; omega
        go_wp2_with (first
          | (go_at_call 9; refine (join_own w.heap.size (zs0.length + 1) _ (zs0 ++ [a1]) _ (by simp) hml1 ho1).mono ?_; rintro e w' ⟨rfl, rfl⟩)
          | (go_at_call 9; refine (join_own w.heap.size zs0.length _ zs0 _ rfl hml hown).mono ?_; rintro e w' ⟨rfl, rfl⟩)
          | (at_builtin; refine append_one _ a1 rfl _ _ rfl w.heap.size _ zs0.length zs0 rfl hown rfl (by omega) (by omega) ?_; intro v' w1 ho1 hb1)
          | (go_at_call 10; refine (flows_any _ _ _).mono ?_; rintro e w' ⟨rfl, rfl⟩))
        go_ret
        exact ⟨rfl, hb.trans hb1⟩

set_option maxRecDepth 100000 in
theorem contract (H : Type) (enc : TypeId × Value → H) (W : World) (base : Nat) (args : Array Value) (ds gs : List (DataW H)) (before : List MemPlace)
    (hval : ∀ (j : Nat) t v, Try.f6.params[j]? = some t → args[j]? = some v → Value.okWide Try.prog W .any base t v)
    (hW : DataW.Whole enc Try.prog Try.f6.params.toList Rows.labelMoreSpec.vars false W args.toList ds gs before) (hsz : (DataW.weightsEach Try.prog (Try.f6.params.toList ++ Rows.labelMoreSpec.plain.varTypes Try.prog) (ds ++ gs)).all (· ≤ reachBytes) = true) :
    Calls Try.prog 6 args W fun e W' => ∃ v, e = .returned v ∧ Rows.labelMoreSpec.post enc Try.prog Try.f6 false true false false W args v W' := by
  have hW' := hW
  obtain ⟨p, q, hA0, hV, rfl, hfz, hnd⟩ := hW
  have hA : DataW.TrodAll enc Try.prog W 0 (fun _ => true) true Try.f6.params.toList args.toList ds p := hA0
  rw [Try.params6] at hA hval hsz
  obtain ⟨v0, vs0, d0, ds0, p0, q0, hargs, rfl, rfl, h0, r0⟩ := trodAll_cons hA
  obtain ⟨v1, vs1, d1, ds1, p1, q1, rfl, rfl, rfl, h1, r1⟩ := trodAll_cons r0
  obtain ⟨rfl, rfl, rfl⟩ := trodAll_nil r1
  obtain rfl : args = #[v0, v1] := by cases args; simp_all
  obtain ⟨rfl, rfl⟩ := trodVars_none hV
  clear hA0
  simp only [List.append_nil] at hW'
  have hlt0 : ∀ x ∈ p0, x.block < W.heap.size := fun x hx => hW'.lt x (by simp [hx])
  have back0 : ∀ (W' : World), Below W.heap.size W W' → DataW.Trod enc Try.prog W' 0 (fun b => decide (b < W.heap.size)) true 22 v0 d0 p0 := fun W' hn => Below.trod Try.laidOut (by kernel_rfl) (of_decide_eq_true (by kernel_rfl)) h0 hn hlt0
  obtain ⟨zs0, i0, z0, f0⟩ := ints_open Try.underlying22 Try.underlying3 (by kernel_rfl) (hval 0 22 v0 rfl rfl) h0 hlt0
  have e0 : Try.prog.bytesOf 3 = 8 := by kernel_rfl
  have n0 : zs0.length * 8 ≤ 140737488351232 := by rw [← e0]; exact ints_reach hsz (j := 0) rfl rfl Try.underlying22 f0
  obtain ⟨a1, rfl, rfl, rfl, w1⟩ := open_int Try.underlying3 (hval 1 3 v1 rfl rfl) h1
  refine (walk v0 zs0 a1 W i0 z0 n0 w1).mono fun e W' ⟨he, hb⟩ => ?_
  subst he
  exact ⟨_, rfl, _, _, _, _, _, [], hW', (trodAll_cons_mk (shut_bool Try.underlying4 _) trodAll_mk0), (trodAll_cons_mk (back0 _ hb) (trodAll_cons_mk (shut_int Try.underlying3 w1) trodAll_mk0)), rfl, hb.frame _, fun h => by cases h⟩

set_option maxRecDepth 100000 in
theorem lifted (os : Os) (started : os.Started) (H : Type) (enc : TypeId × Value → H) :
    ReturnsInHanded {} Try.checked os 6 .any (Rows.labelMoreSpec.pre6 enc Try.prog Try.f6 Rows.labelMoreRow.domain false) (Rows.labelMoreSpec.post enc Try.prog Try.f6 false true false false) := by
  refine returnsInHanded_of_change_sized (C := Try.checked) Try.own started (by kernel_rfl) Try.func6
    (ChangeSpec.witness6 (enc := enc) (C := Try.checked) false ⟨#[], #[.slice none 0 0, .int .i64 0], []⟩ 8 (by kernel_rfl) (by kernel_rfl) (by kernel_rfl) (by kernel_rfl)) ?_
  intro W base args ds gs before hval hW _ hsz _
  exact contract H enc W base args ds gs before hval hW hsz

theorem over : Rows.labelMoreRow.holds Try.pinned (OpenSpec.ofChange Rows.labelMoreSpec) :=
  OpenClaim.holds_of_wide 6 Try.f6 rfl rfl rfl rfl rfl rfl rfl ⟨rfl, rfl, rfl, rfl, rfl⟩ rfl rfl rfl rfl rfl (by kernel_rfl) Try.func6 (by kernel_rfl)
    (of_decide_eq_true (by kernel_rfl)) (by unfold Func.isWrapper; first | (rw [if_pos (by decide +kernel)]; kernel_rfl) | (rw [if_neg (by decide +kernel)]; exact ⟨rfl, rfl⟩))
    (fun os started H enc _ => lifted os started H enc)

theorem proved : Rows.LabelMoreSaid :=
  over
#print axioms proved
end Go.Proofs.Ytflgmlkmlbcopaa.labelMore
