/- The law LabelParts returns true and leaves its arguments as they were: the label of two lists is that of the labels of both. Condition: what it reads is of bulk at most 1048576. -/
import Derived.Test.YtflgmlkmlbcopaaRows
import Derived.Test.YtflgmlkmlbcopaaFrame
import Derived.WalkKit
import Derived.ProofKit
import Derived.OpenShut
import Derived.JoinedCond
import Derived.Test.YtflgmlkmlbcopaaLabelPlain
import Derived.Test.YtflgmlkmlbcopaaLabelCalls
namespace Go.Proofs.Ytflgmlkmlbcopaa.labelParts
open Go.ChangeShapes Go.WideShapes Go.ChangeAt Go.RowKit
open Go.ChangeMaps (open_string shut_string)
set_option linter.unusedVariables false

theorem facts (xs ys : List Int) : joinI [joinI xs, joinI ys] = joinI (xs ++ ys) := (join_two xs ys).symm

theorem walk (v0 : Value) (zs0 : List Int) (v1 : Value) (zs1 : List Int) (w : World) (h0 : IntsAt w .i64 v0 zs0) (z0 : ∀ n ∈ zs0, (Lit.int .i64 n).wf = true) (n0 : zs0.length ≤ 1048576) (h1 : IntsAt w .i64 v1 zs1) (z1 : ∀ n ∈ zs1, (Lit.int .i64 n).wf = true) (n1 : zs1.length ≤ 1048576) :
    Calls Try.prog 7 #[v0, v1] w fun e w' => e = .returned (.bool true) ∧ Below w.heap.size w w' := by
  obtain ⟨ao, cap, rfl, hm, hc⟩ := h0
  obtain ⟨ao1, cap1, rfl, hm1, hc1⟩ := h1
  clear hm hm1
  have hjj := facts zs0 zs1
  go_enter Try.func7, Try.ntmps7
  go_wp2_with (go_at_call 8; refine (awake_any _).mono ?_; rintro e w' ⟨rfl, rfl⟩)
  go_loopw [5, 15] (fun v i wr => ∃ k : Nat, k ≤ zs0.length ∧ i = .int .i64 k ∧ wr.ownsRow w.heap.size 24 1 v k ((zs0.take k).map (Value.int .i64)) ∧ Below w.heap.size w wr)
    (fun _ i _ => zs0.length - (intOf i).toNat)
  case atStart => exact ⟨0, Nat.zero_le _, rfl, World.ownsRow_nil _ _ _ _, (Below.refl _ _).alloc (Nat.le_refl _) _⟩
  case round =>
    obtain ⟨k, hk, rfl, hown, hb⟩ := hrel
    have hbs := hb.size
    by_cases hlt : k < zs0.length
    · obtain ⟨b, off, rfl, hbw, hcx⟩ := hc k hlt
      have hcw := (hb.cell (p := ⟨b, off + k, none⟩) hbw).trans hcx
      obtain ⟨z, hz⟩ : ∃ z, z = zs0.getD k 0 := ⟨_, rfl⟩
      have hts := take_snoc zs0 k hlt
      rw [← hz] at hcw hts
      have HT : Hid (zs0.take (k + 1) = zs0.take k ++ [z]) := hts
      clear hts hcx hc hz hc1 hjj
      go_wp2_with (at_builtin; refine append_one _ z rfl _ _ rfl w.heap.size _ k (zs0.take k) rfl hown rfl (by omega) (by omega) ?_; intro v' w1 ho1 hb1)
      go_roundw
      case rel => exact ⟨k + 1, by omega, by go_num, by rw [HT.out]; exact ho1, hb.trans hb1⟩
      case measure => simp [intOf]; omega
    · have he : zs0.take k = zs0 := List.take_of_length_le (by omega)
      obtain rfl : k = zs0.length := by omega
      rw [he] at hown
      clear he hc
      go_wp2
      go_loopw [6, 26] (fun v i wq => ∃ k : Nat, k ≤ zs1.length ∧ i = .int .i64 k ∧ wq.ownsRow wr.heap.size 24 1 v k ((zs1.take k).map (Value.int .i64)) ∧ Below wr.heap.size wr wq)
        (fun _ i _ => zs1.length - (intOf i).toNat)
      case atStart => exact ⟨0, Nat.zero_le _, rfl, World.ownsRow_nil _ _ _ _, Below.refl _ _⟩
      case round =>
        obtain ⟨k, hk, rfl, hown2, hb2⟩ := hrel
        have hbs2 := hb2.size
        have hbq := hb.trans (hb2.mono hbs)
        by_cases hlt : k < zs1.length
        · obtain ⟨b, off, rfl, hbw, hcx⟩ := hc1 k hlt
          have hcw := (hbq.cell (p := ⟨b, off + k, none⟩) hbw).trans hcx
          obtain ⟨z, hz⟩ : ∃ z, z = zs1.getD k 0 := ⟨_, rfl⟩
          have hts := take_snoc zs1 k hlt
          rw [← hz] at hcw hts
          have HT : Hid (zs1.take (k + 1) = zs1.take k ++ [z]) := hts
          clear hts hcx hc1 hz hjj
          go_wp2_with (at_builtin; refine append_one _ z rfl _ _ rfl _ _ k (zs1.take k) rfl hown2 rfl (by omega) (by omega) ?_; intro v' w1 ho1 hb1)
          go_roundw
          case rel => exact ⟨k + 1, by omega, by go_num, by rw [HT.out]; exact ho1, hb2.trans hb1⟩
          case measure => simp [intOf]; omega
        · have he : zs1.take k = zs1 := List.take_of_length_le (by omega)
          obtain rfl : k = zs1.length := by omega
          rw [he] at hown2
          have hownx := owns_below hown (fun k hk => (hown.lt k hk).2) hb2
          have hml0 : zs0.length ≤ maxLen := by unfold maxLen; omega
          have hml1 : zs1.length ≤ maxLen := by unfold maxLen; omega
          have hmls : 0 + zs0.length + zs1.length ≤ maxLen := by unfold maxLen; omega
          clear he hc1 hown
          go_wp2_with (first
            | (at_builtin; refine append_all _ rfl _ (.tmp 35) rfl wr.heap.size _ 0 [] rfl (World.ownsRow_nil _ _ _ _) _ _ zs0.length zs0 rfl hownx (by omega) (Nat.le_refl _) ?_; intro v3 w3 ho3 hb3; have hb3s := hb3.size; have hx3 := owns_below hownx (fun k hk => (hownx.lt k hk).2) hb3; have hy3 := owns_below hown2 (fun k hk => (hown2.lt k hk).2) hb3)
            | (at_builtin; refine append_all _ rfl _ (.tmp 37) rfl _ _ _ _ rfl ho3 _ _ _ zs1 rfl hy3 (by omega) hb3s ?_; intro v4 w4 ho4 hb4; have hx4 := owns_below hx3 (fun k hk => (hownx.lt k hk).2) hb4; have hy4 := owns_below hy3 (fun k hk => (hown2.lt k hk).2) hb4)
            | (go_at_call 9; refine Calls.mono (join_own _ _ _ ([] ++ zs0 ++ zs1) _ (by simp) hmls ho4) ?_; rintro e w' ⟨rfl, rfl⟩)
            | (go_at_call 9; refine Calls.mono (join_own _ _ _ zs0 _ rfl hml0 hx4) ?_; rintro e w' ⟨rfl, rfl⟩)
            | (go_at_call 9; refine Calls.mono (join_own _ _ _ zs1 _ rfl hml1 hy4) ?_; rintro e w' ⟨rfl, rfl⟩)
            | (go_at_call 9; refine (join_new _ _ _ _ _ (by simp)).mono ?_; rintro e w' ⟨rfl, rfl⟩))
          go_ret
          exact ⟨ret_bool (by simp), (((hbq.trans (hb3.mono (by omega))).trans (hb4.mono (by omega))).alloc (by have := hb4.size; omega) _)⟩

set_option maxRecDepth 100000 in
theorem contract (H : Type) (enc : TypeId × Value → H) (W : World) (base : Nat) (args : Array Value) (ds gs : List (DataW H)) (before : List MemPlace)
    (hval : ∀ (j : Nat) t v, Try.f7.params[j]? = some t → args[j]? = some v → Value.okWide Try.prog W .any base t v)
    (hW : DataW.Whole enc Try.prog Try.f7.params.toList Rows.labelPartsSpec.vars false W args.toList ds gs before) (hk : Rows.uptoSmall H (ds ++ gs) = true) :
    Calls Try.prog 7 args W fun e W' => ∃ v, e = .returned v ∧ Rows.labelPartsSpec.post enc Try.prog Try.f7 false true false false W args v W' := by
  have hW' := hW
  obtain ⟨p, q, hA0, hV, rfl, hfz, hnd⟩ := hW
  have hA : DataW.TrodAll enc Try.prog W 0 (fun _ => true) true Try.f7.params.toList args.toList ds p := hA0
  rw [Try.params7] at hA hval
  obtain ⟨v0, vs0, d0, ds0, p0, q0, hargs, rfl, rfl, h0, r0⟩ := trodAll_cons hA
  obtain ⟨v1, vs1, d1, ds1, p1, q1, rfl, rfl, rfl, h1, r1⟩ := trodAll_cons r0
  obtain ⟨rfl, rfl, rfl⟩ := trodAll_nil r1
  obtain rfl : args = #[v0, v1] := by cases args; simp_all
  obtain ⟨rfl, rfl⟩ := trodVars_none hV
  clear hA0
  simp only [List.append_nil] at hW' hk
  have hlt0 : ∀ x ∈ p0, x.block < W.heap.size := fun x hx => hW'.lt x (by simp [hx])
  have back0 : ∀ (W' : World), Below W.heap.size W W' → DataW.Trod enc Try.prog W' 0 (fun b => decide (b < W.heap.size)) true 22 v0 d0 p0 := fun W' hn => Below.trod Try.laidOut (by kernel_rfl) (of_decide_eq_true (by kernel_rfl)) h0 hn hlt0
  obtain ⟨zs0, i0, z0, f0⟩ := ints_open Try.underlying22 Try.underlying3 (by kernel_rfl) (hval 0 22 v0 rfl rfl) h0 hlt0
  have hlt1 : ∀ x ∈ p1, x.block < W.heap.size := fun x hx => hW'.lt x (by simp [hx])
  have back1 : ∀ (W' : World), Below W.heap.size W W' → DataW.Trod enc Try.prog W' 0 (fun b => decide (b < W.heap.size)) true 22 v1 d1 p1 := fun W' hn => Below.trod Try.laidOut (by kernel_rfl) (of_decide_eq_true (by kernel_rfl)) h1 hn hlt1
  obtain ⟨zs1, i1, z1, f1⟩ := ints_open Try.underlying22 Try.underlying3 (by kernel_rfl) (hval 1 22 v1 rfl rfl) h1 hlt1
  have n0 : zs0.length ≤ 1048576 := ints_few hk (by simp) f0
  have n1 : zs1.length ≤ 1048576 := ints_few hk (by simp) f1
  refine (walk v0 zs0 v1 zs1 W i0 z0 n0 i1 z1 n1).mono fun e W' ⟨he, hb⟩ => ?_
  subst he
  exact ⟨_, rfl, _, _, _, _, _, [], hW', (trodAll_cons_mk (shut_bool Try.underlying4 _) trodAll_mk0), (trodAll_cons_mk (back0 _ hb) (trodAll_cons_mk (back1 _ hb) trodAll_mk0)), rfl, hb.frame _, fun h => by cases h⟩

set_option maxRecDepth 100000 in
theorem lifted (os : Os) (started : os.Started) (H : Type) (enc : TypeId × Value → H) (F : Stop.Interp) :
    ReturnsInHanded {} Try.checked os 7 .any ((Rows.OpenSpec.upto Rows.labelPartsSpec).pre6 enc Try.prog Try.f7 Rows.labelPartsUptoRow.domain false) (((Rows.OpenSpec.upto Rows.labelPartsSpec).at F).post enc Try.prog Try.f7 false true false false) := by
  refine returnsInHanded_of_cond (C := Try.checked) (s := (Rows.OpenSpec.upto Rows.labelPartsSpec)) (k := Rows.uptoSmall) rfl Try.own started (by kernel_rfl) Try.func7
    (OpenSpec.witness (enc := enc) (C := Try.checked) (s := (Rows.OpenSpec.upto Rows.labelPartsSpec)) (k := Rows.uptoSmall) rfl false ⟨#[], #[.slice none 0 0, .slice none 0 0], []⟩ 8 (by kernel_rfl) (by kernel_rfl) (by kernel_rfl)
      (x := ([.nil, .nil], [], [])) (by kernel_rfl) rfl (by kernel_rfl)) ?_
  intro W base args ds gs before hval hW _ hk _
  exact contract H enc W base args ds gs before hval hW hk

theorem over : Rows.labelPartsUptoRow.holds Try.pinned (Rows.OpenSpec.upto Rows.labelPartsSpec) :=
  OpenClaim.holds_of_cond 7 Try.f7 rfl rfl rfl rfl rfl rfl rfl ⟨rfl, rfl, rfl, rfl, rfl⟩ rfl rfl rfl rfl rfl (by kernel_rfl) Try.func7 (by kernel_rfl)
    (of_decide_eq_true (by kernel_rfl)) (by unfold Func.isWrapper; first | (rw [if_pos (by decide +kernel)]; kernel_rfl) | (rw [if_neg (by decide +kernel)]; exact ⟨rfl, rfl⟩))
    (fun os started H enc _ F => lifted os started H enc F)

theorem proved : Rows.LabelPartsUptoSaid :=
  over
#print axioms proved
end Go.Proofs.Ytflgmlkmlbcopaa.labelParts
