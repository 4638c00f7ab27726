/- What touched, operator and sound of package code answer. Conditions: as each theorem says. -/
import Derived.Test.YtjiecfagblijhaaDoorCdUses
namespace Go.Proofs.YtjiecfagblijhaaDoor.Cd
open Go.ChangeShapes Go.WideShapes Go.ChangeAt Go.RowKit
set_option linter.unusedVariables false
set_option linter.unusedSimpArgs false

theorem uses_len (x : Cd) : (usesP x).length ≤ 3 := by
  unfold usesP
  repeat' split
  all_goals simp
theorem touched_len (x : Cd) : (touchedP x).length ≤ 4 := by
  have := uses_len x
  unfold touchedP
  split <;> simp <;> omega
/-- A number more at a slice's end. -/
theorem Own.more {w w' : World} {B : Nat} {v v' : Value} {zs : List Int} {z : Int} (h : w'.ownsRow B 3 1 v' (zs.length + 1) (zs.map (Value.int .i64) ++ [.int .i64 z])) : Own w' B v' (zs ++ [z]) := by
  unfold Own
  rw [List.map_append, List.length_append]
  exact h

set_option maxHeartbeats 4000000 in
set_option maxRecDepth 100000 in
theorem touched_any (x : Cd) (w : World) : Calls Tryd.prog 24 #[.agg #[.int .i64 x.op, .int .i64 x.dop, .int .i64 x.to, .int .i64 x.a, .int .i64 x.b, .int .i64 x.c, .int .u64 x.v, .int .i64 x.t]] w fun e w' => ∃ v, e = .returned v ∧ Own w' w.heap.size v (touchedP x) ∧ Below w.heap.size w w' := by
  have hb1 := fun o => (Below.refl w.heap.size w).alloc (Nat.le_refl _) o
  have PU := fun w1 => uses_any x w1
  have PD := fun w1 => defines_any x w1
  have hl := uses_len x
  obtain ⟨i0, hi, hz0, hz1, hz2⟩ := infoInt
  obtain ⟨U, hU⟩ : ∃ U, U = usesP x := ⟨_, rfl⟩
  have hT : touchedP x = U ++ (if setsB x.op then [x.to] else []) := by rw [hU]; rfl
  rw [hT]
  rw [← hU] at PU hl
  obtain ⟨op, dop, to, a, b, c, v, t⟩ := x
  simp only at PU PD ⊢
  clear hT hU
  have HB := Lib.hid (show (w.alloc (.cells #[.int .i64 op, .int .i64 dop, .int .i64 to, .int .i64 a, .int .i64 b, .int .i64 c, .int .u64 v, .int .i64 t] 26)).heap[w.heap.size]? = some (.cells #[.int .i64 op, .int .i64 dop, .int .i64 to, .int .i64 a, .int .i64 b, .int .i64 c, .int .u64 v, .int .i64 t] 26 (0, 0)) by rw [alloc_at, if_pos rfl])
  by_cases hs : setsB op = true
  · simp only [hs, if_true] at PD ⊢
    go_enter Tryd.func24, Tryd.ntmps24
    go_wp2_with (first
      | (go_at_call 13; refine (PU _).mono ?_; rintro ed w2 ⟨v2, rfl, ho, hb⟩; obtain ⟨x0, x1, x2, x3, x4, x5, x6, x7⟩ := code_cells (keepB hb HB.out))
      | (go_at_call 9; refine (PD _).mono ?_; rintro ed w3 ⟨rfl, hb3⟩)
      | (refine wpList_append_lies _ rfl _ _ _ rfl w.heap.size 3 i0 (.int .i64 0) 1 8 Tryd.underlying34 hi hz0 hz1 hz2 rfl (by decide) _ U.length (U.map (Value.int .i64)) rfl (((ho.base (by simp)).on hb3).on ((Below.refl _ _).alloc (Nat.le_refl _) _)) ⟨w3.heap.size, 0, none⟩ 1 1 [.int .i64 to] rfl rfl (World.news_of_block (fr := (0, 0)) (t := 3) (by rw [alloc_at, if_pos rfl])) (by simp [Value.oneCell']) (by decide) (by unfold maxLen; omega) (by omega) (by have h1 := hb.size; have h2 := hb3.size; simp at h1 ⊢; omega) _ rfl ?_; intro g cap w4 hown hgrow hat hlt))
    go_ret
    have hBx : Below w.heap.size w w3 := (hb1 _).trans ((hb.trans (hb3.mono hb.size)).mono (by simp))
    have hBy := fun o => hBx.alloc hBx.size o
    have hOw := ((ho.base (B' := w.heap.size) (by simp)).on hb3).on ((Below.refl _ _).alloc (Nat.le_refl _) (.cells #[.int .i64 to] 3))
    exact ⟨_, rfl, Own.more (w := w) (v := v2) hown, (hBy _).grown hgrow (hBy _).size (fun k hk => (hOw.lt k hk).1)⟩
  · simp only [hs] at PD ⊢
    go_enter Tryd.func24, Tryd.ntmps24
    go_wp2_with (first
      | (go_at_call 13; refine (PU _).mono ?_; rintro ed w2 ⟨v2, rfl, ho, hb⟩; obtain ⟨x0, x1, x2, x3, x4, x5, x6, x7⟩ := code_cells (keepB hb HB.out))
      | (go_at_call 9; refine (PD _).mono ?_; rintro ed w3 ⟨rfl, hb3⟩))
    go_ret
    refine ⟨_, rfl, ?_, (hb1 _).trans ((hb.trans (hb3.mono hb.size)).mono (by simp))⟩
    exact (ho.base (by simp)).on hb3

theorem ops_cases (o : Int) : o = 0 ∨ o = 1 ∨ o = 2 ∨ o = 3 ∨ o = 4 ∨ o = 5 ∨ o = 6 ∨ o = 7 ∨ o = 8 ∨ o = 9 ∨ (¬ o = 0 ∧ ¬ o = 1 ∧ ¬ o = 2 ∧ ¬ o = 3 ∧ ¬ o = 4 ∧ ¬ o = 5 ∧ ¬ o = 6 ∧ ¬ o = 7 ∧ ¬ o = 8 ∧ ¬ o = 9) := by omega
def tightI (o : Int) : Int := if o = 2 then 7 else if o = 0 ∨ o = 1 then 6 else if o = 6 ∨ o = 7 then 5 else if o = 3 then 4 else if o = 8 ∨ o = 9 then 3 else if o = 5 then 2 else if o = 4 then 1 else 0
set_option maxHeartbeats 4000000 in
set_option maxRecDepth 100000 in
theorem tight_any (o : Int) (w : World) :
    Calls Tryd.prog 32 #[.int .i64 o] w fun e w' => e = .returned (.int .i64 (tightI o)) ∧ w' = w := by
  rcases ops_cases o with rfl | rfl | rfl | rfl | rfl | rfl | rfl | rfl | rfl | rfl | ⟨e0, e1, e2, e3, e4, e5, e6, e7, e8, e9⟩
  case inr.inr.inr.inr.inr.inr.inr.inr.inr.inr =>
    have ht : tightI o = 0 := by simp [tightI, *]
    go_enter Tryd.func32, Tryd.ntmps32
    go_wp2
    go_ret
    exact ⟨by rw [ht]; rfl, rfl⟩
  all_goals
    go_enter Tryd.func32, Tryd.ntmps32
    go_wp2
    go_ret
    exact ⟨rfl, rfl⟩
theorem tight_op (o : Int) : decide (0 < tightI o) = opB o := by
  rcases ops_cases o with rfl | rfl | rfl | rfl | rfl | rfl | rfl | rfl | rfl | rfl | h
  case inr.inr.inr.inr.inr.inr.inr.inr.inr.inr =>
    obtain ⟨e0, e1, e2, e3, e4, e5, e6, e7, e8, e9⟩ := h
    have h1 : tightI o = 0 := by simp [tightI, *]
    have h2 : opB o = false := by
      unfold opB
      rw [Bool.and_eq_false_iff]
      simp only [decide_eq_false_iff_not]
      omega
    rw [h1, h2]; rfl
  all_goals rfl
set_option maxHeartbeats 4000000 in
set_option maxRecDepth 100000 in
theorem operator_any (o : Int) (w : World) :
    Calls Tryd.prog 27 #[.int .i64 o] w fun e w' => e = .returned (.bool (opB o)) ∧ w' = w := by
  have h := tight_op o
  obtain ⟨T, hT⟩ : ∃ T, T = tightI o := ⟨_, rfl⟩
  have PT := fun w1 => tight_any o w1
  rw [← hT] at PT h
  rw [← h]
  clear hT h
  go_enter Tryd.func27, Tryd.ntmps27
  go_wp2_with (go_at_call 32; refine (PT _).mono ?_; rintro ed w2 ⟨rfl, rfl⟩)
  go_ret
  exact ⟨ret_bool (by simp), rfl⟩

theorem take_snoc' {α : Type} {ds : List α} {k : Nat} {d : α} (h : ds[k]? = some d) : ds.take (k + 1) = ds.take k ++ [d] := by
  rw [List.take_add_one, h]; rfl
theorem all_bad {U : List Int} {k : Nat} {z : Int} (h : U[k]? = some z) (hz : okV z = false) : U.all okV = false := by
  rw [Bool.eq_false_iff]
  intro e
  have := List.all_eq_true.1 e z (List.mem_of_getElem? h)
  rw [hz] at this; cases this
theorem okV_no {z : Int} (h : z < 0 ∨ 65535 < z) : okV z = false := by
  unfold okV
  rw [Bool.and_eq_false_iff]
  simp only [decide_eq_false_iff_not]
  omega
theorem okV_yes {z : Int} (h0 : 0 ≤ z) (h1 : z ≤ 65535) : (true && [z].all okV) = true := by simp [okV, h0, h1]
set_option maxHeartbeats 4000000 in
set_option maxRecDepth 100000 in
/-- sound, where all but the values is right: the values alone are looked at. -/
theorem sound_loop (x : Cd) (n : Int) (w : World) (h0 : ¬ x.op < 0) (h1 : ¬ 13 < x.op) (h2 : x.op = 2 → opB x.dop = true) (h3 : jumpsB x.op = true → ¬ x.t < 0 ∧ ¬ n ≤ x.t) :
    Calls Tryd.prog 23 #[.agg #[.int .i64 x.op, .int .i64 x.dop, .int .i64 x.to, .int .i64 x.a, .int .i64 x.b, .int .i64 x.c, .int .u64 x.v, .int .i64 x.t], .int .i64 n] w fun e w' => e = .returned (.bool ((touchedP x).all okV)) ∧ Below w.heap.size w w' := by
  have hb1 := fun o => (Below.refl w.heap.size w).alloc (Nat.le_refl _) o
  have PT := fun w1 => touched_any x w1
  have PJ := fun w1 => jumps_any x w1
  have hl := touched_len x
  obtain ⟨U, hU⟩ : ∃ U, U = touchedP x := ⟨_, rfl⟩
  rw [← hU] at PT hl ⊢
  obtain ⟨op, dop, to, a, b, c, v, t⟩ := x
  simp only at PT PJ h0 h1 h2 h3 ⊢
  clear hU
  have PO := fun w1 => operator_any dop w1
  have HB := Lib.hid (show (w.alloc (.cells #[.int .i64 op, .int .i64 dop, .int .i64 to, .int .i64 a, .int .i64 b, .int .i64 c, .int .u64 v, .int .i64 t] 26)).heap[w.heap.size]? = some (.cells #[.int .i64 op, .int .i64 dop, .int .i64 to, .int .i64 a, .int .i64 b, .int .i64 c, .int .u64 v, .int .i64 t] 26 (0, 0)) by rw [alloc_at, if_pos rfl])
  by_cases e2 : op = 2
  · subst e2
    have ho := h2 rfl
    rw [ho] at PO
    clear h0 h1 h2 h3 ho
    simp only [show jumpsB 2 = false from rfl, show goesB 2 = true from rfl] at PJ
    go_enter Tryd.func23, Tryd.ntmps23
    go_wp2_with (first
      | (go_at_call 27; refine (PO _).mono ?_; rintro ed w0 ⟨rfl, rfl⟩)
      | (go_at_call 24; refine (PT _).mono ?_; rintro ed w3 ⟨v3, rfl, ho3, hb3⟩; obtain ⟨ao, cap3, rfl, hm3, hc3⟩ := ho3.form; have HC := Lib.hid hc3; clear hc3)
      | (go_at_call 10; refine (PJ _).mono ?_; rintro ed w2 ⟨rfl, hb2⟩; obtain ⟨x0, x1, x2, x3, x4, x5, x6, x7⟩ := code_cells (keepB hb2 HB.out)))
    go_loop [46] (fun i => ∃ k : Nat, k ≤ U.length ∧ i = .int .i64 k ∧ (U.take k).all okV = true) (fun i => U.length - (intOf i).toNat)
    case atStart => exact ⟨0, Nat.zero_le _, rfl, rfl⟩
    case round =>
      obtain ⟨k, hk, rfl, hj⟩ := hrel
      by_cases hlt : k < U.length
      · obtain ⟨z, hz⟩ : ∃ z, U[k]? = some z := ⟨U[k], by simp [hlt]⟩
        obtain ⟨g, rfl, hg1, hg2, hcz⟩ := HC.out k z hz
        have HT := Lib.hid (take_snoc' hz)
        have HJ := Lib.hid hj
        have HZ := Lib.hid hz
        clear hj hz
        by_cases z0 : z < 0
        · go_wp2
          go_ret
          exact ⟨ret_bool (all_bad HZ.out (okV_no (.inl z0))).symm, (hb1 _).trans ((hb2.trans (hb3.mono hb2.size)).mono (by simp))⟩
        · by_cases z1 : 65535 < z
          · go_wp2
            go_ret
            exact ⟨ret_bool (all_bad HZ.out (okV_no (.inr z1))).symm, (hb1 _).trans ((hb2.trans (hb3.mono hb2.size)).mono (by simp))⟩
          · go_wp2
            go_round
            case rel => exact ⟨k + 1, by omega, by go_num, by rw [HT.out, List.all_append, HJ.out]; exact okV_yes (by omega) (by omega)⟩
            case measure => simp [intOf]; omega
      · have he : U.take k = U := List.take_of_length_le (by omega)
        rw [he] at hj
        have HJ := Lib.hid hj
        clear hj he
        go_wp2
        go_ret
        exact ⟨ret_bool HJ.out.symm, (hb1 _).trans ((hb2.trans (hb3.mono hb2.size)).mono (by simp))⟩
  · clear h2 PO
    obtain ⟨G, hG⟩ : ∃ G, G = goesB op := ⟨_, rfl⟩
    obtain ⟨J, hJ⟩ : ∃ J, J = jumpsB op := ⟨_, rfl⟩
    rw [← hJ] at PJ h3
    rw [← hG] at PJ
    clear hJ hG
    cases J with
    | false =>
      clear h3
      go_enter Tryd.func23, Tryd.ntmps23
      go_wp2_with (first
        | (go_at_call 24; refine (PT _).mono ?_; rintro ed w3 ⟨v3, rfl, ho3, hb3⟩; obtain ⟨ao, cap3, rfl, hm3, hc3⟩ := ho3.form; have HC := Lib.hid hc3; clear hc3)
        | (go_at_call 10; refine (PJ _).mono ?_; rintro ed w2 ⟨rfl, hb2⟩; obtain ⟨x0, x1, x2, x3, x4, x5, x6, x7⟩ := code_cells (keepB hb2 HB.out)))
      go_loop [46] (fun i => ∃ k : Nat, k ≤ U.length ∧ i = .int .i64 k ∧ (U.take k).all okV = true) (fun i => U.length - (intOf i).toNat)
      case atStart => exact ⟨0, Nat.zero_le _, rfl, rfl⟩
      case round =>
        obtain ⟨k, hk, rfl, hj⟩ := hrel
        by_cases hlt : k < U.length
        · obtain ⟨z, hz⟩ : ∃ z, U[k]? = some z := ⟨U[k], by simp [hlt]⟩
          obtain ⟨g, rfl, hg1, hg2, hcz⟩ := HC.out k z hz
          have HT := Lib.hid (take_snoc' hz)
          have HJ := Lib.hid hj
          have HZ := Lib.hid hz
          clear hj hz
          by_cases z0 : z < 0
          · go_wp2
            go_ret
            exact ⟨ret_bool (all_bad HZ.out (okV_no (.inl z0))).symm, (hb1 _).trans ((hb2.trans (hb3.mono hb2.size)).mono (by simp))⟩
          · by_cases z1 : 65535 < z
            · go_wp2
              go_ret
              exact ⟨ret_bool (all_bad HZ.out (okV_no (.inr z1))).symm, (hb1 _).trans ((hb2.trans (hb3.mono hb2.size)).mono (by simp))⟩
            · go_wp2
              go_round
              case rel => exact ⟨k + 1, by omega, by go_num, by rw [HT.out, List.all_append, HJ.out]; exact okV_yes (by omega) (by omega)⟩
              case measure => simp [intOf]; omega
        · have he : U.take k = U := List.take_of_length_le (by omega)
          rw [he] at hj
          have HJ := Lib.hid hj
          clear hj he
          go_wp2
          go_ret
          exact ⟨ret_bool HJ.out.symm, (hb1 _).trans ((hb2.trans (hb3.mono hb2.size)).mono (by simp))⟩
    | true =>
      obtain ⟨t0, t1⟩ := h3 rfl
      clear h3
      go_enter Tryd.func23, Tryd.ntmps23
      go_wp2_with (first
        | (go_at_call 24; refine (PT _).mono ?_; rintro ed w3 ⟨v3, rfl, ho3, hb3⟩; obtain ⟨ao, cap3, rfl, hm3, hc3⟩ := ho3.form; have HC := Lib.hid hc3; clear hc3)
        | (go_at_call 10; refine (PJ _).mono ?_; rintro ed w2 ⟨rfl, hb2⟩; obtain ⟨x0, x1, x2, x3, x4, x5, x6, x7⟩ := code_cells (keepB hb2 HB.out)))
      go_loop [46] (fun i => ∃ k : Nat, k ≤ U.length ∧ i = .int .i64 k ∧ (U.take k).all okV = true) (fun i => U.length - (intOf i).toNat)
      case atStart => exact ⟨0, Nat.zero_le _, rfl, rfl⟩
      case round =>
        obtain ⟨k, hk, rfl, hj⟩ := hrel
        by_cases hlt : k < U.length
        · obtain ⟨z, hz⟩ : ∃ z, U[k]? = some z := ⟨U[k], by simp [hlt]⟩
          obtain ⟨g, rfl, hg1, hg2, hcz⟩ := HC.out k z hz
          have HT := Lib.hid (take_snoc' hz)
          have HJ := Lib.hid hj
          have HZ := Lib.hid hz
          clear hj hz
          by_cases z0 : z < 0
          · go_wp2
            go_ret
            exact ⟨ret_bool (all_bad HZ.out (okV_no (.inl z0))).symm, (hb1 _).trans ((hb2.trans (hb3.mono hb2.size)).mono (by simp))⟩
          · by_cases z1 : 65535 < z
            · go_wp2
              go_ret
              exact ⟨ret_bool (all_bad HZ.out (okV_no (.inr z1))).symm, (hb1 _).trans ((hb2.trans (hb3.mono hb2.size)).mono (by simp))⟩
            · go_wp2
              go_round
              case rel => exact ⟨k + 1, by omega, by go_num, by rw [HT.out, List.all_append, HJ.out]; exact okV_yes (by omega) (by omega)⟩
              case measure => simp [intOf]; omega
        · have he : U.take k = U := List.take_of_length_le (by omega)
          rw [he] at hj
          have HJ := Lib.hid hj
          clear hj he
          go_wp2
          go_ret
          exact ⟨ret_bool HJ.out.symm, (hb1 _).trans ((hb2.trans (hb3.mono hb2.size)).mono (by simp))⟩

set_option maxHeartbeats 4000000 in
set_option maxRecDepth 100000 in
/-- sound, where something but the values is wrong. -/
theorem sound_bad (x : Cd) (n : Int) (w : World) (h : x.op < 0 ∨ 13 < x.op ∨ (x.op = 2 ∧ opB x.dop = false) ∨ (jumpsB x.op = true ∧ (x.t < 0 ∨ n ≤ x.t))) :
    Calls Tryd.prog 23 #[.agg #[.int .i64 x.op, .int .i64 x.dop, .int .i64 x.to, .int .i64 x.a, .int .i64 x.b, .int .i64 x.c, .int .u64 x.v, .int .i64 x.t], .int .i64 n] w fun e w' => e = .returned (.bool false) ∧ Below w.heap.size w w' := by
  have hb1 := fun o => (Below.refl w.heap.size w).alloc (Nat.le_refl _) o
  have PJ := fun w1 => jumps_any x w1
  obtain ⟨op, dop, to, a, b, c, v, t⟩ := x
  simp only at PJ h ⊢
  have PO := fun w1 => operator_any dop w1
  have HB := Lib.hid (show (w.alloc (.cells #[.int .i64 op, .int .i64 dop, .int .i64 to, .int .i64 a, .int .i64 b, .int .i64 c, .int .u64 v, .int .i64 t] 26)).heap[w.heap.size]? = some (.cells #[.int .i64 op, .int .i64 dop, .int .i64 to, .int .i64 a, .int .i64 b, .int .i64 c, .int .u64 v, .int .i64 t] 26 (0, 0)) by rw [alloc_at, if_pos rfl])
  by_cases h0 : op < 0
  · clear h
    go_enter Tryd.func23, Tryd.ntmps23
    go_wp2
    go_ret
    exact ⟨rfl, hb1 _⟩
  by_cases h1 : 13 < op
  · clear h
    go_enter Tryd.func23, Tryd.ntmps23
    go_wp2
    go_ret
    exact ⟨rfl, hb1 _⟩
  rcases h with h | h | ⟨rfl, h⟩ | ⟨hJ, h⟩
  · exact absurd h h0
  · exact absurd h h1
  · rw [h] at PO
    clear h h0 h1
    go_enter Tryd.func23, Tryd.ntmps23
    go_wp2_with (go_at_call 27; refine (PO _).mono ?_; rintro ed w0 ⟨rfl, rfl⟩)
    go_ret
    exact ⟨rfl, hb1 _⟩
  · have e2 : ¬ op = 2 := fun e => by subst e; cases hJ
    obtain ⟨G, hG⟩ : ∃ G, G = goesB op := ⟨_, rfl⟩
    rw [← hG, hJ] at PJ
    clear hG hJ
    by_cases t0 : t < 0
    · clear h
      go_enter Tryd.func23, Tryd.ntmps23
      go_wp2_with (go_at_call 10; refine (PJ _).mono ?_; rintro ed w2 ⟨rfl, hb2⟩; obtain ⟨x0, x1, x2, x3, x4, x5, x6, x7⟩ := code_cells (keepB hb2 HB.out))
      go_ret
      exact ⟨rfl, (hb1 _).trans (hb2.mono (by simp))⟩
    · have t1 : n ≤ t := h.resolve_left t0
      clear h
      go_enter Tryd.func23, Tryd.ntmps23
      go_wp2_with (go_at_call 10; refine (PJ _).mono ?_; rintro ed w2 ⟨rfl, hb2⟩; obtain ⟨x0, x1, x2, x3, x4, x5, x6, x7⟩ := code_cells (keepB hb2 HB.out))
      go_ret
      exact ⟨rfl, (hb1 _).trans (hb2.mono (by simp))⟩

theorem sound_any (x : Cd) (n : Int) (w : World) :
    Calls Tryd.prog 23 #[.agg #[.int .i64 x.op, .int .i64 x.dop, .int .i64 x.to, .int .i64 x.a, .int .i64 x.b, .int .i64 x.c, .int .u64 x.v, .int .i64 x.t], .int .i64 n] w fun e w' => e = .returned (.bool (soundB x n)) ∧ Below w.heap.size w w' := by
  by_cases h : x.op < 0 ∨ 13 < x.op ∨ (x.op = 2 ∧ opB x.dop = false) ∨ (jumpsB x.op = true ∧ (x.t < 0 ∨ n ≤ x.t))
  · have hs : soundB x n = false := by
      unfold soundB
      rw [Bool.eq_false_iff]
      intro e
      simp only [Bool.and_eq_true, decide_eq_true_eq, Bool.not_eq_true', Bool.and_eq_false_iff, beq_eq_false_iff_ne, Bool.not_eq_false', Bool.or_eq_false_iff, decide_eq_false_iff_not] at e
      obtain ⟨⟨⟨⟨a1, a2⟩, a3⟩, a4⟩, _⟩ := e
      rcases h with h | h | ⟨h, h'⟩ | ⟨h, h'⟩
      · omega
      · omega
      · rcases a3 with a3 | a3
        · exact a3 h
        · rw [h'] at a3; cases a3
      · rcases a4 with a4 | a4
        · rw [h] at a4; cases a4
        · omega
    rw [hs]
    exact sound_bad x n w h
  · have h0 : ¬ x.op < 0 := fun e => h (.inl e)
    have h1 : ¬ 13 < x.op := fun e => h (.inr (.inl e))
    have h2 : x.op = 2 → opB x.dop = true := fun e => by
      cases e2 : opB x.dop
      · exact absurd (.inr (.inr (.inl ⟨e, e2⟩))) h
      · rfl
    have h3 : jumpsB x.op = true → ¬ x.t < 0 ∧ ¬ n ≤ x.t := fun e => ⟨fun e' => h (.inr (.inr (.inr ⟨e, .inl e'⟩))), fun e' => h (.inr (.inr (.inr ⟨e, .inr e'⟩)))⟩
    have hs : soundB x n = (touchedP x).all okV := by
      have a1 : decide (0 ≤ x.op) = true := by simp; omega
      have a2 : decide (x.op ≤ 13) = true := by simp; omega
      have a3 : (x.op == 2 && !opB x.dop) = false := by
        rw [Bool.and_eq_false_iff]
        by_cases e : x.op = 2
        · right; rw [h2 e]; rfl
        · left; simpa using e
      have a4 : (jumpsB x.op && (decide (x.t < 0) || decide (n ≤ x.t))) = false := by
        cases e : jumpsB x.op
        · rfl
        · obtain ⟨b1, b2⟩ := h3 e
          rw [decide_eq_false b1, decide_eq_false b2]; rfl
      unfold soundB
      rw [a1, a2, a3, a4]
      simp
    rw [hs]
    exact sound_loop x n w h0 h1 h2 h3
end Go.Proofs.YtjiecfagblijhaaDoor.Cd
