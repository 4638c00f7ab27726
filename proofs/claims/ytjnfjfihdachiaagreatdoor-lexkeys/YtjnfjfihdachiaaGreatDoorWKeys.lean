/- The walk of the statement LexKeys. Conditions: the package variables hold what their initialisers lay. -/
import Derived.Test.YtjnfjfihdachiaaGreatDoorLexKeyC
import Derived.Test.YtjnfjfihdachiaaGreatDoorLexAwake
namespace Go.Proofs.YtjnfjfihdachiaaGreatDoor
open Go.ChangeShapes Go.WideShapes Go.ChangeAt Go.RowKit
set_option linter.unusedVariables false

theorem key_cuts (i : Fin 15) : cutAll (keyWords.getD i.val []) = .ok [⟨2, keyWords.getD i.val [], 0, 0⟩, ⟨0, [], 0, (keyWords.getD i.val []).length⟩] :=
  @of_decide_eq_true _ (resDec _ _) ((show ∀ i : Fin 15, @decide (cutAll (keyWords.getD i.val []) = .ok [⟨2, keyWords.getD i.val [], 0, 0⟩, ⟨0, [], 0, (keyWords.getD i.val []).length⟩]) (resDec _ _) = true from by decide +kernel) i)
theorem key_is : ∀ i : Fin 15, keyB (keyWords.getD i.val []) = true := by decide
theorem key_count (l : List UInt8) : keyWords.count l = if keyB l then 1 else 0 := by
  have hn : keyWords.Nodup := by decide
  rw [hn.count]
  simp [keyB]
theorem key_count_step (k : Nat) (h : k < 15) (l : List UInt8) : (keyWords.take (k + 1)).count l = (keyWords.take k).count l + if keyWords.getD k [] = l then 1 else 0 := by
  have h' : k < keyWords.length := h
  rw [List.take_succ_eq_append_getElem h', List.count_append]
  have e : keyWords.getD k [] = keyWords[k] := by simp [List.getD, h']
  rw [e, List.count_singleton]
  simp
/-- lex.Cut at a key. -/
theorem cut_key (k : Nat) (hk : k < 15) (t : ByteArray) (ht : Hid (t = bstr (keyWords.getD k []))) (w : World) (hV : Vars w) :
    Calls Tryz.prog 11 #[.string t] w fun e w' => ∃ g cap, e = .returned (.tuple #[.slice (some ⟨g, 0, none⟩) 2 cap, .nilIface]) ∧ w'.cell? ⟨g, 0, none⟩ = some (.int .i64 2) ∧ 2 ≤ cap ∧ Below w.heap.size w w' := by
  have h := key_cuts ⟨k, hk⟩
  have hl := keyWord_len k hk
  rw [← ht.out] at hl
  refine (cut_ok t _ w hl hV (by rw [ht.out, bys_bstr]; exact h)).mono ?_
  rintro e w' ⟨g, cap, rfl, hrow, _, _, hcap, _, hb⟩
  exact ⟨g, cap, rfl, (hrow 0 _ rfl).1, hcap, hb⟩

set_option maxRecDepth 100000 in
set_option maxHeartbeats 4000000 in
theorem keys_walk (a0 : ByteArray) (w : World) (n0 : a0.size ≤ 140737488351232) (hV : Vars w) :
    Calls Tryz.prog 5 #[.string a0] w fun e w' => e = .returned (.bool true) ∧ Below w.heap.size w w' := by
  go_enter Tryz.func5, Tryz.ntmps5
  go_wp2_with (first
    | (go_at_call 10; refine (awake_any _ hV).mono ?_; rintro e w1 ⟨rfl, hb1⟩; have hV1 := hV.grown hb1 hV.lt)
    | (go_at_call 16; refine (keys_any _).mono ?_; rintro e w' ⟨rfl, rfl⟩))
  obtain ⟨W, hW⟩ : ∃ W, W = w1.alloc (.cells keyCells 9) := ⟨_, rfl⟩
  have hVW : Vars W := by rw [hW]; exact hV1.alloc _
  have hbW : W.heap[w1.heap.size]? = some (.cells keyCells 9 (0, 0)) := by rw [hW]; exact heap_alloc_new w1 _
  have hlW : w1.heap.size < W.heap.size := lt_of_block hbW
  have hBW : Below w.heap.size w W := by rw [hW]; exact hb1.alloc hb1.size _
  rw [← hW]
  clear hW
  go_loopw [4, 14] (fun v i wr => ∃ (k c : Nat), k ≤ 15 ∧ c ≤ k ∧ i = .int .i64 k ∧ v = .int .i64 c ∧ Below W.heap.size W wr ∧ Hid (c = (keyWords.take k).count (bys a0)))
    (fun _ i _ => 15 - (intOf i).toNat)
  case atStart => exact ⟨0, 0, by omega, by omega, rfl, rfl, Below.refl _ _, rfl⟩
  case round =>
    obtain ⟨k, c, hk15, hck, rfl, rfl, hnx, HC⟩ := hrel
    have hVr := hVW.grown hnx hVW.lt
    by_cases hkl : k < 15
    · have c1 := keyCells_at ((hnx.block _ hlW).trans hbW) k hkl
      have hst := key_count_step k hkl (bys a0)
      obtain ⟨t, ht⟩ : ∃ t, t = bstr (keyWords.getD k []) := ⟨_, rfl⟩
      rw [← ht] at c1
      have HT : Hid (t = bstr (keyWords.getD k [])) := ht
      have hkb : keyB (bys t) = true := by rw [ht, bys_bstr]; exact key_is ⟨k, hkl⟩
      by_cases he : t = a0
      · have HN : Hid (c + 1 = (keyWords.take (k + 1)).count (bys a0)) := by
          show _ = _
          rw [hst, if_pos (by rw [← he, ht, bys_bstr]), ← HC.out]
        clear ht hst HC
        subst he
        go_wp2_with (first
          | (go_at_call 11; refine (cut_key k hkl t HT _ hVr).mono ?_; rintro e w2 ⟨g, cap, rfl, hg, hcap, hb2⟩)
          | (go_at_call 17; refine (key_any t _).mono ?_; rintro e w3 ⟨rfl, hb3⟩))
        go_roundw
        case rel => exact ⟨k + 1, c + 1, by omega, by omega, by go_num, by go_num, (hnx.trans (hb2.mono hnx.size)).trans (hb3.mono (Nat.le_trans hnx.size hb2.size)), HN⟩
        case measure => simp [intOf]; omega
      · have HN : Hid (c = (keyWords.take (k + 1)).count (bys a0)) := by
          show _ = _
          rw [hst, if_neg (fun e => he (by rw [ht, e, bstr_bys])), ← HC.out]; rfl
        have hl : (t.toList == a0.toList) = false := by
          rw [Lib.toList_data, Lib.toList_data]
          exact beq_eq_false_iff_ne.2 (fun e => he (by rw [← bstr_bys t, ← bstr_bys a0]; exact congrArg bstr e))
        clear ht hst HC
        go_wp2_with (first
          | (go_at_call 11; refine (cut_key k hkl t HT _ hVr).mono ?_; rintro e w2 ⟨g, cap, rfl, hg, hcap, hb2⟩)
          | (go_at_call 17; refine (key_any t _).mono ?_; rintro e w3 ⟨rfl, hb3⟩))
        go_roundw
        case rel => exact ⟨k + 1, c, by omega, by omega, by go_num, rfl, (hnx.trans (hb2.mono hnx.size)).trans (hb3.mono (Nat.le_trans hnx.size hb2.size)), HN⟩
        case measure => simp [intOf]; omega
    · obtain rfl : k = 15 := by omega
      have hc : c = if keyB (bys a0) then 1 else 0 := by rw [← key_count]; exact HC.out
      clear HC
      cases hkb : keyB (bys a0)
      all_goals
        rw [hkb] at hc
        simp only [Bool.false_eq_true, if_false, if_true] at hc
        subst hc
        go_wp2_with (go_at_call 17; refine (key_any a0 _).mono ?_; rintro e w3 ⟨rfl, hb3⟩)
        go_ret
        exact ⟨rfl, (hBW.trans (hnx.mono hBW.size)).trans (hb3.mono (Nat.le_trans hBW.size hnx.size))⟩
end Go.Proofs.YtjnfjfihdachiaaGreatDoor
