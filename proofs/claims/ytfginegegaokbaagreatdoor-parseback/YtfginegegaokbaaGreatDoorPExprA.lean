/- What beginsExpr and slices.Index over strings answer; expressions in memory outside of some blocks. Conditions: as each theorem says. -/
import Derived.Test.YtfginegegaokbaaGreatDoorPRead2
namespace Go.Proofs.YtfginegegaokbaaGreatDoor.Pr
open Go.ChangeShapes Go.WideShapes Go.ChangeAt Go.RowKit
open Lx (Tok)
set_option linter.unusedVariables false
set_option linter.unusedSimpArgs false

theorem indexL_ge (x : List UInt8) : ∀ l, -1 ≤ indexL x l
  | [] => by simp [indexL]
  | y :: l => by
    have := indexL_ge x l
    unfold indexL
    split
    · omega
    · split <;> omega
theorem beginsB_is (t : Tok) : beginsB t = (t.kind == 1 || t.kind == 3 || t.text == [126] || t.text == [40] || t.text == kPick) := rfl
theorem text_beq (l : List UInt8) (x : List UInt8) : ((bstr l).toList == x) = (l == x) := by rw [bstr_toList]
set_option maxHeartbeats 4000000 in
set_option maxRecDepth 100000 in
/-- beginsExpr -/
theorem begins_any (t : Tok) (w : World) :
    Calls Tryz.prog 154 #[.agg #[.int .i64 (t.kind : Int), .string (bstr t.text), .int .u64 (t.value : Int), .int .i64 (t.at_ : Int)]] w fun e w' => e = .returned (.bool (beginsB t)) ∧ Below w.heap.size w w' := by
  go_enter Tryz.func154, Tryz.ntmps154
  go_wp2
  all_goals go_ret
  all_goals refine ⟨Lx.ret_bool ?_, (Below.refl _ _).alloc (Nat.le_refl _) _⟩
  all_goals rw [beginsB_is]
  all_goals try simp only [bstr_toList] at *
  · have hk : t.kind = 1 := by omega
    simp [hk]
  · have hk : t.kind = 3 := by omega
    simp [hk]
  · rename_i h; simp [h]
  · rename_i h; simp [h]
  · rename_i h1 h2 h3 h4
    have k1 : (t.kind == 1) = false := by simp; omega
    have k2 : (t.kind == 3) = false := by simp; omega
    have k3 : (((t.kind : Nat) : Int) == 1) = false := by simp; omega
    have k4 : (((t.kind : Nat) : Int) == 3) = false := by simp; omega
    have k5 : (t.text == [126]) = false := by simpa using h3
    have k6 : (t.text == [40]) = false := by simpa using h4
    simp only [k1, k2, k3, k4, k5, k6, Bool.false_or, Bool.or_false]
    rfl
theorem sign_at {w : World} {b : Nat} (h : w.heap[b]? = some (.cells signCells 9 (0, 0))) (k : Nat) (hk : k < 10) : w.cell? ⟨b, k, none⟩ = some (.string (bstr (signs10.getD k []))) := by
  have e : signCells[k]? = some (.string (bstr (signs10.getD k []))) := by
    have h' : k < signs10.length := hk
    simp [signCells, List.getD, h']
  simp [World.cell?, h, e]
theorem indexL_drop (x : List UInt8) : ∀ (l : List (List UInt8)) (k : Nat), k ≤ l.length → (∀ j, j < k → l.getD j [] ≠ x) → indexL x l = if indexL x (l.drop k) = -1 then -1 else indexL x (l.drop k) + k
  | l, 0, _, _ => by simp
  | [], k + 1, h, _ => by simp at h
  | y :: l, k + 1, h, hj => by
    have h0 : (y == x) = false := by have := hj 0 (by omega); simpa using this
    have ih := indexL_drop x l k (by simpa using h) (fun j hjk => by have := hj (j + 1) (by omega); simpa using this)
    rw [List.drop_succ_cons]
    show (if (y == x) = true then 0 else if indexL x l = -1 then -1 else indexL x l + 1) = _
    rw [h0]
    simp only [Bool.false_eq_true, if_false]
    by_cases e : indexL x (l.drop k) = -1
    · rw [if_pos e] at ih ⊢; rw [ih]; rfl
    · rw [if_neg e] at ih ⊢
      have hp : -1 ≤ indexL x (l.drop k) := indexL_ge x _
      rw [ih, if_neg (by omega)]; try omega

set_option maxHeartbeats 4000000 in
set_option maxRecDepth 100000 in
/-- slices.Index over the signs -/
theorem index_any (sg : Nat) (x : List UInt8) (w : World) (hs : w.heap[sg]? = some (.cells signCells 9 (0, 0))) :
    Calls Tryz.prog 143 #[.slice (some ⟨sg, 0, none⟩) 10 10, .string (bstr x)] w fun e w' => e = .returned (.int .i64 (opOf x)) ∧ w' = w := by
  have hlt := heap_lt hs
  go_enter Tryz.func143, Tryz.ntmps143
  go_wp2
  go_loop [8] (fun i => ∃ k : Nat, k ≤ 10 ∧ i = .int .i64 k ∧ Hid (∀ j, j < k → signs10.getD j [] ≠ x)) (fun i => 10 - (intOf i).toNat)
  case atStart => exact ⟨0, by omega, rfl, fun j hj => by omega⟩
  case round =>
    obtain ⟨k, hk, rfl, hh⟩ := hrel
    by_cases hlt : k < 10
    · have hc := sign_at hs k hlt
      have hd := indexL_drop x signs10 k (show k ≤ 10 by omega) hh.out
      obtain ⟨y, hy⟩ : ∃ y, y = signs10.getD k [] := ⟨_, rfl⟩
      rw [← hy] at hc
      by_cases he : y = x
      · have H : Hid (opOf x = (k : Int)) := by
          have hdk : signs10.drop k = signs10.getD k [] :: signs10.drop (k + 1) := by
            rw [List.drop_eq_getElem_cons (show k < signs10.length from hlt)]; simp [List.getD, show k < signs10.length from hlt]
          have e0 : indexL x (signs10.drop k) = 0 := by rw [hdk, indexL, ← hy, he, beq_self_eq_true, if_pos rfl]
          show opOf x = _
          unfold opOf
          rw [hd, e0, if_neg (by decide)]; omega
        subst he
        have hq : ((bstr y).toList == (bstr y).toList) = true := by simp
        clear hd hh hy
        go_wp2
        go_ret
        exact ⟨Lx.ret_int (by rw [H.out]), rfl⟩
      · have H : Hid (∀ j, j < k + 1 → signs10.getD j [] ≠ x) := fun j hj => by
          by_cases e : j = k
          · subst e; rw [← hy]; exact he
          · exact hh.out j (by omega)
        have hq : ((bstr x).toList == (bstr y).toList) = false := by rw [bstr_toList, bstr_toList]; simpa using fun e => he e.symm
        clear hd hh he hy
        go_wp2
        go_round
        case rel => exact ⟨k + 1, by omega, by go_num, H⟩
        case measure => simp [intOf]; omega
    · obtain rfl : k = 10 := by omega
      have hd := indexL_drop x signs10 10 (by decide) hh.out
      have H : Hid (opOf x = -1) := by
        show indexL x signs10 = -1
        rw [hd]
        rfl
      clear hd hh
      go_wp2
      go_ret
      exact ⟨Lx.ret_int (by rw [H.out]), rfl⟩
end Go.Proofs.YtfginegegaokbaaGreatDoor.Pr
