/- What the statements' own key answers: whether a word is one of the fifteen. Conditions: none. -/
import Derived.Test.YtjnfjfihdachiaaGreatDoorLexFrame
namespace Go.Proofs.YtjnfjfihdachiaaGreatDoor
open Go.ChangeShapes Go.WideShapes Go.ChangeAt Go.RowKit
set_option linter.unusedVariables false

set_option maxRecDepth 100000 in
set_option maxHeartbeats 2000000 in
theorem key_any (s : ByteArray) (w : World) : Calls Tryz.prog 17 #[.string s] w fun e w' => e = .returned (.bool (keyB (bys s))) ∧ Below w.heap.size w w' := by
  obtain ⟨O, hO⟩ : ∃ O : Obj, O = .cells keyCells 9 := ⟨_, rfl⟩
  have hcell : ∀ k, k < 15 → (w.alloc O).cell? ⟨w.heap.size, k, none⟩ = some (.string (bstr (keyWords.getD k []))) := fun k hk => by
    rw [hO]; exact keyCells_at (heap_alloc_new w _) k hk
  go_enter Tryz.func17, Tryz.ntmps17
  rw [keyCells_is] at hO
  go_wp2
  rw [← hO]
  clear hO
  go_loop [7] (fun i => ∃ k : Nat, k ≤ 15 ∧ i = .int .i64 k ∧ Hid ((keyWords.take k).contains (bys s) = false)) (fun i => 15 - (intOf i).toNat)
  case atStart => exact ⟨0, by omega, rfl, rfl⟩
  case round =>
    obtain ⟨k, hk15, rfl, HH⟩ := hrel
    by_cases hkl : k < 15
    · have c1 := hcell k hkl
      obtain ⟨kw, hkw⟩ : ∃ t, t = keyWords.getD k [] := ⟨_, rfl⟩
      obtain ⟨t, ht⟩ : ∃ t, t = bstr kw := ⟨_, rfl⟩
      rw [← hkw, ← ht] at c1
      by_cases he : t = s
      · have HE : Hid (keyB (bys s) = true) := by
          show _ = _
          rw [← he, ht, bys_bstr, hkw]
          have h' : k < keyWords.length := hkl
          simp [keyB, List.getD, h']
        clear hcell hkw ht HH
        subst he
        go_wp2
        go_ret
        exact ⟨ret_bool HE.out.symm, (Below.refl _ _).alloc (Nat.le_refl _) _⟩
      · have HE : Hid ((keyWords.take (k + 1)).contains (bys s) = false) := by
          show _ = _
          have h' : k < keyWords.length := hkl
          have hne : (bys s == kw) = false := beq_eq_false_iff_ne.2 (fun e => he (by rw [ht, ← e, bstr_bys]))
          have h0 := HH.out
          rw [List.take_succ_eq_append_getElem h', List.contains_eq_any_beq, List.any_append, ← List.contains_eq_any_beq, h0]
          have e2 : keyWords[k] = kw := by rw [hkw]; simp [List.getD, h']
          simpa [e2] using hne
        have hl : (t.toList == s.toList) = false := by
          rw [Lib.toList_data, Lib.toList_data]
          exact beq_eq_false_iff_ne.2 (fun e => he (by rw [← bstr_bys t, ← bstr_bys s]; exact congrArg bstr e))
        clear hcell hkw ht HH
        go_wp2
        go_round
        case rel => exact ⟨k + 1, by omega, by go_num, HE⟩
        case measure => simp [intOf]; omega
    · obtain rfl : k = 15 := by omega
      have HE : Hid (keyB (bys s) = false) := HH.out
      clear hcell HH
      go_wp2
      go_ret
      exact ⟨ret_bool HE.out.symm, (Below.refl _ _).alloc (Nat.le_refl _) _⟩
end Go.Proofs.YtjnfjfihdachiaaGreatDoor
