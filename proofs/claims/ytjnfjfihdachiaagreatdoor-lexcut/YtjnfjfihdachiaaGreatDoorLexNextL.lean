/- What the statements' own next answers where a letter stands. Conditions: the place lies in the text, which has at most 65536 bytes. -/
import Derived.Test.YtjnfjfihdachiaaGreatDoorLexValue
namespace Go.Proofs.YtjnfjfihdachiaaGreatDoor
open Go.ChangeShapes Go.WideShapes Go.ChangeAt Go.RowKit
set_option linter.unusedVariables false

/-- What next answers. -/
def NextPost (r : Option Tok) (e : Ending) : Prop :=
  match r with
  | some t => e = .returned (.tuple #[.agg #[.int .i64 t.kind, .string (bstr t.text), .int .u64 t.value, .int .i64 t.at_], .bool true])
  | none => ∃ (x0 x2 x3 : Int) (x1 : ByteArray), e = .returned (.tuple #[.agg #[.int .i64 x0, .string x1, .int .u64 x2, .int .i64 x3], .bool false])

theorem two_kept {w w1 : World} {Z T : Obj} (hb : Below ((w.alloc Z).alloc T).heap.size ((w.alloc Z).alloc T) w1) : w1.heap[w.heap.size]? = some Z ∧ w1.heap[w.heap.size + 1]? = some T := by
  have h1 := heap_alloc_new w Z
  have h2 := heap_alloc_new (w.alloc Z) T
  have e : (w.alloc Z).heap.size = w.heap.size + 1 := by simp
  rw [e] at h2
  refine ⟨?_, ?_⟩
  · rw [hb.block _ (by simp; omega), Below.heap_alloc _ _ _ (by simp)]; exact h1
  · rw [hb.block _ (by simp)]; exact h2
theorem stored_two {w w1 : World} {Z T : Obj} (hb : Below ((w.alloc Z).alloc T).heap.size ((w.alloc Z).alloc T) w1) (u0 u1 u2 u3 : Value) :
    Below w.heap.size w ((((w1.setCell ⟨w.heap.size, 0, none⟩ u0).setCell ⟨w.heap.size, 1, none⟩ u1).setCell ⟨w.heap.size, 2, none⟩ u2).setCell ⟨w.heap.size, 3, none⟩ u3) :=
  (((((((Below.refl _ w).alloc (Nat.le_refl _) Z).alloc (by simp) T).trans (hb.mono (by simp; omega))).setCell (Nat.le_refl _) _).setCell (Nat.le_refl _) _).setCell (Nat.le_refl _) _).setCell (Nat.le_refl _) _
theorem stored_two' {w w1 : World} {Z T : Obj} (hb : Below ((w.alloc Z).alloc T).heap.size ((w.alloc Z).alloc T) w1) (u u0 u1 u2 u3 : Value) :
    Below w.heap.size w (((((w1.setCell ⟨w.heap.size + 1, 0, none⟩ u).setCell ⟨w.heap.size, 0, none⟩ u0).setCell ⟨w.heap.size, 1, none⟩ u1).setCell ⟨w.heap.size, 2, none⟩ u2).setCell ⟨w.heap.size, 3, none⟩ u3) :=
  ((((((((Below.refl _ w).alloc (Nat.le_refl _) Z).alloc (by simp) T).trans (hb.mono (by simp; omega))).setCell (by simp) _).setCell (Nat.le_refl _) _).setCell (Nat.le_refl _) _).setCell (Nat.le_refl _) _).setCell (Nat.le_refl _) _
set_option maxRecDepth 100000 in
set_option maxHeartbeats 8000000 in
theorem next_letter (s : ByteArray) (k : Nat) (w : World) (hs : s.size ≤ 65536) (hk : k < s.size) (hc : letterB (num s[k]) = true) :
    Calls Tryz.prog 13 #[.string s, .int .i64 k] w fun e w' => NextPost (readTok ((bys s).drop k) k) e ∧ Below w.heap.size w w' := by
  obtain ⟨m, hm⟩ : ∃ m, k + lead wordB ((bys s).drop k) = m := ⟨_, rfl⟩
  have hl := lead_le wordB ((bys s).drop k)
  rw [List.length_drop, bys_length] at hl
  have hd0 := drop_cons s k hk
  have hl1 : lead wordB ((bys s).drop k) = lead wordB ((bys s).drop (k + 1)) + 1 := by rw [hd0, lead_yes (by simp [wordB, hc])]
  have hpos : k < m := by omega
  have hms : m ≤ s.size := by omega
  have hx : s.extract k m = bstr (((bys s).drop k).take (lead wordB ((bys s).drop k))) := by rw [extract_bstr, ← hm]; congr 2; omega
  have HT : Hid (readTok ((bys s).drop k) k = some ⟨if keyB (bys (s.extract k m)) then 2 else 1, bys (s.extract k m), 0, k⟩) := by
    show _ = _
    rw [hx, bys_bstr]
    unfold readTok
    rw [hd0]
    simp only [hc, if_true]
  have HM : Hid (k + 1 + lead wordB ((bys s).drop (k + 1)) = m) := by show _ = _; omega
  obtain ⟨t, ht⟩ : ∃ t, t = s.extract k m := ⟨_, rfl⟩
  rw [← ht] at HT
  have hcut := cut_at (Nat.le_of_lt hpos) hms ht.symm
  have hbl : bstr (bys t) = t := bstr_bys t
  clear hm hl hl1 hx ht hd0
  have hc' := hc
  unfold num at hc'
  go_enter Tryz.func13, Tryz.ntmps13
  go_wp2_with (go_at_call 23; refine (lawLetter _ _).mono ?_; rintro e w' ⟨rfl, rfl⟩)
  go_loop [7] (fun i => ∃ j : Nat, k < j ∧ j ≤ s.size ∧ i = .int .i64 j ∧ Hid (j + lead wordB ((bys s).drop j) = m)) (fun i => s.size - (intOf i).toNat)
  case atStart => exact ⟨k + 1, by omega, by omega, by go_num, HM⟩
  case round =>
    obtain ⟨j, hkj, hjs, rfl, hj⟩ := hrel
    clear HM
    by_cases hlt : j < s.size
    · have hd := drop_cons s j hlt
      cases hl : letterB (num s[j])
      · cases hg : digitB (num s[j])
        · obtain rfl : j = m := by
            have := hj.out
            rw [hd, lead_no (by simp [wordB, hl, hg])] at this; omega
          clear hd hj
          unfold num at hl hg
          cases hkb : keyB (bys t)
          · go_wp2_with (first | (go_at_call 23; refine (lawLetter _ _).mono ?_; rintro e w' ⟨rfl, rfl⟩) | (go_at_call 24; refine (lawDigit _ _).mono ?_; rintro e w' ⟨rfl, rfl⟩) | (go_at_call 17; refine (key_any t _).mono ?_; rintro e w1 ⟨rfl, hb1⟩; obtain ⟨K4, K8⟩ := two_kept hb1; obtain ⟨c0, c1, c2, c3, f0, f1, f2, f3⟩ := four_facts K4; obtain ⟨d0, d1, d2, d3, g0, g1, g2, g3⟩ := four_facts K8; have HK4 : Hid _ := K4; have HK8 : Hid _ := K8; clear K4 K8))
            have hW := four_all HK4.out (.int .i64 1) (.string t) (.int .u64 0) (.int .i64 k)
            have hB := stored_two hb1 (.int .i64 1) (.string t) (.int .u64 0) (.int .i64 k)
            refine bodyPost_ret (v := .tuple #[.agg #[.int .i64 1, .string t, .int .u64 0, .int .i64 k], .bool true]) (by simp [results, Tryz.results13, go_sem, four_cell0 hW, four_cell1 hW, four_cell2 hW, four_cell3 hW]) rfl ⟨?_, hB⟩
            rw [HT.out, hkb]
            simp only [NextPost, hbl]
            rfl
          · go_wp2_with (first | (go_at_call 23; refine (lawLetter _ _).mono ?_; rintro e w' ⟨rfl, rfl⟩) | (go_at_call 24; refine (lawDigit _ _).mono ?_; rintro e w' ⟨rfl, rfl⟩) | (go_at_call 17; refine (key_any t _).mono ?_; rintro e w1 ⟨rfl, hb1⟩; obtain ⟨K4, K8⟩ := two_kept hb1; obtain ⟨c0, c1, c2, c3, f0, f1, f2, f3⟩ := four_facts K4; obtain ⟨d0, d1, d2, d3, g0, g1, g2, g3⟩ := four_facts K8; have HK4 : Hid _ := K4; have HK8 : Hid _ := K8; clear K4 K8))
            have K5 : (w1.setCell ⟨w.heap.size + 1, 0, none⟩ (.int .i64 2)).heap[w.heap.size]? = _ := (Below.heap_setCell w1 ⟨w.heap.size + 1, 0, none⟩ (.int .i64 2) w.heap.size (by simp)).trans HK4.out
            have hW := four_all K5 (.int .i64 2) (.string t) (.int .u64 0) (.int .i64 k)
            have hB := stored_two' hb1 (.int .i64 2) (.int .i64 2) (.string t) (.int .u64 0) (.int .i64 k)
            refine bodyPost_ret (v := .tuple #[.agg #[.int .i64 2, .string t, .int .u64 0, .int .i64 k], .bool true]) (by simp [results, Tryz.results13, go_sem, four_cell0 hW, four_cell1 hW, four_cell2 hW, four_cell3 hW]) rfl ⟨?_, hB⟩
            rw [HT.out, hkb]
            simp only [NextPost, hbl]
            rfl
        · have H : Hid (j + 1 + lead wordB ((bys s).drop (j + 1)) = m) := by
            show _ = _
            have := hj.out
            rw [hd, lead_yes (by simp [wordB, hg])] at this; omega
          clear hd hj
          unfold num at hl hg
          go_wp2_with (first | (go_at_call 23; refine (lawLetter _ _).mono ?_; rintro e w' ⟨rfl, rfl⟩) | (go_at_call 24; refine (lawDigit _ _).mono ?_; rintro e w' ⟨rfl, rfl⟩))
          go_round
          case rel => exact ⟨j + 1, by omega, by omega, by go_num, H⟩
          case measure => simp [intOf]; omega
      · have H : Hid (j + 1 + lead wordB ((bys s).drop (j + 1)) = m) := by
          show _ = _
          have := hj.out
          rw [hd, lead_yes (by simp [wordB, hl])] at this; omega
        clear hd hj
        unfold num at hl
        go_wp2_with (first | (go_at_call 23; refine (lawLetter _ _).mono ?_; rintro e w' ⟨rfl, rfl⟩) | (go_at_call 24; refine (lawDigit _ _).mono ?_; rintro e w' ⟨rfl, rfl⟩))
        go_round
        case rel => exact ⟨j + 1, by omega, by omega, by go_num, H⟩
        case measure => simp [intOf]; omega
    · obtain rfl : j = m := by
        have := hj.out
        rw [drop_all s j hlt] at this; simp [lead] at this; omega
      clear hj
      cases hkb : keyB (bys t)
      · go_wp2_with (first | (go_at_call 23; refine (lawLetter _ _).mono ?_; rintro e w' ⟨rfl, rfl⟩) | (go_at_call 24; refine (lawDigit _ _).mono ?_; rintro e w' ⟨rfl, rfl⟩) | (go_at_call 17; refine (key_any t _).mono ?_; rintro e w1 ⟨rfl, hb1⟩; obtain ⟨K4, K8⟩ := two_kept hb1; obtain ⟨c0, c1, c2, c3, f0, f1, f2, f3⟩ := four_facts K4; obtain ⟨d0, d1, d2, d3, g0, g1, g2, g3⟩ := four_facts K8; have HK4 : Hid _ := K4; have HK8 : Hid _ := K8; clear K4 K8))
        have hW := four_all HK4.out (.int .i64 1) (.string t) (.int .u64 0) (.int .i64 k)
        have hB := stored_two hb1 (.int .i64 1) (.string t) (.int .u64 0) (.int .i64 k)
        refine bodyPost_ret (v := .tuple #[.agg #[.int .i64 1, .string t, .int .u64 0, .int .i64 k], .bool true]) (by simp [results, Tryz.results13, go_sem, four_cell0 hW, four_cell1 hW, four_cell2 hW, four_cell3 hW]) rfl ⟨?_, hB⟩
        rw [HT.out, hkb]
        simp only [NextPost, hbl]
        rfl
      · go_wp2_with (first | (go_at_call 23; refine (lawLetter _ _).mono ?_; rintro e w' ⟨rfl, rfl⟩) | (go_at_call 24; refine (lawDigit _ _).mono ?_; rintro e w' ⟨rfl, rfl⟩) | (go_at_call 17; refine (key_any t _).mono ?_; rintro e w1 ⟨rfl, hb1⟩; obtain ⟨K4, K8⟩ := two_kept hb1; obtain ⟨c0, c1, c2, c3, f0, f1, f2, f3⟩ := four_facts K4; obtain ⟨d0, d1, d2, d3, g0, g1, g2, g3⟩ := four_facts K8; have HK4 : Hid _ := K4; have HK8 : Hid _ := K8; clear K4 K8))
        have K5 : (w1.setCell ⟨w.heap.size + 1, 0, none⟩ (.int .i64 2)).heap[w.heap.size]? = _ := (Below.heap_setCell w1 ⟨w.heap.size + 1, 0, none⟩ (.int .i64 2) w.heap.size (by simp)).trans HK4.out
        have hW := four_all K5 (.int .i64 2) (.string t) (.int .u64 0) (.int .i64 k)
        have hB := stored_two' hb1 (.int .i64 2) (.int .i64 2) (.string t) (.int .u64 0) (.int .i64 k)
        refine bodyPost_ret (v := .tuple #[.agg #[.int .i64 2, .string t, .int .u64 0, .int .i64 k], .bool true]) (by simp [results, Tryz.results13, go_sem, four_cell0 hW, four_cell1 hW, four_cell2 hW, four_cell3 hW]) rfl ⟨?_, hB⟩
        rw [HT.out, hkb]
        simp only [NextPost, hbl]
        rfl
end Go.Proofs.YtjnfjfihdachiaaGreatDoor
