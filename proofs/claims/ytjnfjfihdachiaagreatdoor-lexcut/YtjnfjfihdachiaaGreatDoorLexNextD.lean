/- What the statements' own next answers where a digit stands. Conditions: the place lies in the text, which has at most 65536 bytes. -/
import Derived.Test.YtjnfjfihdachiaaGreatDoorLexNextL
import Derived.Deep.RegionHeld3
import Derived.RegionTactic
import Derived.BigRegion
import Derived.Laws.DeepStrings4
namespace Go.Proofs.YtjnfjfihdachiaaGreatDoor
open Go.ChangeShapes Go.WideShapes Go.ChangeAt Go.RowKit
set_option linter.unusedVariables false

theorem value_some (t : ByteArray) (n : Nat) (hmax : t.size ≤ 65536) (hdig : ∀ c ∈ bys t, digitB (num c) = true) (h : Hid (numFrom 0 (bys t) = some n)) (w : World) :
    Calls Tryz.prog 25 #[.string t] w fun e w' => e = .returned (.tuple #[.int .u64 n, .bool true]) ∧ w' = w := by
  have := value_any t hmax hdig w
  rw [h.out] at this
  exact this
theorem value_none (t : ByteArray) (hmax : t.size ≤ 65536) (hdig : ∀ c ∈ bys t, digitB (num c) = true) (h : Hid (numFrom 0 (bys t) = none)) (w : World) :
    Calls Tryz.prog 25 #[.string t] w fun e w' => e = .returned (.tuple #[.int .u64 0, .bool false]) ∧ w' = w := by
  have := value_any t hmax hdig w
  rw [h.out] at this
  exact this

set_option maxRecDepth 100000 in
set_option maxHeartbeats 8000000 in
theorem next_digit (s : ByteArray) (k : Nat) (w : World) (hs : s.size ≤ 65536) (hk : k < s.size) (hc : letterB (num s[k]) = false) (hd : digitB (num s[k]) = true) :
    Calls Tryz.prog 13 #[.string s, .int .i64 k] w fun e w' => NextPost (readTok ((bys s).drop k) k) e ∧ Below w.heap.size w w' := by
  obtain ⟨m, hm⟩ : ∃ m, k + lead digitB ((bys s).drop k) = m := ⟨_, rfl⟩
  have hl := lead_le digitB ((bys s).drop k)
  rw [List.length_drop, bys_length] at hl
  have hd0 := drop_cons s k hk
  have hl1 : lead digitB ((bys s).drop k) = lead digitB ((bys s).drop (k + 1)) + 1 := by rw [hd0, lead_yes hd]
  have hpos : k < m := by omega
  have hms : m ≤ s.size := by omega
  have hdrop : ((bys s).drop k).drop (lead digitB ((bys s).drop k)) = (bys s).drop m := by rw [List.drop_drop, hm]
  have hall := lead_all digitB ((bys s).drop k)
  have hx : s.extract k m = bstr (((bys s).drop k).take (lead digitB ((bys s).drop k))) := by rw [extract_bstr, ← hm]; congr 2; omega
  have hsz : (s.extract k m).size = m - k := by rw [hx, bstr_size, List.length_take, List.length_drop, bys_length]; omega
  have HT : Hid (readTok ((bys s).drop k) k = if startsLetter ((bys s).drop m) then none else match numFrom 0 (bys (s.extract k m)) with | some v => some ⟨3, bys (s.extract k m), v, k⟩ | none => none) := by
    show _ = _
    have e : readTok ((bys s).drop k) k = digitTok ((bys s).drop k) k := by
      conv => lhs; unfold readTok
      rw [hd0]
      simp only [hc, hd, if_true, Bool.false_eq_true, if_false]
    rw [e]
    unfold digitTok
    rw [hdrop, hx, bys_bstr]
    rfl
  have hdig : ∀ c ∈ bys (s.extract k m), digitB (num c) = true := by rw [hx, bys_bstr]; exact hall
  have HM : Hid (k + 1 + lead digitB ((bys s).drop (k + 1)) = m) := by show _ = _; omega
  obtain ⟨t, ht⟩ : ∃ t, t = s.extract k m := ⟨_, rfl⟩
  rw [← ht] at hsz HT hdig
  have hcut := cut_at (Nat.le_of_lt hpos) hms ht.symm
  have hbl : bstr (bys t) = t := bstr_bys t
  clear hm hl hl1 hx ht hd0 hdrop hall
  have hc' := hc
  have hd' := hd
  unfold num at hc' hd'
  go_enter Tryz.func13, Tryz.ntmps13
  go_wp2_with (first | (go_at_call 23; refine (lawLetter _ _).mono ?_; rintro e w' ⟨rfl, rfl⟩) | (go_at_call 24; refine (lawDigit _ _).mono ?_; rintro e w' ⟨rfl, rfl⟩))
  go_loop [7] (fun i => ∃ j : Nat, k < j ∧ j ≤ s.size ∧ i = .int .i64 j ∧ Hid (j + lead digitB ((bys s).drop j) = m)) (fun i => s.size - (intOf i).toNat)
  case atStart => exact ⟨k + 1, by omega, by omega, by go_num, HM⟩
  case round =>
    obtain ⟨j, hkj, hjs, rfl, hj⟩ := hrel
    clear HM
    by_cases hlt : j < s.size
    · have hdj := drop_cons s j hlt
      cases hg : digitB (num s[j])
      · obtain rfl : j = m := by
          have := hj.out
          rw [hdj, lead_no hg] at this; omega
        have hsl := starts_letter hlt
        clear hdj hj
        unfold num at hg hsl
        have hne1 : ((j : Int) == (s.size : Int)) = false := by simp; omega
        have hne2 : decide (j = s.size) = false := by simp; omega
        have hne3 : (j == s.size) = false := by simp; omega
        cases hL : letterB (s[j].toNat : Int)
        · rw [hsl, hL] at HT
          cases hn : numFrom 0 (bys t) with
          | none =>
            rw [hn] at HT
            have HN : Hid (numFrom 0 (bys t) = none) := hn
            clear hn
            go_wp2_with (first | (go_at_call 24; refine (lawDigit _ _).mono ?_; rintro e w' ⟨rfl, rfl⟩) | (go_at_call 25; refine (value_none t (by omega) hdig HN _).mono ?_; rintro e w' ⟨rfl, rfl⟩))
            go_region
            all_goals go_wp2
            all_goals (
              refine bodyPost_ret (v := .tuple #[.agg #[.int .i64 3, .string t, .int .u64 0, .int .i64 k], .bool false]) (by simp [results, Tryz.results13, go_sem]) rfl ⟨?_, ((Below.refl _ w).alloc (Nat.le_refl _) _).drew⟩
              rw [HT.out]
              show NextPost none _
              exact ⟨3, 0, k, t, rfl⟩)
          | some v =>
            rw [hn] at HT
            have HN : Hid (numFrom 0 (bys t) = some v) := hn
            clear hn
            go_wp2_with (first | (go_at_call 24; refine (lawDigit _ _).mono ?_; rintro e w' ⟨rfl, rfl⟩) | (go_at_call 25; refine (value_some t v (by omega) hdig HN _).mono ?_; rintro e w' ⟨rfl, rfl⟩))
            go_region_held3 (fun _ => True) (trivial) (first | (go_at_call 23; refine (lawLetter _ _).mono ?_; rintro e w' ⟨rfl, rfl⟩))
            all_goals go_wp2
            all_goals (
              refine bodyPost_ret (v := .tuple #[.agg #[.int .i64 3, .string t, .int .u64 v, .int .i64 k], .bool true]) (by simp [results, Tryz.results13, go_sem]) rfl ⟨?_, ((Below.refl _ w).alloc (Nat.le_refl _) _).drew⟩
              rw [HT.out]
              show NextPost (some ⟨3, bys t, v, k⟩) _
              simp only [NextPost, hbl]; rfl)
        · rw [hsl, hL] at HT
          cases hn : numFrom 0 (bys t) with
          | none =>
            rw [hn] at HT
            have HN : Hid (numFrom 0 (bys t) = none) := hn
            clear hn
            go_wp2_with (first | (go_at_call 24; refine (lawDigit _ _).mono ?_; rintro e w' ⟨rfl, rfl⟩) | (go_at_call 25; refine (value_none t (by omega) hdig HN _).mono ?_; rintro e w' ⟨rfl, rfl⟩))
            go_region
            all_goals go_wp2
            all_goals (
              refine bodyPost_ret (v := .tuple #[.agg #[.int .i64 3, .string t, .int .u64 0, .int .i64 k], .bool false]) (by simp [results, Tryz.results13, go_sem]) rfl ⟨?_, ((Below.refl _ w).alloc (Nat.le_refl _) _).drew⟩
              rw [HT.out]
              show NextPost none _
              exact ⟨3, 0, k, t, rfl⟩)
          | some v =>
            rw [hn] at HT
            have HN : Hid (numFrom 0 (bys t) = some v) := hn
            clear hn
            go_wp2_with (first | (go_at_call 24; refine (lawDigit _ _).mono ?_; rintro e w' ⟨rfl, rfl⟩) | (go_at_call 25; refine (value_some t v (by omega) hdig HN _).mono ?_; rintro e w' ⟨rfl, rfl⟩))
            go_region_held3 (fun _ => True) (trivial) (first | (go_at_call 23; refine (lawLetter _ _).mono ?_; rintro e w' ⟨rfl, rfl⟩))
            all_goals go_wp2
            all_goals (
              refine bodyPost_ret (v := .tuple #[.agg #[.int .i64 3, .string t, .int .u64 v, .int .i64 k], .bool false]) (by simp [results, Tryz.results13, go_sem]) rfl ⟨?_, ((Below.refl _ w).alloc (Nat.le_refl _) _).drew⟩
              rw [HT.out]
              show NextPost none _
              exact ⟨3, v, k, t, rfl⟩)
      · have H : Hid (j + 1 + lead digitB ((bys s).drop (j + 1)) = m) := by
          show _ = _
          have := hj.out
          rw [hdj, lead_yes hg] at this; omega
        clear hdj hj
        unfold num at hg
        go_wp2_with (go_at_call 24; refine (lawDigit _ _).mono ?_; rintro e w' ⟨rfl, rfl⟩)
        go_round
        case rel => exact ⟨j + 1, by omega, by omega, by go_num, H⟩
        case measure => simp [intOf]; omega
    · obtain rfl : j = m := by
        have := hj.out
        rw [drop_all s j hlt] at this; simp [lead] at this; omega
      rw [starts_end hlt] at HT
      clear hj
      obtain rfl : j = s.size := by omega
      cases hn : numFrom 0 (bys t) with
      | none =>
        rw [hn] at HT
        have HN : Hid (numFrom 0 (bys t) = none) := hn
        clear hn
        go_wp2_with (first | (go_at_call 24; refine (lawDigit _ _).mono ?_; rintro e w' ⟨rfl, rfl⟩) | (go_at_call 25; refine (value_none t (by omega) hdig HN _).mono ?_; rintro e w' ⟨rfl, rfl⟩))
        go_region
        all_goals go_wp2
        all_goals (
          refine bodyPost_ret (v := .tuple #[.agg #[.int .i64 3, .string t, .int .u64 0, .int .i64 k], .bool false]) (by simp [results, Tryz.results13, go_sem]) rfl ⟨?_, ((Below.refl _ w).alloc (Nat.le_refl _) _).drew⟩
          rw [HT.out]
          show NextPost none _
          exact ⟨3, 0, k, t, rfl⟩)
      | some v =>
        rw [hn] at HT
        have HN : Hid (numFrom 0 (bys t) = some v) := hn
        clear hn
        go_wp2_with (first | (go_at_call 24; refine (lawDigit _ _).mono ?_; rintro e w' ⟨rfl, rfl⟩) | (go_at_call 25; refine (value_some t v (by omega) hdig HN _).mono ?_; rintro e w' ⟨rfl, rfl⟩))
        go_region
        all_goals go_wp2
        all_goals (
          refine bodyPost_ret (v := .tuple #[.agg #[.int .i64 3, .string t, .int .u64 v, .int .i64 k], .bool true]) (by simp [results, Tryz.results13, go_sem]) rfl ⟨?_, ((Below.refl _ w).alloc (Nat.le_refl _) _).drew⟩
          rw [HT.out]
          show NextPost (some ⟨3, bys t, v, k⟩) _
          simp only [NextPost, hbl]; rfl)
end Go.Proofs.YtjnfjfihdachiaaGreatDoor
