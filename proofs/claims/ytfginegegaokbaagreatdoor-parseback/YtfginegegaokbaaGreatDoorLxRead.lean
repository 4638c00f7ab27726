/- What lex's read answers when it is called: the token that begins at a place. Conditions: the place lies in the text, which has at most 65536 bytes; the table of keys lies in memory as package lex makes it; the package variables hold what their initialisers lay. -/
import Derived.Test.YtfginegegaokbaaGreatDoorLxDig
namespace Go.Proofs.YtfginegegaokbaaGreatDoor.Lx
open Go.ChangeShapes Go.WideShapes Go.ChangeAt Go.RowKit
set_option linter.unusedVariables false

theorem Table.lt {w : World} {kb : Nat} (h : Table w kb) : kb < w.heap.size := by
  rcases h with h | ⟨mb, h, _⟩
  · exact lt_of_block h
  · exact lt_of_block h
/-- The table stays while another block of cells is written. -/
theorem Table.step {w w' : World} {kb : Nat} {row : Option Nat} (h : Table w kb) (hg : w.grownBy w' row) (hr : ∀ j, row = some j → ∃ c t f, w.heap[j]? = some (.cells c t f) ∧ t ≠ 119) : Table w' kb := by
  have key : ∀ {cs : Array Value}, w.heap[kb]? = some (.cells cs 119 (0, 0)) → w'.heap[kb]? = some (.cells cs 119 (0, 0)) := fun {cs} hk => by
    rw [hg.block kb (lt_of_block hk) (fun e => by
      obtain ⟨c, t, f, hj, ht⟩ := hr kb e.symm
      rw [hk] at hj
      simp at hj
      exact ht hj.2.1.symm)]
    exact hk
  rcases h with h | ⟨mb, h, hm⟩
  · exact Or.inl (key h)
  · refine Or.inr ⟨mb, key h, hm.kept hg (fun e => ?_)⟩
    obtain ⟨c, t, f, hj, _⟩ := hr mb e.symm
    obtain ⟨es, clock, hh, _⟩ := hm
    rw [hh] at hj
    simp at hj
theorem grown_four (w : World) (b : Nat) (u0 u1 u2 u3 : Value) : w.grownBy ((((w.setCell ⟨b, 0, none⟩ u0).setCell ⟨b, 1, none⟩ u1).setCell ⟨b, 2, none⟩ u2).setCell ⟨b, 3, none⟩ u3) (some b) :=
  (((grown_setCell w b 0 u0).trans (grown_setCell _ b 1 u1)).trans (grown_setCell _ b 2 u2)).trans (grown_setCell _ b 3 u3)
theorem grown_of_below {w w' : World} {row : Option Nat} (h : Below w.heap.size w w') : w.grownBy w' row := ⟨h.os, h.tape, h.output, h.size, fun k hk _ => h.block k hk⟩

/-- The new block behind a call that may write the table alone. -/
theorem keptBut {w w1 : World} {kb : Nat} (hk : kb < w.heap.size) (hg : (w.alloc (.cells #[.int .i64 0, .string ⟨#[]⟩, .int .u64 0, .int .i64 0] 48)).grownBy w1 (some kb)) : w1.heap[w.heap.size]? = some (.cells #[.int .i64 0, .string ⟨#[]⟩, .int .u64 0, .int .i64 0] 48 (0, 0)) := by
  rw [hg.block _ (by simp) (by simp; omega)]; exact heap_alloc_new w _
theorem four_facts {w1 : World} {b : Nat} {x0 x1 x2 x3 : Value} {t : TypeId} (h : w1.heap[b]? = some (.cells #[x0, x1, x2, x3] t (0, 0))) :
    w1.cell? ⟨b, 0, none⟩ = some x0 ∧ w1.cell? ⟨b, 1, none⟩ = some x1 ∧ w1.cell? ⟨b, 2, none⟩ = some x2 ∧ w1.cell? ⟨b, 3, none⟩ = some x3 ∧
    w1.frozen? ⟨b, 0, none⟩ = false ∧ w1.frozen? ⟨b, 1, none⟩ = false ∧ w1.frozen? ⟨b, 2, none⟩ = false ∧ w1.frozen? ⟨b, 3, none⟩ = false :=
  ⟨four_cell0 h, four_cell1 h, four_cell2 h, four_cell3 h, four_free h 0, four_free h 1, four_free h 2, four_free h 3⟩
/-- What is known when a token was stored behind such a call. -/
theorem stored_read {w w1 : World} {kb : Nat} (hk : kb < w.heap.size) (hT : Table w1 kb) (hg : (w.alloc (.cells #[.int .i64 0, .string ⟨#[]⟩, .int .u64 0, .int .i64 0] 48)).grownBy w1 (some kb)) (u0 u1 u2 u3 : Value) :
    Table ((((w1.setCell ⟨w.heap.size, 0, none⟩ u0).setCell ⟨w.heap.size, 1, none⟩ u1).setCell ⟨w.heap.size, 2, none⟩ u2).setCell ⟨w.heap.size, 3, none⟩ u3) kb ∧
    w.grownBy ((((w1.setCell ⟨w.heap.size, 0, none⟩ u0).setCell ⟨w.heap.size, 1, none⟩ u1).setCell ⟨w.heap.size, 2, none⟩ u2).setCell ⟨w.heap.size, 3, none⟩ u3) (some kb) := by
  have g := grown_four w1 w.heap.size u0 u1 u2 u3
  exact ⟨hT.step g (fun j hj => by cases hj; exact ⟨_, _, _, keptBut hk hg, by decide⟩), ((World.grownBy_alloc w _ _).trans hg).andThen g (fun j hj => by cases hj; exact Or.inl (Nat.le_refl _))⟩

theorem cut_plus {s t : ByteArray} {k n : Nat} (h2 : k + n ≤ s.size) (h : s.extract k (k + n) = t) (W : World) :
    (Instr.slice 9 (.string s) (some (.int .i64 (k : Int))) (some (.int .i64 ((k : Int) + (n : Int)))) none).run Tryz.prog W = .ok (.string t) W := by
  rw [run_slice_string W 9 s .i64 .i64 (k : Int) ((k : Int) + (n : Int)) Tryz.underlying9 (by omega) (by omega) (by omega), ← h]
  have e1 : ((k : Int)).toNat = k := by omega
  have e2 : ((k : Int) + (n : Int)).toNat = k + n := by omega
  rw [e1, e2]
theorem cut_from {s t : ByteArray} {k : Nat} (h2 : k ≤ s.size) (h : s.extract k s.size = t) (W : World) :
    (Instr.slice 9 (.string s) (some (.int .i64 (k : Int))) none none).run Tryz.prog W = .ok (.string t) W := by
  rw [run_slice_string_from_if W 9 s .i64 (k : Int) Tryz.underlying9, if_pos (by omega), ← h]
  simp

theorem kind_at (kb : Nat) (t : ByteArray) (ki : Int) (w : World) (ht : t.size ≤ maxLen) (hk : Table w kb) (hi : Hid (kindOf (bys t) = ki)) :
    Calls Tryz.prog 64 #[.pointer (some ⟨kb, 0, none⟩), .string t] w fun e w' => e = .returned (.int .i64 ki) ∧ Table w' kb ∧ w.grownBy w' (some kb) := hi.out ▸ kind_any kb t w ht hk
theorem readDigits_some (s : ByteArray) (k : Nat) (t : Tok) (w : World) (hs : s.size ≤ 65536) (hk : k < s.size) (hd : digitB (num s[k]) = true) (hV : Vars w) (ht : Hid (digitTok ((bys s).drop k) k = some t)) :
    Calls Tryz.prog 66 #[.string s, .int .i64 k] w fun e w' => e = .returned (.tuple #[.agg #[.int .i64 t.kind, .string (bstr t.text), .int .u64 t.value, .int .i64 t.at_], .bool true]) ∧ Below w.heap.size w w' := by
  have := readDigits_any s k w hs hk hd hV
  rw [ht.out] at this
  exact this
theorem readDigits_none (s : ByteArray) (k : Nat) (w : World) (hs : s.size ≤ 65536) (hk : k < s.size) (hd : digitB (num s[k]) = true) (hV : Vars w) (ht : Hid (digitTok ((bys s).drop k) k = none)) :
    Calls Tryz.prog 66 #[.string s, .int .i64 k] w fun e w' => e = .returned (.tuple #[.agg #[.int .i64 0, .string ⟨#[]⟩, .int .u64 0, .int .i64 0], .bool false]) ∧ Below w.heap.size w w' := by
  have := readDigits_any s k w hs hk hd hV
  rw [ht.out] at this
  exact this
theorem signSize_at (t : ByteArray) (n : Nat) (w : World) (h : 0 < t.size) (hn : Hid (signN (bys t) = n)) :
    Calls Tryz.prog 67 #[.string t] w fun e w' => e = .returned (.int .i64 (n : Int)) ∧ Below w.heap.size w w' := hn.out ▸ signSize_any t w h

set_option maxRecDepth 100000 in
set_option maxHeartbeats 4000000 in
theorem read_letter (s : ByteArray) (k kb : Nat) (w : World) (hs : s.size ≤ 65536) (hk : k < s.size) (hV : Vars w) (hT : Table w kb) (hc : letterB (num s[k]) = true) :
    Calls Tryz.prog 39 #[.string s, .int .i64 k, .pointer (some ⟨kb, 0, none⟩)] w fun e w' => e = .returned (tokOut (readTok ((bys s).drop k) k)) ∧ Table w' kb ∧ w.grownBy w' (some kb) := by
  have hkb := hT.lt
  obtain ⟨m, hm⟩ : ∃ m, k + lead wordB ((bys s).drop k) = m := ⟨_, rfl⟩
  have hl := lead_le wordB ((bys s).drop k)
  rw [List.length_drop, bys_length] at hl
  have hpos : k < m := by
    rw [← hm, drop_cons s k hk, lead_yes (by simp [wordB, hc])]; omega
  have hms : m ≤ s.size := by omega
  have hx : s.extract k m = bstr (((bys s).drop k).take (lead wordB ((bys s).drop k))) := by rw [extract_bstr, ← hm]; congr 2; omega
  have hsz : (s.extract k m).size = m - k := by rw [hx, bstr_size, List.length_take, List.length_drop, bys_length]; omega
  have HT : Hid (readTok ((bys s).drop k) k = some ⟨if keyB (bys (s.extract k m)) then 2 else 1, bys (s.extract k m), 0, k⟩) := by
    show _ = _
    rw [hx, bys_bstr]
    have hd := drop_cons s k hk
    unfold readTok
    rw [hd]
    simp only [hc, if_true]
  have HM : Hid (k + lead wordB ((bys s).drop k) = m) := hm
  obtain ⟨t, ht⟩ : ∃ t, t = s.extract k m := ⟨_, rfl⟩
  rw [← ht] at hsz HT
  have hT0 : Table (w.alloc (.cells #[.int .i64 0, .string ⟨#[]⟩, .int .u64 0, .int .i64 0] 48)) kb := hT.step (World.grownBy_alloc _ _ none) (fun j hj => by cases hj)
  have hcut := cut_at (Nat.le_of_lt hpos) hms ht.symm
  have HKind : Hid (kindOf (bys t) = (((if keyB (bys t) then 2 else 1 : Nat)) : Int)) := by unfold kindOf Hid; split <;> rfl
  have hbl : bstr (bys t) = t := bstr_bys t
  have hmx : t.size ≤ maxLen := by unfold maxLen; omega
  generalize hki : kindOf (bys t) = ki at HKind
  have HKI : Hid (kindOf (bys t) = ki) := hki
  clear hm hl hx ht hki
  unfold num at hc
  go_enter Tryz.func39, Tryz.ntmps39
  go_wp2_with (first | (go_at_call 61; refine (lexLetter _ _).mono ?_; rintro e w' ⟨rfl, rfl⟩) | (go_at_call 62; refine (runWord_at s k m _ hs (by omega) HM).mono ?_; rintro e w' ⟨rfl, rfl⟩) | (go_at_call 64; refine (kind_at kb t ki _ hmx hT0 HKI).mono ?_; rintro e w1 ⟨rfl, hT1, hg1⟩; have HK0 := keptBut hkb hg1; obtain ⟨c0, c1, c2, c3, f0, f1, f2, f3⟩ := four_facts HK0; have HK : Hid _ := HK0; clear HK0))
  have hbl2 := hbl
  have hW := four_all HK.out (.int .i64 ki) (.string t) (.int .u64 0) (.int .i64 k)
  obtain ⟨hT2, hg2⟩ := stored_read hkb hT1 hg1 (.int .i64 ki) (.string t) (.int .u64 0) (.int .i64 k)
  refine bodyPost_ret (v := .tuple #[.agg #[.int .i64 ki, .string t, .int .u64 0, .int .i64 k], .bool true]) (by simp [results, Tryz.results39, go_sem, four_cell0 hW, four_cell1 hW, four_cell2 hW, four_cell3 hW]) rfl ⟨?_, hT2, hg2⟩
  rw [HT.out]
  unfold tokOut Tok.agg
  simp only [hbl]
  rw [HKind.out]
  rfl
set_option maxRecDepth 100000 in
set_option maxHeartbeats 4000000 in
theorem read_digit_some (s : ByteArray) (k kb : Nat) (w : World) (hs : s.size ≤ 65536) (hk : k < s.size) (hV : Vars w) (hT : Table w kb) (t : Tok) (hc : letterB (num s[k]) = false) (hd : digitB (num s[k]) = true) (HD : Hid (digitTok ((bys s).drop k) k = some t)) :
    Calls Tryz.prog 39 #[.string s, .int .i64 k, .pointer (some ⟨kb, 0, none⟩)] w fun e w' => e = .returned (tokOut (readTok ((bys s).drop k) k)) ∧ Table w' kb ∧ w.grownBy w' (some kb) := by
  have hkb := hT.lt
  have HT : Hid (readTok ((bys s).drop k) k = some t) := by
    show _ = _
    have hd' := drop_cons s k hk
    rw [← HD.out]
    conv => lhs; unfold readTok
    rw [hd']
    simp only [hc, hd, if_true, Bool.false_eq_true, if_false]
  have hT0 : Table (w.alloc (.cells #[.int .i64 0, .string ⟨#[]⟩, .int .u64 0, .int .i64 0] 48)) kb := hT.step (World.grownBy_alloc _ _ none) (fun j hj => by cases hj)
  have hV0 := hV.alloc (.cells #[.int .i64 0, .string ⟨#[]⟩, .int .u64 0, .int .i64 0] 48)
  have hc2 := hc
  have hd2 := hd
  unfold num at hc2 hd2
  go_enter Tryz.func39, Tryz.ntmps39
  go_wp2_with (first | (go_at_call 61; refine (lexLetter _ _).mono ?_; rintro e w' ⟨rfl, rfl⟩) | (go_at_call 65; refine (lexDigit _ _).mono ?_; rintro e w' ⟨rfl, rfl⟩) | (go_at_call 66; refine (readDigits_some s k t _ hs hk hd (by exact hV0) HD).mono ?_; rintro e w1 ⟨rfl, hb1⟩; have hg1 := grown_of_below (row := some kb) hb1; have hT1 := hT0.step (grown_of_below (row := none) hb1) (fun j hj => by cases hj); have HK0 := keptBut hkb hg1; obtain ⟨c0, c1, c2, c3, f0, f1, f2, f3⟩ := four_facts HK0; have HK : Hid _ := HK0; clear HK0))
  have hW := four_all HK.out (.int .i64 t.kind) (.string (bstr t.text)) (.int .u64 t.value) (.int .i64 t.at_)
  obtain ⟨hT2, hg2⟩ := stored_read hkb hT1 hg1 (.int .i64 t.kind) (.string (bstr t.text)) (.int .u64 t.value) (.int .i64 t.at_)
  exact bodyPost_ret (v := .tuple #[.agg #[.int .i64 t.kind, .string (bstr t.text), .int .u64 t.value, .int .i64 t.at_], .bool true]) (by simp [results, Tryz.results39, go_sem, four_cell0 hW, four_cell1 hW, four_cell2 hW, four_cell3 hW]) rfl ⟨by rw [HT.out]; rfl, hT2, hg2⟩
set_option maxRecDepth 100000 in
set_option maxHeartbeats 4000000 in
theorem read_digit_none (s : ByteArray) (k kb : Nat) (w : World) (hs : s.size ≤ 65536) (hk : k < s.size) (hV : Vars w) (hT : Table w kb) (hc : letterB (num s[k]) = false) (hd : digitB (num s[k]) = true) (HD : Hid (digitTok ((bys s).drop k) k = none)) :
    Calls Tryz.prog 39 #[.string s, .int .i64 k, .pointer (some ⟨kb, 0, none⟩)] w fun e w' => e = .returned (tokOut (readTok ((bys s).drop k) k)) ∧ Table w' kb ∧ w.grownBy w' (some kb) := by
  have hkb := hT.lt
  have HT : Hid (readTok ((bys s).drop k) k = none) := by
    show _ = _
    have hd' := drop_cons s k hk
    rw [← HD.out]
    conv => lhs; unfold readTok
    rw [hd']
    simp only [hc, hd, if_true, Bool.false_eq_true, if_false]
  have hT0 : Table (w.alloc (.cells #[.int .i64 0, .string ⟨#[]⟩, .int .u64 0, .int .i64 0] 48)) kb := hT.step (World.grownBy_alloc _ _ none) (fun j hj => by cases hj)
  have hV0 := hV.alloc (.cells #[.int .i64 0, .string ⟨#[]⟩, .int .u64 0, .int .i64 0] 48)
  have hc2 := hc
  have hd2 := hd
  unfold num at hc2 hd2
  go_enter Tryz.func39, Tryz.ntmps39
  go_wp2_with (first | (go_at_call 61; refine (lexLetter _ _).mono ?_; rintro e w' ⟨rfl, rfl⟩) | (go_at_call 65; refine (lexDigit _ _).mono ?_; rintro e w' ⟨rfl, rfl⟩) | (go_at_call 66; refine (readDigits_none s k _ hs hk hd (by exact hV0) HD).mono ?_; rintro e w1 ⟨rfl, hb1⟩; have hg1 := grown_of_below (row := some kb) hb1; have hT1 := hT0.step (grown_of_below (row := none) hb1) (fun j hj => by cases hj); have HK0 := keptBut hkb hg1; obtain ⟨c0, c1, c2, c3, f0, f1, f2, f3⟩ := four_facts HK0; have HK : Hid _ := HK0; clear HK0))
  have hW := four_all HK.out (.int .i64 0) (.string ⟨#[]⟩) (.int .u64 0) (.int .i64 0)
  obtain ⟨hT2, hg2⟩ := stored_read hkb hT1 hg1 (.int .i64 0) (.string ⟨#[]⟩) (.int .u64 0) (.int .i64 0)
  exact bodyPost_ret (v := .tuple #[.agg #[.int .i64 0, .string ⟨#[]⟩, .int .u64 0, .int .i64 0], .bool false]) (by simp [results, Tryz.results39, go_sem, four_cell0 hW, four_cell1 hW, four_cell2 hW, four_cell3 hW]) rfl ⟨by rw [HT.out]; rfl, hT2, hg2⟩
set_option maxRecDepth 100000 in
set_option maxHeartbeats 4000000 in
theorem read_sign_some (s : ByteArray) (k kb : Nat) (w : World) (hs : s.size ≤ 65536) (hk : k < s.size) (hV : Vars w) (hT : Table w kb) (n : Nat) (hc : letterB (num s[k]) = false) (hd : digitB (num s[k]) = false) (hn : signN ((bys s).drop k) = n) (h0 : ¬ n = 0) :
    Calls Tryz.prog 39 #[.string s, .int .i64 k, .pointer (some ⟨kb, 0, none⟩)] w fun e w' => e = .returned (tokOut (readTok ((bys s).drop k) k)) ∧ Table w' kb ∧ w.grownBy w' (some kb) := by
  have hkb := hT.lt
  have hle := signN_le ((bys s).drop k)
  rw [List.length_drop, bys_length, hn] at hle
  have HT : Hid (readTok ((bys s).drop k) k = some ⟨4, ((bys s).drop k).take n, 0, k⟩) := by
    show _ = _
    have hd' := drop_cons s k hk
    rw [hd'] at hn ⊢
    unfold readTok
    simp only [hc, hd, hn, Bool.false_eq_true, if_false]
    rw [if_neg h0]
  obtain ⟨t, ht⟩ : ∃ t, t = s.extract k s.size := ⟨_, rfl⟩
  have hbt : bys t = (bys s).drop k := by rw [ht, extract_bys, List.take_of_length_le (by rw [List.length_drop, bys_length]; omega)]
  have hts : t.size = s.size - k := by rw [← bys_length, hbt, List.length_drop, bys_length]
  have HN : Hid (signN (bys t) = n) := by rw [hbt]; exact hn
  have hcut := cut_from (Nat.le_of_lt hk) ht.symm
  have hku : k + n ≤ s.size := by omega
  obtain ⟨u, hu⟩ : ∃ u, u = s.extract k (k + n) := ⟨_, rfl⟩
  have hcut2 := cut_plus hku hu.symm
  have HU : Hid (bstr (((bys s).drop k).take n) = u) := by rw [hu, extract_bstr]; show _ = _; congr 2; omega
  have hni : ¬ ((n : Int) = 0) := by omega
  have hT0 : Table (w.alloc (.cells #[.int .i64 0, .string ⟨#[]⟩, .int .u64 0, .int .i64 0] 48)) kb := hT.step (World.grownBy_alloc _ _ none) (fun j hj => by cases hj)
  clear ht hbt hn hu
  have hc2 := hc
  have hd2 := hd
  unfold num at hc2 hd2
  go_enter Tryz.func39, Tryz.ntmps39
  go_wp2_with (first | (go_at_call 61; refine (lexLetter _ _).mono ?_; rintro e w' ⟨rfl, rfl⟩) | (go_at_call 65; refine (lexDigit _ _).mono ?_; rintro e w' ⟨rfl, rfl⟩) | (go_at_call 67; refine (signSize_at t n _ (by omega) HN).mono ?_; rintro e w1 ⟨rfl, hb1⟩; have hg1 := grown_of_below (row := some kb) hb1; have hT1 := hT0.step (grown_of_below (row := none) hb1) (fun j hj => by cases hj); have HK0 := keptBut hkb hg1; obtain ⟨c0, c1, c2, c3, f0, f1, f2, f3⟩ := four_facts HK0; have HK : Hid _ := HK0; clear HK0))
  have hW := four_all HK.out (.int .i64 4) (.string u) (.int .u64 0) (.int .i64 k)
  obtain ⟨hT2, hg2⟩ := stored_read hkb hT1 hg1 (.int .i64 4) (.string u) (.int .u64 0) (.int .i64 k)
  exact bodyPost_ret (v := .tuple #[.agg #[.int .i64 4, .string u, .int .u64 0, .int .i64 k], .bool true]) (by simp [results, Tryz.results39, go_sem, four_cell0 hW, four_cell1 hW, four_cell2 hW, four_cell3 hW]) rfl ⟨by rw [HT.out, ← HU.out]; rfl, hT2, hg2⟩
set_option maxRecDepth 100000 in
set_option maxHeartbeats 4000000 in
theorem read_sign_none (s : ByteArray) (k kb : Nat) (w : World) (hs : s.size ≤ 65536) (hk : k < s.size) (hV : Vars w) (hT : Table w kb) (n : Nat) (hc : letterB (num s[k]) = false) (hd : digitB (num s[k]) = false) (hn : signN ((bys s).drop k) = n) (h0 : n = 0) :
    Calls Tryz.prog 39 #[.string s, .int .i64 k, .pointer (some ⟨kb, 0, none⟩)] w fun e w' => e = .returned (tokOut (readTok ((bys s).drop k) k)) ∧ Table w' kb ∧ w.grownBy w' (some kb) := by
  have hkb := hT.lt
  have hle := signN_le ((bys s).drop k)
  rw [List.length_drop, bys_length, hn] at hle
  have HT : Hid (readTok ((bys s).drop k) k = none) := by
    show _ = _
    have hd' := drop_cons s k hk
    rw [hd'] at hn ⊢
    unfold readTok
    simp only [hc, hd, hn, Bool.false_eq_true, if_false]
    rw [if_pos h0]
  obtain ⟨t, ht⟩ : ∃ t, t = s.extract k s.size := ⟨_, rfl⟩
  have hbt : bys t = (bys s).drop k := by rw [ht, extract_bys, List.take_of_length_le (by rw [List.length_drop, bys_length]; omega)]
  have hts : t.size = s.size - k := by rw [← bys_length, hbt, List.length_drop, bys_length]
  have HN : Hid (signN (bys t) = n) := by rw [hbt]; exact hn
  have hcut := cut_from (Nat.le_of_lt hk) ht.symm
  have hni : (n : Int) = 0 := by omega
  have hT0 : Table (w.alloc (.cells #[.int .i64 0, .string ⟨#[]⟩, .int .u64 0, .int .i64 0] 48)) kb := hT.step (World.grownBy_alloc _ _ none) (fun j hj => by cases hj)
  clear ht hbt hn
  have hc2 := hc
  have hd2 := hd
  unfold num at hc2 hd2
  go_enter Tryz.func39, Tryz.ntmps39
  go_wp2_with (first | (go_at_call 61; refine (lexLetter _ _).mono ?_; rintro e w' ⟨rfl, rfl⟩) | (go_at_call 65; refine (lexDigit _ _).mono ?_; rintro e w' ⟨rfl, rfl⟩) | (go_at_call 67; refine (signSize_at t n _ (by omega) HN).mono ?_; rintro e w1 ⟨rfl, hb1⟩; have hg1 := grown_of_below (row := some kb) hb1; have hT1 := hT0.step (grown_of_below (row := none) hb1) (fun j hj => by cases hj); have HK0 := keptBut hkb hg1; obtain ⟨c0, c1, c2, c3, f0, f1, f2, f3⟩ := four_facts HK0; have HK : Hid _ := HK0; clear HK0))
  have hW := four_all HK.out (.int .i64 0) (.string ⟨#[]⟩) (.int .u64 0) (.int .i64 0)
  obtain ⟨hT2, hg2⟩ := stored_read hkb hT1 hg1 (.int .i64 0) (.string ⟨#[]⟩) (.int .u64 0) (.int .i64 0)
  exact bodyPost_ret (v := .tuple #[.agg #[.int .i64 0, .string ⟨#[]⟩, .int .u64 0, .int .i64 0], .bool false]) (by simp [results, Tryz.results39, go_sem, four_cell0 hW, four_cell1 hW, four_cell2 hW, four_cell3 hW]) rfl ⟨by rw [HT.out]; rfl, hT2, hg2⟩
theorem read_any (s : ByteArray) (k kb : Nat) (w : World) (hs : s.size ≤ 65536) (hk : k < s.size) (hV : Vars w) (hT : Table w kb) :
    Calls Tryz.prog 39 #[.string s, .int .i64 k, .pointer (some ⟨kb, 0, none⟩)] w fun e w' => e = .returned (tokOut (readTok ((bys s).drop k) k)) ∧ Table w' kb ∧ w.grownBy w' (some kb) := by
  cases hc : letterB (num s[k])
  · cases hd : digitB (num s[k])
    · by_cases h0 : signN ((bys s).drop k) = 0
      · exact read_sign_none s k kb w hs hk hV hT _ hc hd rfl h0
      · exact read_sign_some s k kb w hs hk hV hT _ hc hd rfl h0
    · cases hD : digitTok ((bys s).drop k) k with
      | none => exact read_digit_none s k kb w hs hk hV hT hc hd hD
      | some t => exact read_digit_some s k kb w hs hk hV hT t hc hd hD
  · exact read_letter s k kb w hs hk hV hT hc
end Go.Proofs.YtfginegegaokbaaGreatDoor.Lx
