/- What the statements' own next answers where no letter and no digit stands. Conditions: the place lies in the text, which has at most 65536 bytes. -/
import Derived.Test.YtjnfjfihdachiaaGreatDoorLexNextL
namespace Go.Proofs.YtjnfjfihdachiaaGreatDoor
open Go.ChangeShapes Go.WideShapes Go.ChangeAt Go.RowKit
set_option linter.unusedVariables false

theorem prefix_take {p l : List UInt8} (h : 2 ≤ l.length) (hp : p.length = 2) : p.isPrefixOf l = (l.take 2 == p) := by
  match p, hp, l, h with
  | [a, b], _, x :: y :: r, _ => 
    rw [Bool.eq_iff_iff]
    simp [List.isPrefixOf]
    constructor
    · rintro ⟨h1, h2⟩; exact ⟨h1.symm, h2.symm⟩
    · rintro ⟨h1, h2⟩; exact ⟨h1.symm, h2.symm⟩
theorem prefix_short {p l : List UInt8} (h : l.length < 2) (hp : p.length = 2) : p.isPrefixOf l = false := by
  match p, hp, l, h with
  | [a, b], _, [], _ => rfl
  | [a, b], _, [x], _ => simp [List.isPrefixOf]
  | [a, b], _, x :: y :: r, h => simp at h; omega
/-- A sign of two bytes. -/
def twoB (t : List UInt8) : Bool := t == [60, 60] || t == [62, 62] || t == [61, 61]
theorem signN_two {l : List UInt8} (h : 2 ≤ l.length) (ht : twoB (l.take 2) = true) : signN l = 2 := by
  unfold twoB at ht
  unfold signN
  rw [prefix_take h rfl, prefix_take h rfl, prefix_take h rfl]
  cases h1 : (l.take 2 == [60, 60]) <;> cases h2 : (l.take 2 == [62, 62]) <;> cases h3 : (l.take 2 == [61, 61]) <;> simp_all
theorem signN_one {c : UInt8} {r : List UInt8} (h : (c :: r).length < 2 ∨ twoB ((c :: r).take 2) = false) : signN (c :: r) = if signList.contains c then 1 else 0 := by
  have hp : [60, 60].isPrefixOf (c :: r) = false ∧ [62, 62].isPrefixOf (c :: r) = false ∧ [61, 61].isPrefixOf (c :: r) = false := by
    rcases Nat.lt_or_ge (c :: r).length 2 with hl | hl
    · exact ⟨prefix_short hl rfl, prefix_short hl rfl, prefix_short hl rfl⟩
    · have ht : twoB ((c :: r).take 2) = false := by
        rcases h with h | h
        · omega
        · exact h
      unfold twoB at ht
      simp only [Bool.or_eq_false_iff] at ht
      rw [prefix_take hl rfl, prefix_take hl rfl, prefix_take hl rfl]
      exact ⟨ht.1.1, ht.1.2, ht.2⟩
  unfold signN
  rw [hp.1, hp.2.1, hp.2.2]
  simp
def signStr : ByteArray := ⟨#[59, 61, 91, 93, 123, 125, 40, 41, 44, 43, 45, 42, 38, 124, 94, 60, 126]⟩
theorem signStr_size : signStr.size = 17 := rfl
theorem signStr_get : ∀ i : Fin 17, signStr[i.val]'(by rw [signStr_size]; exact i.isLt) = signList.getD i.val 0 := by decide

theorem sign_at (j : Nat) (hj : j < 17) (c : UInt8) : (((signStr[j]'(by rw [signStr_size]; exact hj)).toNat : Int) == (c.toNat : Int)) = (signList.getD j 0 == c) := by
  have h := signStr_get ⟨j, hj⟩
  simp only at h
  rw [h, Bool.eq_iff_iff]
  simp only [beq_iff_eq]
  constructor
  · intro e; exact UInt8.toNat_inj.1 (by omega)
  · intro e; rw [e]
theorem sign_hit (j : Nat) (hj : j < 17) (c : UInt8) (h : (signList.getD j 0 == c) = true) : signList.contains c = true := by
  have h' : j < signList.length := hj
  have e : signList.getD j 0 = signList[j] := by simp [List.getD, h']
  rw [e] at h
  rw [← eq_of_beq h]
  simp
theorem sign_miss (j : Nat) (hj : j < 17) (c : UInt8) (h0 : (signList.take j).contains c = false) (h : (signList.getD j 0 == c) = false) : (signList.take (j + 1)).contains c = false := by
  have h' : j < signList.length := hj
  have e : signList.getD j 0 = signList[j] := by simp [List.getD, h']
  rw [e] at h
  rw [List.take_succ_eq_append_getElem h', List.contains_eq_any_beq, List.any_append, ← List.contains_eq_any_beq, h0]
  have : ¬ c = signList[j] := fun e2 => by rw [← e2] at h; simp at h
  simpa using this

theorem four_new (w : World) (u0 u1 u2 u3 : Value) : Below w.heap.size w (w.alloc (.cells #[u0, u1, u2, u3] 32)) := (Below.refl _ w).alloc (Nat.le_refl _) _
set_option maxRecDepth 100000 in
set_option maxHeartbeats 8000000 in
theorem next_two (s : ByteArray) (k : Nat) (w : World) (hs : s.size ≤ 65536) (hk : k + 2 ≤ s.size) (hc : letterB (num s[k]) = false) (hd : digitB (num s[k]) = false) (ht : twoB (((bys s).drop k).take 2) = true) :
    Calls Tryz.prog 13 #[.string s, .int .i64 k] w fun e w' => NextPost (readTok ((bys s).drop k) k) e ∧ Below w.heap.size w w' := by
  have hlen : 2 ≤ ((bys s).drop k).length := by rw [List.length_drop, bys_length]; omega
  have HT : Hid (readTok ((bys s).drop k) k = some ⟨4, ((bys s).drop k).take 2, 0, k⟩) := by
    show _ = _
    have h2 := signN_two hlen ht
    have hd' := drop_cons s k (by omega)
    rw [hd'] at h2 ⊢
    unfold readTok
    simp only [hc, hd, h2, Bool.false_eq_true, if_false]
    rfl
  obtain ⟨u, hu⟩ : ∃ u, u = s.extract k (k + 2) := ⟨_, rfl⟩
  have hub : bys u = ((bys s).drop k).take 2 := by rw [hu, extract_bys]; congr 1; omega
  have hcut := cut_plus (n := 2) hk hu.symm
  have hcut' : ∀ W : World, (Instr.slice 9 (.string s) (some (.int .i64 (k : Int))) (some (.int .i64 ((k : Int) + 2))) none).run Tryz.prog W = .ok (.string u) W := hcut
  have HU : Hid (bstr (((bys s).drop k).take 2) = u) := by rw [← hub]; exact bstr_bys u
  have hut : u.toList = bys u := Lib.toList_data u
  rw [← hub, ← hut] at ht
  unfold twoB at ht
  clear hu hub hcut hut
  have hc' := hc
  have hd' := hd
  unfold num at hc' hd'
  have hway : (u.toList == [60, 60]) = true ∨ ((u.toList == [60, 60]) = false ∧ (u.toList == [62, 62]) = true) ∨ ((u.toList == [60, 60]) = false ∧ (u.toList == [62, 62]) = false ∧ (u.toList == [61, 61]) = true) := by
    cases h1 : (u.toList == [60, 60]) <;> cases h2 : (u.toList == [62, 62]) <;> simp_all
  clear ht
  have hlt : (k : Int) + 1 < (s.size : Int) := by omega
  rcases hway with h1 | ⟨h1, h2⟩ | ⟨h1, h2, h3⟩
  all_goals
    go_enter Tryz.func13, Tryz.ntmps13
    go_wp2_with (first | (go_at_call 23; refine (lawLetter _ _).mono ?_; rintro e w' ⟨rfl, rfl⟩) | (go_at_call 24; refine (lawDigit _ _).mono ?_; rintro e w' ⟨rfl, rfl⟩))
    refine bodyPost_ret (v := .tuple #[.agg #[.int .i64 4, .string u, .int .u64 0, .int .i64 k], .bool true]) (by simp [results, Tryz.results13, go_sem]) rfl ⟨?_, four_new w _ _ _ _⟩
    rw [HT.out]
    simp only [NextPost, HU.out]
    rfl
set_option maxRecDepth 100000 in
set_option maxHeartbeats 8000000 in
theorem next_one (s : ByteArray) (k : Nat) (w : World) (hs : s.size ≤ 65536) (hk : k < s.size) (hc : letterB (num s[k]) = false) (hd : digitB (num s[k]) = false)
    (ht : ¬ k + 1 < s.size ∨ (k + 1 < s.size ∧ twoB (((bys s).drop k).take 2) = false)) :
    Calls Tryz.prog 13 #[.string s, .int .i64 k] w fun e w' => NextPost (readTok ((bys s).drop k) k) e ∧ Below w.heap.size w w' := by
  have hd0 := drop_cons s k hk
  have HN : Hid (readTok ((bys s).drop k) k = if signList.contains s[k] then some ⟨4, [s[k]], 0, k⟩ else none) := by
    show _ = _
    have h2 : signN ((bys s).drop k) = if signList.contains s[k] then 1 else 0 := by
      have hL : ((bys s).drop k).length = s.size - k := by rw [List.length_drop, bys_length]
      rw [hd0] at ht hL ⊢
      refine signN_one ?_
      rcases ht with h | ⟨_, h⟩
      · left; omega
      · right; exact h
    rw [hd0] at h2 ⊢
    unfold readTok
    simp only [hc, hd, h2, Bool.false_eq_true, if_false]
    cases signList.contains s[k] <;> rfl
  have hx : s.extract k (k + 1) = bstr [s[k]] := by rw [extract_bstr, hd0, Nat.add_sub_cancel_left]; rfl
  have hcut := cut_plus (n := 1) hk hx
  have hcut' : ∀ W : World, (Instr.slice 9 (.string s) (some (.int .i64 (k : Int))) (some (.int .i64 ((k : Int) + 1))) none).run Tryz.prog W = .ok (.string (bstr [s[k]])) W := hcut
  clear hx hcut hd0
  have hc' := hc
  have hd' := hd
  unfold num at hc' hd'
  rcases ht with hlt | ⟨hlt, h2⟩
  · have hle : (s.size : Int) ≤ (k : Int) + 1 := by omega
    go_enter Tryz.func13, Tryz.ntmps13
    go_wp2_with (first | (go_at_call 23; refine (lawLetter _ _).mono ?_; rintro e w' ⟨rfl, rfl⟩) | (go_at_call 24; refine (lawDigit _ _).mono ?_; rintro e w' ⟨rfl, rfl⟩))
    go_loop [12] (fun i => ∃ j : Nat, j ≤ 17 ∧ i = .int .i64 j ∧ Hid ((signList.take j).contains s[k] = false)) (fun i => 17 - (intOf i).toNat)
    case atStart => exact ⟨0, by omega, rfl, rfl⟩
    case round =>
      obtain ⟨j, hj17, rfl, HJ⟩ := hrel
      by_cases hj : j < 17
      · have hat := sign_at j hj s[k]
        cases hq : (signList.getD j 0 == s[k])
        · have HM : Hid ((signList.take (j + 1)).contains s[k] = false) := sign_miss j hj s[k] HJ.out hq
          rw [hq] at hat
          have hat' : ((((⟨#[59, 61, 91, 93, 123, 125, 40, 41, 44, 43, 45, 42, 38, 124, 94, 60, 126]⟩ : ByteArray)[j]'hj).toNat : Int) == (s[k].toNat : Int)) = false := hat
          clear hat hq HJ
          go_wp2
          go_round
          case rel => exact ⟨j + 1, by omega, by go_num, HM⟩
          case measure => simp [intOf]; omega
        · have HM : Hid (signList.contains s[k] = true) := sign_hit j hj s[k] hq
          rw [hq] at hat
          have hat' : ((((⟨#[59, 61, 91, 93, 123, 125, 40, 41, 44, 43, 45, 42, 38, 124, 94, 60, 126]⟩ : ByteArray)[j]'hj).toNat : Int) == (s[k].toNat : Int)) = true := hat
          clear hat hq HJ
          go_wp2
          refine bodyPost_ret (v := .tuple #[.agg #[.int .i64 4, .string (bstr [s[k]]), .int .u64 0, .int .i64 k], .bool true]) (by simp [results, Tryz.results13, go_sem]) rfl ⟨?_, four_new w _ _ _ _⟩
          rw [HN.out, HM.out]
          exact rfl
      · obtain rfl : j = 17 := by omega
        have HM : Hid (signList.contains s[k] = false) := HJ.out
        clear HJ
        go_wp2
        refine bodyPost_ret (v := .tuple #[.agg #[.int .i64 0, .string ⟨#[]⟩, .int .u64 0, .int .i64 0], .bool false]) (by simp [results, Tryz.results13, go_sem]) rfl ⟨?_, four_new w _ _ _ _⟩
        rw [HN.out, HM.out]
        exact ⟨0, 0, 0, _, rfl⟩
  · obtain ⟨u, hu⟩ : ∃ u, u = s.extract k (k + 2) := ⟨_, rfl⟩
    have hub : bys u = ((bys s).drop k).take 2 := by rw [hu, extract_bys]; congr 1; omega
    have hcu := cut_plus (n := 2) (by omega) hu.symm
    have hcu' : ∀ W : World, (Instr.slice 9 (.string s) (some (.int .i64 (k : Int))) (some (.int .i64 ((k : Int) + 2))) none).run Tryz.prog W = .ok (.string u) W := hcu
    have hut : u.toList = bys u := Lib.toList_data u
    rw [← hub, ← hut] at h2
    unfold twoB at h2
    simp only [Bool.or_eq_false_iff] at h2
    obtain ⟨⟨h60, h62⟩, h61⟩ := h2
    have hlt' : (k : Int) + 1 < (s.size : Int) := by omega
    clear hu hub hcu hut
    go_enter Tryz.func13, Tryz.ntmps13
    go_wp2_with (first | (go_at_call 23; refine (lawLetter _ _).mono ?_; rintro e w' ⟨rfl, rfl⟩) | (go_at_call 24; refine (lawDigit _ _).mono ?_; rintro e w' ⟨rfl, rfl⟩))
    go_loop [12] (fun i => ∃ j : Nat, j ≤ 17 ∧ i = .int .i64 j ∧ Hid ((signList.take j).contains s[k] = false)) (fun i => 17 - (intOf i).toNat)
    case atStart => exact ⟨0, by omega, rfl, rfl⟩
    case round =>
      obtain ⟨j, hj17, rfl, HJ⟩ := hrel
      by_cases hj : j < 17
      · have hat := sign_at j hj s[k]
        cases hq : (signList.getD j 0 == s[k])
        · have HM : Hid ((signList.take (j + 1)).contains s[k] = false) := sign_miss j hj s[k] HJ.out hq
          rw [hq] at hat
          have hat' : ((((⟨#[59, 61, 91, 93, 123, 125, 40, 41, 44, 43, 45, 42, 38, 124, 94, 60, 126]⟩ : ByteArray)[j]'hj).toNat : Int) == (s[k].toNat : Int)) = false := hat
          clear hat hq HJ
          go_wp2
          go_round
          case rel => exact ⟨j + 1, by omega, by go_num, HM⟩
          case measure => simp [intOf]; omega
        · have HM : Hid (signList.contains s[k] = true) := sign_hit j hj s[k] hq
          rw [hq] at hat
          have hat' : ((((⟨#[59, 61, 91, 93, 123, 125, 40, 41, 44, 43, 45, 42, 38, 124, 94, 60, 126]⟩ : ByteArray)[j]'hj).toNat : Int) == (s[k].toNat : Int)) = true := hat
          clear hat hq HJ
          go_wp2
          refine bodyPost_ret (v := .tuple #[.agg #[.int .i64 4, .string (bstr [s[k]]), .int .u64 0, .int .i64 k], .bool true]) (by simp [results, Tryz.results13, go_sem]) rfl ⟨?_, four_new w _ _ _ _⟩
          rw [HN.out, HM.out]
          exact rfl
      · obtain rfl : j = 17 := by omega
        have HM : Hid (signList.contains s[k] = false) := HJ.out
        clear HJ
        go_wp2
        refine bodyPost_ret (v := .tuple #[.agg #[.int .i64 0, .string ⟨#[]⟩, .int .u64 0, .int .i64 0], .bool false]) (by simp [results, Tryz.results13, go_sem]) rfl ⟨?_, four_new w _ _ _ _⟩
        rw [HN.out, HM.out]
        exact ⟨0, 0, 0, _, rfl⟩
theorem next_sign (s : ByteArray) (k : Nat) (w : World) (hs : s.size ≤ 65536) (hk : k < s.size) (hc : letterB (num s[k]) = false) (hd : digitB (num s[k]) = false) :
    Calls Tryz.prog 13 #[.string s, .int .i64 k] w fun e w' => NextPost (readTok ((bys s).drop k) k) e ∧ Below w.heap.size w w' := by
  by_cases hlt : k + 1 < s.size
  · cases ht : twoB (((bys s).drop k).take 2)
    · exact next_one s k w hs hk hc hd (Or.inr ⟨hlt, ht⟩)
    · exact next_two s k w hs (by omega) hc hd ht
  · exact next_one s k w hs hk hc hd (Or.inl hlt)
end Go.Proofs.YtjnfjfihdachiaaGreatDoor
