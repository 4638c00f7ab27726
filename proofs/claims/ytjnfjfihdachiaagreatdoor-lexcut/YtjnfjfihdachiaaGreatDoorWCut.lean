/- What the walk of the statement LexCut needs: the statements' own next as a whole, tokens compared, how its rounds go on. Conditions: as each theorem says. -/
import Derived.Test.YtjnfjfihdachiaaGreatDoorLexNextD
import Derived.Test.YtjnfjfihdachiaaGreatDoorLexNextS
import Derived.Test.YtjnfjfihdachiaaGreatDoorLexAwake
import Derived.Test.YtjnfjfihdachiaaGreatDoorLexTokEq
namespace Go.Proofs.YtjnfjfihdachiaaGreatDoor
open Go.ChangeShapes Go.WideShapes Go.ChangeAt Go.RowKit
set_option linter.unusedVariables false

theorem next_all (s : ByteArray) (k : Nat) (w : World) (hs : s.size ≤ 65536) (hk : k < s.size) :
    Calls Tryz.prog 13 #[.string s, .int .i64 k] w fun e w' => NextPost (readTok ((bys s).drop k) k) e ∧ Below w.heap.size w w' := by
  cases hc : letterB (num s[k])
  · cases hd : digitB (num s[k])
    · exact next_sign s k w hs hk hc hd
    · exact next_digit s k w hs hk hc hd
  · exact next_letter s k w hs hk hc
theorem next_some (s : ByteArray) (k : Nat) (t : Tok) (w : World) (hs : s.size ≤ 65536) (hk : k < s.size) (ht : Hid (readTok ((bys s).drop k) k = some t)) :
    Calls Tryz.prog 13 #[.string s, .int .i64 k] w fun e w' => e = .returned (.tuple #[.agg #[.int .i64 t.kind, .string (bstr t.text), .int .u64 t.value, .int .i64 t.at_], .bool true]) ∧ Below w.heap.size w w' := by
  have := next_all s k w hs hk
  rw [ht.out] at this
  exact this
theorem next_none (s : ByteArray) (k : Nat) (w : World) (hs : s.size ≤ 65536) (hk : k < s.size) (ht : Hid (readTok ((bys s).drop k) k = none)) :
    Calls Tryz.prog 13 #[.string s, .int .i64 k] w fun e w' => (∃ (x0 x2 x3 : Int) (x1 : ByteArray), e = .returned (.tuple #[.agg #[.int .i64 x0, .string x1, .int .u64 x2, .int .i64 x3], .bool false])) ∧ Below w.heap.size w w' := by
  have := next_all s k w hs hk
  rw [ht.out] at this
  exact this
theorem lawSkip_at (s : ByteArray) (k m : Nat) (w : World) (hs : s.size ≤ 65536) (h0 : k ≤ s.size) (hm : Hid (k + blanks false ((bys s).drop k) = m)) :
    Calls Tryz.prog 12 #[.string s, .int .i64 (k : Int)] w fun e w' => e = .returned (.int .i64 (m : Int)) ∧ w' = w := hm.out ▸ lawSkip s k w hs h0
theorem lawSkip_plus (s : ByteArray) (k n m : Nat) (w : World) (hs : s.size ≤ 65536) (h0 : k + n ≤ s.size) (hm : Hid (k + n + blanks false ((bys s).drop (k + n)) = m)) :
    Calls Tryz.prog 12 #[.string s, .int .i64 ((k : Int) + (n : Int))] w fun e w' => e = .returned (.int .i64 (m : Int)) ∧ w' = w := by
  have := lawSkip_at s (k + n) m w hs h0 hm
  rwa [show (((k + n : Nat)) : Int) = (k : Int) + (n : Int) from by omega] at this

theorem short_cut {l : List UInt8} (h : l.length ≤ 65536) : cutAll l = cutTok l := by unfold cutAll; rw [if_neg (by omega)]
/-- A round that finds a token finds the next one of Cut's. -/
theorem ok_round {L : List UInt8} {k f i : Nat} {ts : List Tok} {t : Tok} (hk : k < L.length) (hf : L.length - k < f) (hok : cutTok L = .ok ts) (hc : cutTok L = (goTok f (L.drop k) k).pre (ts.take i)) (hi : i ≤ ts.length)
    (ht : readTok (L.drop k) k = some t) : ts[i]? = some t ∧ i < ts.length := by
  obtain ⟨f', rfl⟩ : ∃ f', f = f' + 1 := ⟨f - 1, by omega⟩
  rw [hok, goTok_some ht, Res.pre_pre] at hc
  generalize goTok f' _ _ = q at hc
  cases q with
  | error p => simp [Res.pre] at hc
  | ok us =>
    simp only [Res.pre, Except.ok.injEq] at hc
    have hl : (ts.take i).length = i := by rw [List.length_take]; omega
    have e : ts[i]? = some t := by
      rw [hc, List.append_assoc, List.getElem?_append_right (by omega), hl]
      simp
    exact ⟨e, (List.getElem?_eq_some_iff.1 e).1⟩
theorem take_more {ts : List Tok} {i : Nat} {t : Tok} (h : ts[i]? = some t) : ts.take i ++ [t] = ts.take (i + 1) := by
  obtain ⟨hi, e⟩ := List.getElem?_eq_some_iff.1 h
  rw [List.take_succ_eq_append_getElem hi, e]
theorem ok_end {L : List UInt8} {k f i : Nat} {ts : List Tok} (hk : k = L.length) (hf : L.length - k < f) (hok : cutTok L = .ok ts) (hc : cutTok L = (goTok f (L.drop k) k).pre (ts.take i)) (hi : i ≤ ts.length) :
    ts.length = i + 1 ∧ ts[i]? = some ⟨0, [], 0, L.length⟩ := by
  obtain ⟨f', rfl⟩ : ∃ f', f = f' + 1 := ⟨f - 1, by omega⟩
  rw [hok, hk, List.drop_length, goTok_nil] at hc
  simp only [Res.pre, Except.ok.injEq] at hc
  have hl : (ts.take i).length = i := by rw [List.length_take]; omega
  refine ⟨by have := congrArg List.length hc; rw [List.length_append, hl] at this; simpa using this, ?_⟩
  rw [hc, List.getElem?_append_right (by omega), hl]
  simp
end Go.Proofs.YtjnfjfihdachiaaGreatDoor
