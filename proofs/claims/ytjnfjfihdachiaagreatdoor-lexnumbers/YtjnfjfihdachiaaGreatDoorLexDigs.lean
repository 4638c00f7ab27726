/- A number's digits, and what Cut answers at them with noughts ahead. Conditions: as each theorem says. -/
import Derived.Test.YtjnfjfihdachiaaGreatDoorLexPlain
namespace Go.Proofs.YtjnfjfihdachiaaGreatDoor
set_option linter.unusedVariables false

/-- A number's digits, in so many steps; none of nought. -/
def digsIn : Nat → Nat → List UInt8
  | 0, _ => []
  | f + 1, m => if m = 0 then [] else digsIn f (m / 10) ++ [UInt8.ofNat (48 + m % 10)]
theorem digsIn_enough : ∀ (f g m : Nat), m ≤ f → m ≤ g → digsIn f m = digsIn g m
  | 0, 0, m, hf, hg => rfl
  | 0, g + 1, m, hf, hg => by
    obtain rfl : m = 0 := by omega
    rfl
  | f + 1, 0, m, hf, hg => by
    obtain rfl : m = 0 := by omega
    rfl
  | f + 1, g + 1, m, hf, hg => by
    unfold digsIn
    split
    · rfl
    · rw [digsIn_enough f g (m / 10) (by omega) (by omega)]
/-- A number's digits; none of nought. -/
def digs (m : Nat) : List UInt8 := digsIn m m
theorem digs_zero : digs 0 = [] := rfl
theorem digs_pos {m : Nat} (h : 0 < m) : digs m = digs (m / 10) ++ [UInt8.ofNat (48 + m % 10)] := by
  obtain ⟨k, rfl⟩ : ∃ k, m = k + 1 := ⟨m - 1, by omega⟩
  unfold digs
  conv => lhs; unfold digsIn
  rw [if_neg (by omega), digsIn_enough k ((k + 1) / 10) ((k + 1) / 10) (by omega) (Nat.le_refl _)]
theorem digs_len : ∀ (k m : Nat), m < 10 ^ k → (digs m).length ≤ k
  | 0, m, h => by
    obtain rfl : m = 0 := by simpa using h
    rw [digs_zero]; simp
  | k + 1, m, h => by
    rcases Nat.eq_zero_or_pos m with rfl | hp
    · rw [digs_zero]; simp
    · have : m / 10 < 10 ^ k := by rw [Nat.pow_succ] at h; omega
      have := digs_len k (m / 10) this
      rw [digs_pos hp, List.length_append]
      simp; omega
theorem ofNat_digit (d : Nat) (h : d < 10) : (UInt8.ofNat (48 + d)).toNat = 48 + d := by
  have : (48 + d) < 256 := by omega
  simp [UInt8.toNat_ofNat, Nat.mod_eq_of_lt this]
theorem digs_digit : ∀ (m : Nat), ∀ c ∈ digs m, digitB (num c) = true := by
  intro m
  induction m using Nat.strongRecOn with
  | ind m ih =>
    rcases Nat.eq_zero_or_pos m with rfl | hp
    · rw [digs_zero]; simp
    · rw [digs_pos hp]
      intro c hc
      rw [List.mem_append] at hc
      rcases hc with hc | hc
      · exact ih (m / 10) (by omega) c hc
      · simp only [List.mem_singleton] at hc
        subst hc
        have h10 : m % 10 < 10 := Nat.mod_lt _ (by omega)
        apply digit_yes
        unfold num
        rw [ofNat_digit _ h10]
        omega
theorem numFrom_append : ∀ (a b : List UInt8) (acc : Nat), numFrom acc (a ++ b) = (numFrom acc a).bind (fun x => numFrom x b)
  | [], b, acc => rfl
  | c :: a, b, acc => by
    rw [List.cons_append, numFrom, numFrom]
    split
    · exact numFrom_append a b _
    · rfl
theorem numFrom_digs : ∀ (m : Nat), m < 18446744073709551616 → numFrom 0 (digs m) = some m := by
  intro m
  induction m using Nat.strongRecOn with
  | ind m ih =>
    intro hm
    rcases Nat.eq_zero_or_pos m with rfl | hp
    · rw [digs_zero]; rfl
    · rw [digs_pos hp, numFrom_append, ih (m / 10) (by omega) (by omega)]
      have h10 : m % 10 < 10 := Nat.mod_lt _ (by omega)
      have e : m / 10 * 10 + ((UInt8.ofNat (48 + m % 10)).toNat - 48) = m := by rw [ofNat_digit _ h10]; omega
      show numFrom (m / 10) [UInt8.ofNat (48 + m % 10)] = some m
      rw [numFrom, if_pos (by rw [e]; exact hm), e]
      rfl
theorem numFrom_noughts (c : Nat) (l : List UInt8) : numFrom 0 (List.replicate c 48 ++ l) = numFrom 0 l := by
  induction c with
  | zero => rfl
  | succ c ih =>
    rw [List.replicate_succ, List.cons_append, numFrom, if_pos (by decide)]
    exact ih
theorem lead_whole (p : Int → Bool) : ∀ l : List UInt8, (∀ c ∈ l, p (num c) = true) → lead p l = l.length
  | [], _ => rfl
  | c :: r, h => by rw [lead_yes (h c (by simp)), lead_whole p r (fun d hd => h d (by simp [hd]))]; rfl
/-- Digits alone are one token. -/
theorem cut_digits {l : List UInt8} {n : Nat} (hne : l ≠ []) (hlen : l.length ≤ 65536) (hd : ∀ c ∈ l, digitB (num c) = true) (hn : numFrom 0 l = some n) :
    cutAll l = .ok [⟨3, l, n, 0⟩, ⟨0, [], 0, l.length⟩] := by
  match l, hne with
  | c :: r, _ =>
    have hc := digit_is (hd c (by simp))
    have hb : blanks false (c :: r) = 0 := by
      unfold blanks
      rw [if_neg (by omega), if_neg (by omega), blank_no (by omega)]
      rfl
    have hl : lead digitB (c :: r) = (c :: r).length := lead_whole _ _ hd
    have hr : readTok (c :: r) 0 = some ⟨3, c :: r, n, 0⟩ := by
      unfold readTok
      simp only
      rw [letter_no (by omega), hd c (by simp)]
      simp only [Bool.false_eq_true, if_false, if_true]
      unfold digitTok
      rw [hl, List.drop_length, List.take_length, hn]
      rfl
    unfold cutAll
    rw [if_neg (by omega)]
    unfold cutTok
    rw [hb, List.drop_zero]
    rw [goTok_some hr]
    simp only [List.drop_length]
    have e : blanks false ([] : List UInt8) = 0 := rfl
    rw [e]
    simp only [List.drop_nil, List.length_cons, Nat.add_zero, Nat.zero_add]
    rw [goTok_nil]
    rfl
theorem cut_number (c n : Nat) (hc : 0 < c) (hc5 : c ≤ 5) (hn : n < 18446744073709551616) :
    cutAll (List.replicate c 48 ++ digs n) = .ok [⟨3, List.replicate c 48 ++ digs n, n, 0⟩, ⟨0, [], 0, (List.replicate c 48 ++ digs n).length⟩] := by
  refine cut_digits ?_ ?_ ?_ ?_
  · intro h
    have := congrArg List.length h
    simp at this
    omega
  · have := digs_len 20 n (by omega)
    simp; omega
  · intro d hd
    rw [List.mem_append] at hd
    rcases hd with hd | hd
    · rw [List.mem_replicate] at hd
      rw [hd.2]; rfl
    · exact digs_digit n d hd
  · rw [numFrom_noughts, numFrom_digs n hn]
end Go.Proofs.YtjnfjfihdachiaaGreatDoor
