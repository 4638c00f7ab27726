/- What package lex is to answer, in plain words: bytes' classes, how far blanks and runs go, what token begins a text, and a whole text's tokens; and how these functions step. Conditions: none. -/
import Derived.Below
import Derived.Lib.Strings
namespace Go.Proofs.YtlepckjmdjjolaaGreatDoor.Lx

def blankB (c : Int) : Bool := decide (c = 32 ∨ c = 9 ∨ c = 10 ∨ c = 13)
def letterB (c : Int) : Bool := decide ((97 ≤ c ∧ c ≤ 122) ∨ c = 95)
def digitB (c : Int) : Bool := decide (48 ≤ c ∧ c ≤ 57)
def wordB (c : Int) : Bool := letterB c || digitB c

theorem blank_yes {c : Int} (h : c = 32 ∨ c = 9 ∨ c = 10 ∨ c = 13) : blankB c = true := by unfold blankB; simpa using h
theorem blank_no {c : Int} (h : ¬ (c = 32 ∨ c = 9 ∨ c = 10 ∨ c = 13)) : blankB c = false := by unfold blankB; simpa using h
theorem letter_yes {c : Int} (h : (97 ≤ c ∧ c ≤ 122) ∨ c = 95) : letterB c = true := by unfold letterB; simpa using h
theorem letter_no {c : Int} (h : ¬ ((97 ≤ c ∧ c ≤ 122) ∨ c = 95)) : letterB c = false := by unfold letterB; exact decide_eq_false h
theorem digit_yes {c : Int} (h : 48 ≤ c ∧ c ≤ 57) : digitB c = true := by unfold digitB; simpa using h
theorem digit_no {c : Int} (h : ¬ (48 ≤ c ∧ c ≤ 57)) : digitB c = false := by unfold digitB; exact decide_eq_false h
theorem digit_is {c : Int} (h : digitB c = true) : 48 ≤ c ∧ c ≤ 57 := by unfold digitB at h; exact of_decide_eq_true h
theorem digit_isnt {c : Int} (h : digitB c = false) : ¬ (48 ≤ c ∧ c ≤ 57) := by unfold digitB at h; exact of_decide_eq_false h
theorem letter_is {c : Int} (h : letterB c = true) : (97 ≤ c ∧ c ≤ 122) ∨ c = 95 := by unfold letterB at h; exact of_decide_eq_true h
theorem letter_isnt {c : Int} (h : letterB c = false) : ¬ ((97 ≤ c ∧ c ≤ 122) ∨ c = 95) := by unfold letterB at h; exact of_decide_eq_false h
theorem blank_is {c : Int} (h : blankB c = true) : c = 32 ∨ c = 9 ∨ c = 10 ∨ c = 13 := by unfold blankB at h; exact of_decide_eq_true h
theorem blank_isnt {c : Int} (h : blankB c = false) : ¬ (c = 32 ∨ c = 9 ∨ c = 10 ∨ c = 13) := by unfold blankB at h; exact of_decide_eq_false h

/-- A byte as a number. -/
def num (c : UInt8) : Int := (c.toNat : Int)

/-- How many bytes of a class a text begins with. -/
def lead (p : Int → Bool) : List UInt8 → Nat
  | [] => 0
  | c :: r => if p (num c) then lead p r + 1 else 0
/-- How many bytes of blanks and remarks a text begins with; rem: it begins inside a remark. -/
def blanks (rem : Bool) : List UInt8 → Nat
  | [] => 0
  | c :: r => if num c = 35 then blanks true r + 1 else if num c = 10 then blanks false r + 1 else if rem || blankB (num c) then blanks rem r + 1 else 0

theorem lead_le (p : Int → Bool) : ∀ l, lead p l ≤ l.length
  | [] => Nat.le_refl _
  | c :: r => by unfold lead; have := lead_le p r; split <;> simp <;> omega
theorem blanks_le : ∀ (rem : Bool) l, blanks rem l ≤ l.length
  | _, [] => Nat.le_refl _
  | rem, c :: r => by
    unfold blanks
    have h1 := blanks_le true r
    have h2 := blanks_le false r
    have h3 := blanks_le rem r
    (repeat' split) <;> simp <;> omega
theorem lead_yes {p : Int → Bool} {c : UInt8} {r : List UInt8} (h : p (num c) = true) : lead p (c :: r) = lead p r + 1 := by simp [lead, h]
theorem lead_no {p : Int → Bool} {c : UInt8} {r : List UInt8} (h : p (num c) = false) : lead p (c :: r) = 0 := by simp [lead, h]
theorem lead_all (p : Int → Bool) : ∀ l : List UInt8, ∀ c ∈ l.take (lead p l), p (num c) = true
  | [] => by simp
  | c :: r => by
    unfold lead
    split
    · rename_i h
      intro d hd
      simp only [List.take_succ_cons, List.mem_cons] at hd
      rcases hd with rfl | hd
      · exact h
      · exact lead_all p r d hd
    · simp
theorem lead_next (p : Int → Bool) : ∀ (l : List UInt8) c r, l.drop (lead p l) = c :: r → p (num c) = false
  | [], c, r, h => by simp [lead] at h
  | d :: l, c, r, h => by
    unfold lead at h
    split at h
    · simp only [List.drop_succ_cons] at h; exact lead_next p l c r h
    · rename_i hd
      simp only [List.drop_zero, List.cons.injEq] at h
      rw [← h.1]; simpa using hd
theorem blanks_next : ∀ (rem : Bool) (l : List UInt8) c r, l.drop (blanks rem l) = c :: r → num c ≠ 35 ∧ blankB (num c) = false
  | rem, [], c, r, h => by simp [blanks] at h
  | rem, d :: l, c, r, h => by
    unfold blanks at h
    split at h
    · simp only [List.drop_succ_cons] at h; exact blanks_next true l c r h
    · split at h
      · simp only [List.drop_succ_cons] at h; exact blanks_next false l c r h
      · split at h
        · simp only [List.drop_succ_cons] at h; exact blanks_next rem l c r h
        · rename_i h1 h2 h3
          simp only [List.drop_zero, List.cons.injEq] at h
          rw [← h.1]
          exact ⟨h1, by cases e : blankB (num d) <;> simp_all⟩

/-- The number of digits, behind a number that was read; nothing, if it is no word. -/
def numFrom (acc : Nat) : List UInt8 → Option Nat
  | [] => some acc
  | c :: r => if acc * 10 + (c.toNat - 48) < 18446744073709551616 then numFrom (acc * 10 + (c.toNat - 48)) r else none

def keyWords : List (List UInt8) :=
  [[112, 117, 98, 108, 105, 99], [115, 101, 99, 114, 101, 116], [108, 111, 99, 107], [98, 121], [116, 104, 114, 101, 97, 100], [105, 102], [101, 108, 115, 101], [108, 111, 111, 112], [116, 97, 107, 101], [103, 105, 118, 101], [97, 100, 100], [102, 101, 110, 99, 101], [111, 117, 116, 112, 117, 116], [108, 111, 99, 97, 108], [112, 105, 99, 107]]
def keyB (t : List UInt8) : Bool := keyWords.contains t
def signList : List UInt8 := [59, 61, 91, 93, 123, 125, 40, 41, 44, 43, 45, 42, 38, 124, 94, 60, 126]
/-- How many bytes the longest sign has with which a text begins. -/
def signN (l : List UInt8) : Nat :=
  if [60, 60].isPrefixOf l then 2 else if [62, 62].isPrefixOf l then 2 else if [61, 61].isPrefixOf l then 2 else
  match l with
  | c :: _ => if signList.contains c then 1 else 0
  | [] => 0

structure Tok where
  kind : Nat
  text : List UInt8
  value : Nat
  at_ : Nat
/-- Whether two tokens are the same can be told. -/
def tokDec (a b : Tok) : Decidable (a = b) :=
  decidable_of_iff (a.kind = b.kind ∧ a.text = b.text ∧ a.value = b.value ∧ a.at_ = b.at_) ⟨fun ⟨h1, h2, h3, h4⟩ => by cases a; cases b; simp_all, fun h => by cases h; exact ⟨rfl, rfl, rfl, rfl⟩⟩

def startsLetter : List UInt8 → Bool
  | c :: _ => letterB (num c)
  | [] => false
/-- The digits' token. -/
def digitTok (l : List UInt8) (k : Nat) : Option Tok :=
  if startsLetter (l.drop (lead digitB l)) then none else
  match numFrom 0 (l.take (lead digitB l)) with
  | some v => some ⟨3, l.take (lead digitB l), v, k⟩
  | none => none
/-- The token that a text begins with. -/
def readTok (l : List UInt8) (k : Nat) : Option Tok :=
  match l with
  | [] => none
  | c :: _ =>
    if letterB (num c) then some ⟨if keyB (l.take (lead wordB l)) then 2 else 1, l.take (lead wordB l), 0, k⟩
    else if digitB (num c) then digitTok l k
    else if signN l = 0 then none else some ⟨4, l.take (signN l), 0, k⟩

/-- Tokens, or what is wrong and where. -/
abbrev Res := Except (Nat × Nat) (List Tok)
/-- Whether two of these are the same can be told. -/
def resDec : (a b : Res) → Decidable (a = b)
  | .ok x, .ok y =>
    haveI : DecidableEq Tok := tokDec
    decidable_of_iff (x = y) ⟨fun h => by rw [h], fun h => by cases h; rfl⟩
  | .error x, .error y => decidable_of_iff (x = y) ⟨fun h => by rw [h], fun h => by cases h; rfl⟩
  | .ok _, .error _ => isFalse (fun h => by cases h)
  | .error _, .ok _ => isFalse (fun h => by cases h)
abbrev Res.err (no k : Nat) : Res := .error (no, k)
def Res.pre (ts : List Tok) : Res → Res
  | .ok us => .ok (ts ++ us)
  | .error p => .error p
theorem Res.pre_pre (ts us : List Tok) (r : Res) : (r.pre us).pre ts = r.pre (ts ++ us) := by cases r <;> simp [Res.pre]
theorem Res.pre_nil (r : Res) : r.pre [] = r := by cases r <;> simp [Res.pre]

/-- The tokens of a text, blanks ahead of which are gone; k: where it begins. -/
def goTok : Nat → List UInt8 → Nat → Res
  | 0, _, _ => .err 0 0
  | f + 1, l, k =>
    match l with
    | [] => .ok [⟨0, [], 0, k⟩]
    | _ =>
      match readTok l k with
      | none => .err 1 k
      | some t => (goTok f ((l.drop t.text.length).drop (blanks false (l.drop t.text.length))) (k + t.text.length + blanks false (l.drop t.text.length))).pre [t]
/-- The tokens of a text of no more than its limit. -/
def cutTok (l : List UInt8) : Res := goTok (l.length + 1) (l.drop (blanks false l)) (blanks false l)
/-- What Cut answers. -/
def cutAll (l : List UInt8) : Res := if 65536 < l.length then .err 6 0 else cutTok l

theorem isPrefix_two {a b : UInt8} {l : List UInt8} (h : [a, b].isPrefixOf l = true) : 2 ≤ l.length := by
  match l, h with
  | [], h => simp at h
  | [_], h => simp at h
  | _ :: _ :: _, _ => simp
theorem signN_le (l : List UInt8) : signN l ≤ l.length := by
  unfold signN
  split
  · exact isPrefix_two ‹_›
  · split
    · exact isPrefix_two ‹_›
    · split
      · exact isPrefix_two ‹_›
      · split
        · split <;> simp
        · simp
theorem readTok_some {l : List UInt8} {k : Nat} {t : Tok} (h : readTok l k = some t) : ∃ n, t.text = l.take n ∧ 0 < n ∧ n ≤ l.length ∧ t.text.length = n ∧ t.at_ = k := by
  unfold readTok at h
  match l, h with
  | c :: r, h =>
    simp only at h
    split at h
    · rename_i hc
      cases h
      have h1 := lead_le wordB (c :: r)
      refine ⟨lead wordB (c :: r), rfl, ?_, h1, by rw [List.length_take]; omega, rfl⟩
      rw [lead_yes (by simp [wordB, hc])]; omega
    · split at h
      · rename_i hc
        unfold digitTok at h
        split at h
        · cases h
        · split at h
          · cases h
            have h1 := lead_le digitB (c :: r)
            refine ⟨lead digitB (c :: r), rfl, ?_, h1, by rw [List.length_take]; omega, rfl⟩
            rw [lead_yes hc]; omega
          · cases h
      · split at h
        · cases h
        · cases h
          have h1 := signN_le (c :: r)
          exact ⟨signN (c :: r), rfl, by omega, h1, by rw [List.length_take]; omega, rfl⟩
theorem goTok_nil (f k : Nat) : goTok (f + 1) [] k = .ok [⟨0, [], 0, k⟩] := rfl
theorem goTok_none {f k : Nat} {l : List UInt8} (hl : l ≠ []) (h : readTok l k = none) : goTok (f + 1) l k = .err 1 k := by
  cases l with
  | nil => exact absurd rfl hl
  | cons c r => simp [goTok, h]
theorem goTok_some {f k : Nat} {l : List UInt8} {t : Tok} (h : readTok l k = some t) :
    goTok (f + 1) l k = (goTok f ((l.drop t.text.length).drop (blanks false (l.drop t.text.length))) (k + t.text.length + blanks false (l.drop t.text.length))).pre [t] := by
  cases l with
  | nil => simp [readTok] at h
  | cons c r => simp [goTok, h]

/-- A string's bytes, one behind the other. -/
abbrev bys (s : ByteArray) : List UInt8 := s.data.toList
/-- A text as a string. -/
def bstr (l : List UInt8) : ByteArray := ⟨l.toArray⟩
theorem bys_length (s : ByteArray) : (bys s).length = s.size := by simp [bys]
theorem bys_bstr (l : List UInt8) : bys (bstr l) = l := by simp [bys, bstr]
theorem bstr_bys (s : ByteArray) : bstr (bys s) = s := by simp [bys, bstr]
theorem bstr_size (l : List UInt8) : (bstr l).size = l.length := by rw [← bys_length, bys_bstr]
theorem bstr_inj {a b : List UInt8} (h : bstr a = bstr b) : a = b := by rw [← bys_bstr a, h, bys_bstr]
theorem drop_cons (s : ByteArray) (k : Nat) (h : k < s.size) : (bys s).drop k = s[k] :: (bys s).drop (k + 1) := by
  have h' : k < (bys s).length := by rw [bys_length]; exact h
  rw [List.drop_eq_getElem_cons h']; rfl
theorem drop_all (s : ByteArray) (k : Nat) (h : ¬ k < s.size) : (bys s).drop k = [] := List.drop_of_length_le (by rw [bys_length]; omega)
theorem extract_bys (s : ByteArray) (a b : Nat) : bys (s.extract a b) = ((bys s).drop a).take (b - a) := by
  rw [bys, ← Lib.toList_data, Lib.extract_toList]
theorem extract_bstr (s : ByteArray) (a b : Nat) : s.extract a b = bstr (((bys s).drop a).take (b - a)) := by rw [← extract_bys, bstr_bys]
end Go.Proofs.YtlepckjmdjjolaaGreatDoor.Lx
