/- Texts that are made of signs and gaps are cut into these signs. Plain. -/
import Derived.Test.YtfginegegaokbaaGreatDoorPPlain
namespace Go.Proofs.YtfginegegaokbaaGreatDoor.Pr
open Go.Lib (decDigits)
open Lx (Tok num wordB letterB blankB lead blanks readTok goTok cutTok cutAll keyB signN numFrom)
set_option linter.unusedVariables false
set_option linter.unusedSimpArgs false

/-- A sign as it is read: where it stands does not count. -/
structure Sg where
  kind : Nat
  text : List UInt8
  value : Nat
def sgOf (t : Tok) : Sg := ⟨t.kind, t.text, t.value⟩
def Sg.at (s : Sg) (k : Nat) : Tok := ⟨s.kind, s.text, s.value, k⟩
theorem sgOf_at (s : Sg) (k : Nat) : sgOf (s.at k) = s := rfl
/-- A sign, or a gap. -/
structure It where
  sg : Option Sg
  gap : List UInt8
def It.text (i : It) : List UInt8 := match i.sg with | some s => s.text | none => i.gap
def iS (s : Sg) : It := ⟨some s, []⟩
def iG (g : List UInt8) : It := ⟨none, g⟩
def flat (is : List It) : List UInt8 := (is.map It.text).flatten
theorem flat_append (a b : List It) : flat (a ++ b) = flat a ++ flat b := by simp [flat]
theorem flat_cons (i : It) (b : List It) : flat (i :: b) = i.text ++ flat b := by simp [flat]
theorem flat_nil : flat [] = [] := rfl
def sgs (is : List It) : List Sg := is.filterMap It.sg
theorem sgs_append (a b : List It) : sgs (a ++ b) = sgs a ++ sgs b := by simp [sgs]
theorem sgs_s (s : Sg) (b : List It) : sgs (iS s :: b) = s :: sgs b := rfl
theorem sgs_g (g : List UInt8) (b : List It) : sgs (iG g :: b) = sgs b := rfl

/-- A text that is a gap, whatever stands behind it. -/
def isGap (g : List UInt8) : Prop := ∀ l, blanks false (g ++ l) = g.length + blanks false l
/-- A sign is read ahead of such a text. -/
def reads (s : Sg) (l : List UInt8) : Prop := s.text ≠ [] ∧ blanks false (s.text ++ l) = 0 ∧ ∀ k, readTok (s.text ++ l) k = some (s.at k)
def okF : List It → List UInt8 → Prop
  | [], _ => True
  | i :: is, l => (match i.sg with | some s => reads s (flat is ++ l) | none => isGap i.gap) ∧ okF is l
theorem okF_append : ∀ (a b : List It) (l : List UInt8), okF a (flat b ++ l) → okF b l → okF (a ++ b) l
  | [], b, l, _, h => h
  | i :: a, b, l, h, hb => by
    obtain ⟨h1, h2⟩ := h
    refine ⟨?_, okF_append a b l h2 hb⟩
    cases e : i.sg with
    | none => rw [e] at h1; exact h1
    | some s => rw [e] at h1; show reads s (flat (a ++ b) ++ l); rw [flat_append, List.append_assoc]; exact h1
/-- The signs where they stand. -/
def toksAt : Nat → List It → List Tok
  | _, [] => []
  | k, i :: is => match i.sg with | some s => s.at k :: toksAt (k + s.text.length) is | none => toksAt (k + i.gap.length) is
theorem toksAt_sgs : ∀ (k : Nat) (is : List It), (toksAt k is).map sgOf = sgs is
  | k, [] => rfl
  | k, i :: is => by
    unfold toksAt sgs
    rw [List.filterMap_cons]
    cases e : i.sg with
    | none => simp only; exact toksAt_sgs _ is
    | some s => simp only [List.map_cons]; rw [toksAt_sgs _ is]; rfl
theorem go_items : ∀ (is : List It) (f k : Nat), okF is [] → (flat is).length < f →
    goTok f ((flat is).drop (blanks false (flat is))) (k + blanks false (flat is)) = .ok (toksAt k is ++ [endT (k + (flat is).length)])
  | [], f, k, _, hf => by
    obtain ⟨f, rfl⟩ : ∃ g, f = g + 1 := ⟨f - 1, by omega⟩
    simp [flat_nil, blanks, Lx.goTok_nil, toksAt, endT]
  | i :: is, f, k, ⟨h1, h2⟩, hf => by
    rw [flat_cons] at hf ⊢
    unfold toksAt
    cases e : i.sg with
    | none =>
      rw [e] at h1
      have ht : i.text = i.gap := by unfold It.text; rw [e]
      rw [ht] at hf ⊢
      rw [h1]
      have hd : (i.gap ++ flat is).drop (i.gap.length + blanks false (flat is)) = (flat is).drop (blanks false (flat is)) := by
        rw [← List.drop_drop, List.drop_left]
      simp only [List.length_append] at hf
      have ih := go_items is f (k + i.gap.length) h2 (by omega)
      rw [hd, ← Nat.add_assoc, ih, List.length_append]
      simp only [Nat.add_assoc]
    | some s =>
      rw [e] at h1
      simp only [List.append_nil] at h1
      have ht : i.text = s.text := by unfold It.text; rw [e]
      rw [ht] at hf ⊢
      obtain ⟨hne, hb, hr⟩ := h1
      rw [hb]
      obtain ⟨f, rfl⟩ : ∃ g, f = g + 1 := ⟨f - 1, by omega⟩
      rw [List.drop_zero, show k + 0 = k from rfl, Lx.goTok_some (hr k)]
      have hx : (s.at k).text = s.text := rfl
      have hp : 0 < s.text.length := by
        cases h : s.text with
        | nil => exact absurd h hne
        | cons a b => simp
      rw [hx, List.drop_left]
      simp only [List.length_append] at hf
      rw [go_items is f (k + s.text.length) h2 (by omega)]
      simp [Lx.Res.pre, Nat.add_assoc]
theorem cut_items (is : List It) (h : okF is []) (hl : (flat is).length ≤ 65536) : cutAll (flat is) = .ok (toksAt 0 is ++ [endT (flat is).length]) := by
  unfold cutAll cutTok
  rw [if_neg (by omega)]
  have := go_items is ((flat is).length + 1) 0 h (by omega)
  simpa using this

/-! signs that are read -/
/-- A text that glues to no word, number or sign ahead of it. -/
def soft : List UInt8 → Bool
  | [] => true
  | c :: _ => !wordB (num c) && c != 60 && c != 61 && c != 62
theorem soft_word {c : UInt8} {l : List UInt8} (h : soft (c :: l) = true) : wordB (num c) = false := by
  have h' : (!wordB (num c) && c != 60 && c != 61 && c != 62) = true := h
  cases e : wordB (num c)
  · rfl
  · rw [e] at h'; simp at h'
theorem lead_all_then {p : Int → Bool} : ∀ (x l : List UInt8), (∀ c ∈ x, p (num c) = true) → (∀ c r, l = c :: r → p (num c) = false) → lead p (x ++ l) = x.length
  | [], l, _, h => by
    cases l with
    | nil => rfl
    | cons c r => exact Lx.lead_no (h c r rfl)
  | d :: x, l, h, hl => by
    rw [List.cons_append, Lx.lead_yes (h d (by simp)), lead_all_then x l (fun c hc => h c (by simp [hc])) hl]; rfl
theorem letter_blank {c : UInt8} (h : letterB (num c) = true) : num c ≠ 35 ∧ num c ≠ 10 ∧ blankB (num c) = false := by
  have := Lx.letter_is h
  refine ⟨by omega, by omega, Lx.blank_no (by omega)⟩
theorem digit_blank {c : UInt8} (h : Lx.digitB (num c) = true) : num c ≠ 35 ∧ num c ≠ 10 ∧ blankB (num c) = false := by
  have := Lx.digit_is h
  refine ⟨by omega, by omega, Lx.blank_no (by omega)⟩
theorem blanks_zero {c : UInt8} {l : List UInt8} (h : num c ≠ 35 ∧ num c ≠ 10 ∧ blankB (num c) = false) : blanks false (c :: l) = 0 := by simp [blanks, h.1, h.2.1, h.2.2]
/-- A name's text. -/
def wordText (x : List UInt8) : Prop := (∃ c r, x = c :: r ∧ letterB (num c) = true) ∧ ∀ c ∈ x, wordB (num c) = true
theorem word_stops {l : List UInt8} (h : soft l = true) : ∀ c r, l = c :: r → wordB (num c) = false := fun c r e => by subst e; exact soft_word h
theorem reads_word {x l : List UInt8} (hx : wordText x) (hl : soft l = true) : reads ⟨if keyB x then 2 else 1, x, 0⟩ l := by
  obtain ⟨⟨c, r, rfl, hc⟩, hw⟩ := hx
  refine ⟨by simp, ?_, fun k => ?_⟩
  · show blanks false ((c :: r) ++ l) = 0
    rw [List.cons_append]; exact blanks_zero (letter_blank hc)
  · have hle := lead_all_then (p := wordB) (c :: r) l hw (word_stops hl)
    show readTok ((c :: r) ++ l) k = _
    have ht : ((c :: r) ++ l).take (lead wordB ((c :: r) ++ l)) = c :: r := by rw [hle]; simp
    rw [List.cons_append] at ht ⊢
    unfold readTok
    simp only [hc, if_true, ht]
    rfl
def wd (s : ByteArray) : Sg := ⟨1, bys s, 0⟩
def kw (x : List UInt8) : Sg := ⟨2, x, 0⟩
def sn (x : List UInt8) : Sg := ⟨4, x, 0⟩
def dg (n : Nat) : Sg := ⟨3, decDigits n, n⟩
/-- A name: a word that is no key. -/
def isName (s : ByteArray) : Prop := wordText (bys s) ∧ keyB (bys s) = false
theorem reads_wd {s : ByteArray} (h : isName s) {l : List UInt8} (hl : soft l = true) : reads (wd s) l := by
  have := reads_word h.1 hl
  rw [h.2] at this
  exact this
theorem reads_kw {x : List UInt8} (h : wordText x) (hk : keyB x = true) {l : List UInt8} (hl : soft l = true) : reads (kw x) l := by
  have := reads_word h hl
  rw [hk] at this
  exact this
theorem reads_one {c : UInt8} (h : c ≠ 60 ∧ c ≠ 61 ∧ c ≠ 62) (hs : Lx.signList.contains c = true) (l : List UInt8) : reads (sn [c]) l := by
  have hmem : c ∈ Lx.signList := by simpa using hs
  have hcl : letterB (num c) = false ∧ Lx.digitB (num c) = false ∧ num c ≠ 35 ∧ num c ≠ 10 ∧ blankB (num c) = false := by
    have : ∀ d ∈ Lx.signList, letterB (num d) = false ∧ Lx.digitB (num d) = false ∧ num d ≠ 35 ∧ num d ≠ 10 ∧ blankB (num d) = false := by decide
    exact this c hmem
  refine ⟨by simp [sn], blanks_zero hcl.2.2, fun k => ?_⟩
  have h1 : ([60, 60] : List UInt8).isPrefixOf (c :: l) = false := by simp [List.isPrefixOf]; exact fun e => absurd e.symm h.1
  have h2 : ([62, 62] : List UInt8).isPrefixOf (c :: l) = false := by simp [List.isPrefixOf]; exact fun e => absurd e.symm h.2.2
  have h3 : ([61, 61] : List UInt8).isPrefixOf (c :: l) = false := by simp [List.isPrefixOf]; exact fun e => absurd e.symm h.2.1
  have hn : signN (c :: l) = 1 := by unfold signN; rw [h1, h2, h3]; simp only [Bool.false_eq_true, if_false, hs, if_true]
  show readTok (c :: l) k = _
  unfold readTok
  simp only [hcl.1, hcl.2.1, Bool.false_eq_true, if_false, hn]
  rfl
/-- '=' and '<' ahead of a blank. -/
theorem reads_thin {c : UInt8} (h : c = 60 ∨ c = 61) (l : List UInt8) : reads (sn [c]) (32 :: l) := by
  refine ⟨by simp [sn], ?_, fun k => ?_⟩
  · rcases h with rfl | rfl <;> (apply blanks_zero; decide)
  · rcases h with rfl | rfl
    all_goals
      show readTok _ k = _
      simp only [sn, List.cons_append, List.nil_append]
      unfold readTok
      have hn : ∀ l : List UInt8, signN (60 :: 32 :: l) = 1 := fun l => by unfold signN; simp [List.isPrefixOf]; decide
      have hn' : ∀ l : List UInt8, signN (61 :: 32 :: l) = 1 := fun l => by unfold signN; simp [List.isPrefixOf]; decide
      have e1 : letterB (num 60) = false ∧ Lx.digitB (num 60) = false ∧ letterB (num 61) = false ∧ Lx.digitB (num 61) = false := by decide
      simp only [e1.1, e1.2.1, e1.2.2.1, e1.2.2.2, Bool.false_eq_true, if_false, hn, hn']
      rfl
theorem reads_two {c : UInt8} (h : c = 60 ∨ c = 61 ∨ c = 62) (l : List UInt8) : reads (sn [c, c]) l := by
  refine ⟨by simp [sn], ?_, fun k => ?_⟩
  · rcases h with rfl | rfl | rfl <;> (apply blanks_zero; decide)
  · have e1 : letterB (num 60) = false ∧ Lx.digitB (num 60) = false ∧ letterB (num 61) = false ∧ Lx.digitB (num 61) = false ∧ letterB (num 62) = false ∧ Lx.digitB (num 62) = false := by decide
    have hn : signN (c :: c :: l) = 2 := by rcases h with rfl | rfl | rfl <;> simp [signN, List.isPrefixOf]
    show readTok (c :: c :: l) k = _
    unfold readTok
    rcases h with rfl | rfl | rfl <;> (simp only [e1.1, e1.2.1, e1.2.2.1, e1.2.2.2.1, e1.2.2.2.2.1, e1.2.2.2.2.2, Bool.false_eq_true, if_false, hn]; rfl)
theorem num_ofNat (n : Nat) (h : n < 256) : num (UInt8.ofNat n) = (n : Int) := by
  unfold num
  rw [UInt8.toNat_ofNat', Nat.mod_eq_of_lt (by simpa using h)]
theorem digits_all (u : Nat) : ∀ c ∈ decDigits u, Lx.digitB (num c) = true := by
  induction u using Nat.strongRecOn with
  | _ u ih =>
    intro c hc
    rw [decDigits] at hc
    split at hc
    · simp only [List.mem_singleton] at hc
      subst hc
      rw [num_ofNat _ (by omega)]
      exact Lx.digit_yes (by omega)
    · rcases List.mem_append.1 hc with h | h
      · exact ih (u / 10) (by omega) c h
      · simp only [List.mem_singleton] at h
        subst h
        rw [num_ofNat _ (by omega)]
        exact Lx.digit_yes (by omega)
theorem numFrom_append : ∀ (a b : List UInt8) (acc : Nat), numFrom acc (a ++ b) = (numFrom acc a).bind fun v => numFrom v b
  | [], b, acc => rfl
  | c :: a, b, acc => by
    rw [List.cons_append]
    simp only [numFrom]
    split
    · exact numFrom_append a b _
    · rfl
theorem numFrom_dec (u : Nat) : u < 18446744073709551616 → numFrom 0 (decDigits u) = some u := by
  induction u using Nat.strongRecOn with
  | _ u ih =>
    intro hu
    rw [decDigits]
    split
    · rename_i h
      have e : (UInt8.ofNat (48 + u)).toNat = 48 + u := by rw [UInt8.toNat_ofNat']; exact Nat.mod_eq_of_lt (by omega)
      simp only [numFrom, e]
      rw [if_pos (by omega)]
      congr 1
      omega
    · rename_i h
      have e : (UInt8.ofNat (48 + u % 10)).toNat = 48 + u % 10 := by rw [UInt8.toNat_ofNat']; exact Nat.mod_eq_of_lt (by omega)
      rw [numFrom_append, ih (u / 10) (by omega) (by omega)]
      simp only [Option.bind_some, numFrom, e]
      rw [if_pos (by omega)]
      congr 1
      omega
theorem digits_cons (u : Nat) : ∃ c r, decDigits u = c :: r ∧ Lx.digitB (num c) = true := by
  have h1 : (decDigits u).length ≠ 0 := by rw [Go.Lib.decDigits_length]; have := Go.Lib.nDigits_pos u; omega
  cases h : decDigits u with
  | nil => rw [h] at h1; exact absurd rfl h1
  | cons c r => exact ⟨c, r, rfl, digits_all u c (by rw [h]; simp)⟩
theorem reads_dg {u : Nat} (hu : u < 18446744073709551616) {l : List UInt8} (hl : soft l = true) : reads (dg u) l := by
  obtain ⟨c, r, e, hc⟩ := digits_cons u
  have hstop : ∀ c r, l = c :: r → Lx.digitB (num c) = false ∧ letterB (num c) = false := fun c r e => by
    have := word_stops hl c r e
    unfold Lx.wordB at this
    simpa [and_comm] using this
  have hle := lead_all_then (p := Lx.digitB) (decDigits u) l (digits_all u) (fun c r e => (hstop c r e).1)
  have hlet : letterB (num c) = false := Lx.letter_no (by have := Lx.digit_is hc; omega)
  refine ⟨by show decDigits u ≠ []; rw [e]; simp, ?_, fun k => ?_⟩
  · show blanks false (decDigits u ++ l) = 0
    rw [e, List.cons_append]; exact blanks_zero (digit_blank hc)
  · show readTok (decDigits u ++ l) k = _
    have hd : Lx.digitTok (decDigits u ++ l) k = some ((dg u).at k) := by
      unfold Lx.digitTok
      rw [hle, List.drop_left, List.take_left, numFrom_dec u hu]
      have : Lx.startsLetter l = false := by
        cases l with
        | nil => rfl
        | cons c r => exact (hstop c r rfl).2
      rw [this]; rfl
    rw [e, List.cons_append] at hd ⊢
    unfold readTok
    simp only [hlet, hc, Bool.false_eq_true, if_false, if_true, hd]
end Go.Proofs.YtfginegegaokbaaGreatDoor.Pr
