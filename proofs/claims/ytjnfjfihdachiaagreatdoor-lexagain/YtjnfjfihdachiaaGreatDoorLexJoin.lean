/- Tokens with blanks between them are cut into the same tokens again, their places aside. Conditions: as each theorem says. -/
import Derived.Test.YtjnfjfihdachiaaGreatDoorLexDigs
import Derived.Test.YtjnfjfihdachiaaGreatDoorLexNextS
import Derived.Test.YtjnfjfihdachiaaGreatDoorWPlaces
namespace Go.Proofs.YtjnfjfihdachiaaGreatDoor
set_option linter.unusedVariables false

theorem lead_stop (p : Int → Bool) (hp : p 32 = false) : ∀ (l r : List UInt8), (∀ c ∈ l, p (num c) = true) → lead p (l ++ 32 :: r) = l.length
  | [], r, _ => by rw [List.nil_append, lead_no (by exact hp)]; rfl
  | c :: l, r, h => by rw [List.cons_append, lead_yes (h c (by simp)), lead_stop p hp l r (fun d hd => h d (by simp [hd]))]; rfl
theorem take_own (l r : List UInt8) : (l ++ r).take l.length = l := by simp
theorem drop_own (l r : List UInt8) : (l ++ r).drop l.length = r := by simp
/-- A token that is read alike with a blank behind it, wherever it stands. -/
def Readable (t : Tok) : Prop := t.text ≠ [] ∧ (∀ c r, t.text = c :: r → num c ≠ 35 ∧ num c ≠ 10 ∧ blankB (num c) = false) ∧ ∀ (r : List UInt8) (k : Nat), readTok (t.text ++ 32 :: r) k = some ⟨t.kind, t.text, t.value, k⟩
theorem sign_bytes' : ∀ c ∈ signList, num c ≠ 35 ∧ num c ≠ 10 ∧ blankB (num c) = false := by decide
theorem sign_bytes (c : UInt8) (h : signList.contains c = true) : num c ≠ 35 ∧ num c ≠ 10 ∧ blankB (num c) = false := sign_bytes' c (by simpa using h)
theorem readTok_readable {l : List UInt8} {k : Nat} {t : Tok} (h : readTok l k = some t) : Readable t := by
  match l, h with
  | c :: r, h =>
    unfold readTok at h
    simp only at h
    split at h
    · rename_i hc
      cases h
      have hall := lead_all wordB (c :: r)
      have hl1 : lead wordB (c :: r) = lead wordB r + 1 := lead_yes (by simp [wordB, hc])
      have ht : (c :: r).take (lead wordB (c :: r)) = c :: r.take (lead wordB r) := by rw [hl1, List.take_succ_cons]
      generalize (c :: r).take (lead wordB (c :: r)) = x at hall ht
      have hcl := letter_is hc
      refine ⟨by simp only; rw [ht]; simp, fun d q hd => ?_, fun q j => ?_⟩
      · simp only at hd
        rw [ht] at hd
        cases hd
        exact ⟨by omega, by omega, blank_no (by omega)⟩
      · simp only
        have hls := lead_stop wordB (by decide) x q hall
        rw [ht] at hls ⊢
        unfold readTok
        simp only [List.cons_append]
        rw [if_pos hc]
        simp only [List.cons_append] at hls
        have e := take_own (c :: r.take (lead wordB r)) (32 :: q)
        simp only [List.cons_append] at e
        rw [← hls] at e
        simp only [e]
    · rename_i hc
      have hcl : letterB (num c) = false := by simpa using hc
      split at h
      · rename_i hd
        unfold digitTok at h
        split at h
        · cases h
        · split at h
          · rename_i v hv
            cases h
            have hall := lead_all digitB (c :: r)
            have hl1 : lead digitB (c :: r) = lead digitB r + 1 := lead_yes hd
            have ht : (c :: r).take (lead digitB (c :: r)) = c :: r.take (lead digitB r) := by rw [hl1, List.take_succ_cons]
            generalize (c :: r).take (lead digitB (c :: r)) = x at hall ht hv
            have hcd := digit_is hd
            refine ⟨by simp only; rw [ht]; simp, fun d q hq => ?_, fun q j => ?_⟩
            · simp only at hq
              rw [ht] at hq
              cases hq
              exact ⟨by omega, by omega, blank_no (by omega)⟩
            · simp only
              have hls := lead_stop digitB (by decide) x q hall
              rw [ht] at hls hv ⊢
              unfold readTok
              simp only [List.cons_append]
              rw [hcl, hd]
              simp only [Bool.false_eq_true, if_false, if_true]
              unfold digitTok
              simp only [List.cons_append] at hls
              rw [hls]
              have e := take_own (c :: r.take (lead digitB r)) (32 :: q)
              have e2 := drop_own (c :: r.take (lead digitB r)) (32 :: q)
              simp only [List.cons_append] at e e2
              rw [e, e2, hv]
              rfl
          · cases h
      · rename_i hd
        have hdl : digitB (num c) = false := by simpa using hd
        split at h
        · cases h
        · rename_i h0
          cases h
          by_cases h2 : 2 ≤ (c :: r).length ∧ twoB ((c :: r).take 2) = true
          · rw [signN_two h2.1 h2.2]
            match r, h2 with
            | d :: r', h2 =>
              have htw : twoB [c, d] = true := h2.2
              have hcd : num c ≠ 35 ∧ num c ≠ 10 ∧ blankB (num c) = false := by
                unfold twoB at htw
                simp only [Bool.or_eq_true, beq_iff_eq, List.cons.injEq, and_true] at htw
                rcases htw with (⟨rfl, _⟩ | ⟨rfl, _⟩) | ⟨rfl, _⟩ <;> decide
              refine ⟨by simp, fun e q hq => ?_, fun q j => ?_⟩
              · simp at hq; rw [← hq.1]; exact hcd
              · simp only [List.take_succ_cons, List.take_zero, List.cons_append, List.nil_append]
                unfold readTok
                simp only
                rw [hcl, hdl]
                simp only [Bool.false_eq_true, if_false]
                rw [signN_two (l := c :: d :: 32 :: q) (by simp) htw]
                rfl
          · have hs1 := signN_one (c := c) (r := r) (by
              rcases Nat.lt_or_ge (c :: r).length 2 with h' | h'
              · exact Or.inl h'
              · refine Or.inr ?_
                cases hx : twoB ((c :: r).take 2)
                · rfl
                · exact absurd ⟨h', hx⟩ h2)
            rw [hs1] at h0 ⊢
            cases hcon : signList.contains c
            · rw [hcon] at h0; simp at h0
            · simp only [if_true]
              refine ⟨by simp, fun e q hq => ?_, fun q j => ?_⟩
              · simp at hq; rw [← hq.1]; exact sign_bytes c hcon
              · simp only [List.take_succ_cons, List.take_zero, List.cons_append, List.nil_append]
                have hs2 := signN_one (c := c) (r := 32 :: q) (Or.inr (by
                  unfold twoB
                  simp only [List.take_succ_cons, List.take_zero, Bool.or_eq_false_iff, beq_eq_false_iff_ne, ne_eq, List.cons.injEq, not_and, and_true]
                  refine ⟨⟨fun _ => by decide, fun _ => by decide⟩, fun _ => by decide⟩))
                unfold readTok
                simp only
                rw [hcl, hdl]
                simp only [Bool.false_eq_true, if_false]
                rw [hs2, hcon]
                rfl

/-- Tokens with a blank ahead of each. -/
def spaced (ts : List Tok) : List UInt8 := ts.flatMap fun t => 32 :: t.text
theorem spaced_cons (t : Tok) (ts : List Tok) : spaced (t :: ts) = 32 :: (t.text ++ spaced ts) := by simp [spaced]
theorem spaced_snoc (ts : List Tok) (t : Tok) : spaced (ts ++ [t]) = spaced ts ++ [32] ++ t.text := by simp [spaced]
/-- The same but for their places. -/
def Alike : List Tok → List Tok → Prop
  | [], [] => True
  | t :: ts, u :: us => t.kind = u.kind ∧ t.text = u.text ∧ t.value = u.value ∧ Alike ts us
  | _, _ => False
theorem Alike.length : ∀ {ts us : List Tok}, Alike ts us → ts.length = us.length
  | [], [], _ => rfl
  | t :: ts, u :: us, h => by simp [Alike.length h.2.2.2]
theorem Alike.get : ∀ {ts us : List Tok} {i : Nat} {t u : Tok}, Alike ts us → ts[i]? = some t → us[i]? = some u → t.kind = u.kind ∧ t.text = u.text ∧ t.value = u.value
  | t :: ts, u :: us, 0, _, _, h, h1, h2 => by simp at h1 h2; subst h1 h2; exact ⟨h.1, h.2.1, h.2.2.1⟩
  | t :: ts, u :: us, i + 1, _, _, h, h1, h2 => Alike.get h.2.2.2 (by simpa using h1) (by simpa using h2)
theorem spaced_blanks (us : List Tok) (e : Tok) (hu : ∀ t ∈ us, Readable t) (he : e.text = []) : blanks false (spaced (us ++ [e])) = 1 := by
  have h32 : ∀ r : List UInt8, blanks false (32 :: r) = blanks false r + 1 := fun r => blanks_more (by decide) (by decide) (by decide)
  cases us with
  | nil => rw [List.nil_append, spaced_cons, h32, he]; rfl
  | cons t us =>
    obtain ⟨hne, hh, _⟩ := hu t (by simp)
    rw [List.cons_append, spaced_cons, h32]
    cases ht : t.text with
    | nil => exact absurd ht hne
    | cons c r =>
      obtain ⟨h1, h2, h3⟩ := hh c r ht
      rw [List.cons_append, blanks_stop h1 h2 (by simp [h3])]
theorem again_go : ∀ (us : List Tok) (e : Tok) (f k : Nat), (∀ t ∈ us, Readable t) → e.text = [] → e.kind = 0 → e.value = 0 → (spaced (us ++ [e])).length ≤ f →
    ∃ vs, goTok f ((spaced (us ++ [e])).drop 1) k = .ok vs ∧ Alike (us ++ [e]) vs
  | [], e, f, k, _, he, hk, hv, hf => by
    obtain ⟨f', rfl⟩ : ∃ f', f = f' + 1 := ⟨f - 1, by rw [List.nil_append, spaced_cons] at hf; simp at hf; omega⟩
    refine ⟨[⟨0, [], 0, k⟩], ?_, hk, he, hv, trivial⟩
    rw [List.nil_append, spaced_cons, he]
    exact goTok_nil f' k
  | t :: us, e, f, k, hu, he, hk, hv, hf => by
    obtain ⟨hne, hh, hread⟩ := hu t (by simp)
    have hpos : 0 < t.text.length := List.length_pos_iff.2 hne
    have hfl : 1 + t.text.length + (spaced (us ++ [e])).length ≤ f := by
      rw [List.cons_append, spaced_cons] at hf
      simp at hf; omega
    obtain ⟨f', rfl⟩ : ∃ f', f = f' + 1 := ⟨f - 1, by omega⟩
    have hsp : ∃ q, spaced (us ++ [e]) = 32 :: q := by
      cases us with
      | nil => exact ⟨_, spaced_cons e []⟩
      | cons u us => exact ⟨_, spaced_cons u (us ++ [e])⟩
    obtain ⟨q, hq⟩ := hsp
    have hr : readTok (t.text ++ spaced (us ++ [e])) k = some ⟨t.kind, t.text, t.value, k⟩ := by rw [hq]; exact hread q k
    obtain ⟨vs, h1, h2⟩ := again_go us e f' (k + t.text.length + 1) (fun x hx => hu x (by simp [hx])) he hk hv (by omega)
    refine ⟨⟨t.kind, t.text, t.value, k⟩ :: vs, ?_, rfl, rfl, rfl, h2⟩
    rw [List.cons_append, spaced_cons, List.drop_succ_cons, List.drop_zero, goTok_some hr]
    simp only
    rw [drop_own, spaced_blanks us e (fun x hx => hu x (by simp [hx])) he, h1]
    rfl
/-- What Cut's tokens are, all but the last readable. -/
theorem goTok_readable : ∀ (f : Nat) (l : List UInt8) (k : Nat) (ts : List Tok), goTok f l k = .ok ts → ∃ us e, ts = us ++ [e] ∧ (∀ t ∈ us, Readable t) ∧ e.text = [] ∧ e.kind = 0 ∧ e.value = 0
  | 0, _, _, _, h => by simp [goTok] at h
  | f + 1, [], k, ts, h => by rw [goTok_nil] at h; cases h; exact ⟨[], _, rfl, by simp, rfl, rfl, rfl⟩
  | f + 1, c :: r, k, ts, h => by
    cases hr : readTok (c :: r) k with
    | none => rw [goTok_none (by simp) hr] at h; cases h
    | some t =>
      rw [goTok_some hr] at h
      generalize hq : goTok f _ _ = q at h
      cases q with
      | error p => simp only [Res.pre] at h; cases h
      | ok vs =>
        obtain ⟨us, e, h1, h2, h3⟩ := goTok_readable f _ _ vs hq
        simp only [Res.pre] at h; cases h
        refine ⟨t :: us, e, by rw [h1]; rfl, fun x hx => ?_, h3⟩
        simp only [List.mem_cons] at hx
        rcases hx with rfl | hx
        · exact readTok_readable hr
        · exact h2 x hx
theorem stand_sum {L : List UInt8} : ∀ {ts : List Tok} {k : Nat}, k ≤ L.length → Stand L k ts → (spaced ts).length + k ≤ L.length + ts.length
  | [], k, hk, _ => by simp [spaced]; exact hk
  | t :: ts, k, hk, h => by
    have := stand_sum (k := t.at_ + t.text.length) h.2.1 h.2.2.2
    rw [spaced_cons]
    have h1 := h.1
    simp only [List.length_cons, List.length_append]
    omega
/-- Its tokens with blanks between them are the same text to lex. -/
theorem cut_again {L : List UInt8} {ts : List Tok} (hL : L.length ≤ 4000) (h : cutAll L = .ok ts) : (spaced ts).length ≤ 8001 ∧ ∃ vs, cutAll (spaced ts) = .ok vs ∧ Alike ts vs := by
  have hst := (cutAll_stand h).1
  have hln : ts.length ≤ L.length + 1 := by
    unfold cutAll at h
    rw [if_neg (by omega)] at h
    have := goTok_len _ _ _ _ h
    simp only [List.length_drop] at this
    omega
  have hlen : (spaced ts).length ≤ 8001 := by have := stand_sum (Nat.zero_le _) hst; omega
  refine ⟨hlen, ?_⟩
  unfold cutAll at h
  rw [if_neg (by omega)] at h
  obtain ⟨us, e, rfl, h2, h3, h4, h5⟩ := goTok_readable _ _ _ _ h
  obtain ⟨vs, g1, g2⟩ := again_go us e ((spaced (us ++ [e])).length + 1) 1 h2 h3 h4 h5 (by omega)
  refine ⟨vs, ?_, g2⟩
  unfold cutAll
  rw [if_neg (by omega)]
  unfold cutTok
  rw [spaced_blanks us e h2 h3]
  exact g1
end Go.Proofs.YtjnfjfihdachiaaGreatDoor
