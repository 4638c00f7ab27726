/- The walk of the statement LexPlaces. Conditions: the package variables hold what their initialisers lay. -/
import Derived.Test.YtjnfjfihdachiaaGreatDoorLexAwake
import Derived.Deep.QuietTactic
import Derived.BigQuiet
namespace Go.Proofs.YtjnfjfihdachiaaGreatDoor
open Go.ChangeShapes Go.WideShapes Go.ChangeAt Go.RowKit
set_option linter.unusedVariables false

/-- Tokens stand in a text of L's bytes from k on, one behind the other. -/
def Stand (L : List UInt8) : Nat → List Tok → Prop
  | _, [] => True
  | k, t :: ts => k ≤ t.at_ ∧ t.at_ + t.text.length ≤ L.length ∧ (L.drop t.at_).take t.text.length = t.text ∧ Stand L (t.at_ + t.text.length) ts
theorem Stand.mono {L : List UInt8} {k k' : Nat} (h : k' ≤ k) : ∀ {ts : List Tok}, Stand L k ts → Stand L k' ts
  | [], _ => trivial
  | t :: ts, hs => ⟨Nat.le_trans h hs.1, hs.2.1, hs.2.2.1, hs.2.2.2⟩
theorem goTok_stand (L : List UInt8) : ∀ (f k : Nat) (ts : List Tok), k ≤ L.length → goTok f (L.drop k) k = .ok ts → Stand L k ts ∧ ∃ us e, ts = us ++ [e] ∧ e.at_ = L.length
  | 0, _, _, _, h => by simp [goTok] at h
  | f + 1, k, ts, hk, h => by
    cases hd : L.drop k with
    | nil =>
      rw [hd, goTok_nil] at h
      cases h
      have hl : L.length ≤ k := by simpa using hd
      exact ⟨⟨Nat.le_refl _, by simp; omega, by simp, trivial⟩, [], _, rfl, by show k = L.length; omega⟩
    | cons c r =>
      cases hr : readTok (L.drop k) k with
      | none => rw [goTok_none (by rw [hd]; simp) hr] at h; cases h
      | some t =>
        obtain ⟨n, h1, h2, h3, h4, h5⟩ := readTok_some hr
        rw [goTok_some hr, List.drop_drop, List.drop_drop] at h
        have hle := blanks_le false (L.drop (k + t.text.length))
        have e1 : (L.drop k).drop t.text.length = L.drop (k + t.text.length) := List.drop_drop
        rw [e1] at h
        simp only [List.length_drop] at h3 hle
        have hk' : k + t.text.length + blanks false (L.drop (k + t.text.length)) ≤ L.length := by omega
        generalize hq : goTok f _ _ = q at h
        cases q with
        | error p => simp only [Res.pre] at h; cases h
        | ok us =>
          simp only [Res.pre] at h
          cases h
          rw [show k + (t.text.length + blanks false (L.drop (k + t.text.length))) = k + t.text.length + blanks false (L.drop (k + t.text.length)) from by omega] at hq
          obtain ⟨i1, us', e, i2, i3⟩ := goTok_stand L f _ us hk' hq
          refine ⟨⟨by omega, by omega, ?_, (i1.mono (by omega))⟩, t :: us', e, by rw [i2]; rfl, i3⟩
          rw [h5, h4]; exact h1.symm
theorem cutAll_stand {L : List UInt8} {ts : List Tok} (h : cutAll L = .ok ts) : Stand L 0 ts ∧ ∃ us e, ts = us ++ [e] ∧ e.at_ = L.length := by
  unfold cutAll at h
  split at h
  · cases h
  · obtain ⟨h1, h2⟩ := goTok_stand L _ _ ts (blanks_le false L) h
    exact ⟨h1.mono (Nat.zero_le _), h2⟩
theorem Stand.drop {L : List UInt8} : ∀ {ts : List Tok} {k i : Nat} {t : Tok}, Stand L k ts → ts[i]? = some t →
    t.at_ + t.text.length ≤ L.length ∧ (L.drop t.at_).take t.text.length = t.text ∧ Stand L (t.at_ + t.text.length) (ts.drop (i + 1))
  | [], _, _, _, _, h => by simp at h
  | a :: ts, k, 0, t, hs, h => by simp at h; subst h; exact ⟨hs.2.1, hs.2.2.1, by simpa using hs.2.2.2⟩
  | a :: ts, k, i + 1, t, hs, h => by simpa using Stand.drop (ts := ts) hs.2.2.2 (by simpa using h)
theorem Stand.head {L : List UInt8} {ts : List Tok} {k i : Nat} {t : Tok} (h : Stand L k (ts.drop i)) (ht : ts[i]? = some t) : k ≤ t.at_ := by
  have hi := (List.getElem?_eq_some_iff.1 ht).1
  rw [List.drop_eq_getElem_cons hi] at h
  have e : ts[i] = t := (List.getElem?_eq_some_iff.1 ht).2
  rw [e] at h
  exact h.1
end Go.Proofs.YtjnfjfihdachiaaGreatDoor
