/- Own texts laid together: PLift. Conditions: as each theorem says. -/
import Derived.Test.YtclmeachbojopaaGreatDoorGPBackAll
set_option linter.unusedVariables false
set_option linter.unusedSimpArgs false
namespace Go.Proofs.YtclmeachbojopaaGreatDoor.Pr
open Lx (Tok)
theorem digit_word {c : UInt8} (h : Lx.digitB (Lx.num c) = true) : Lx.wordB (Lx.num c) = true := by unfold Lx.wordB; rw [h]; simp
theorem letter_word {c : UInt8} (h : Lx.letterB (Lx.num c) = true) : Lx.wordB (Lx.num c) = true := by unfold Lx.wordB; rw [h]; simp
theorem gT.lift : ∀ {n : Nat} {t : Tree}, gT n t -> gT (n + 1) t
  | 0, _, h => h.elim
  | n + 1, t, h => by
    rcases h with h | h | ⟨h, h2, hn, hv, a, hk, ha⟩ | ⟨h, h0, h1, h4, hv, a, b, hk, ha, hb⟩ | ⟨h, h2, h4, hv, a, hk, ha⟩ | ⟨h, h2, h4, hv, a, b, c, hk, ha, hb, hc⟩
    · exact .inl h
    · exact .inr (.inl h)
    · exact .inr (.inr (.inl ⟨h, h2, hn, hv, a, hk, ha.lift⟩))
    · exact .inr (.inr (.inr (.inl ⟨h, h0, h1, h4, hv, a, b, hk, ha.lift, hb.lift⟩)))
    · exact .inr (.inr (.inr (.inr (.inl ⟨h, h2, h4, hv, a, hk, ha.lift⟩))))
    · exact .inr (.inr (.inr (.inr (.inr ⟨h, h2, h4, hv, a, b, c, hk, ha.lift, hb.lift, hc.lift⟩))))
theorem gT.up {n : Nat} {t : Tree} (h : gT n t) : ∀ {m : Nat}, n <= m -> gT m t := fun {m} hm => by
  induction m with
  | zero => obtain rfl : n = 0 := by omega
            exact h
  | succ m ih =>
    by_cases e : n = m + 1
    · subst e; exact h
    · exact (ih (by omega)).lift
theorem gS.lift {m : Nat} : ∀ {n : Nat} {s : Stm}, gS m n s -> gS m (n + 1) s
  | 0, _, h => h.elim
  | n + 1, s, h => by
    rcases h with h | h | h | ⟨h, hn, he, hc, h1, h2⟩ | ⟨h, hn, he, hc, h1, h2⟩ | h | h | h | h | h
    · exact .inl h
    · exact .inr (.inl h)
    · exact .inr (.inr (.inl h))
    · exact .inr (.inr (.inr (.inl ⟨h, hn, he, hc, fun x hx => (h1 x hx).lift, fun x hx => (h2 x hx).lift⟩)))
    · exact .inr (.inr (.inr (.inr (.inl ⟨h, hn, he, hc, fun x hx => (h1 x hx).lift, h2⟩))))
    · exact .inr (.inr (.inr (.inr (.inr (.inl h)))))
    · exact .inr (.inr (.inr (.inr (.inr (.inr (.inl h))))))
    · exact .inr (.inr (.inr (.inr (.inr (.inr (.inr (.inl h)))))))
    · exact .inr (.inr (.inr (.inr (.inr (.inr (.inr (.inr (.inl h))))))))
    · exact .inr (.inr (.inr (.inr (.inr (.inr (.inr (.inr (.inr h))))))))
theorem ptext_ne {m n : Nat} {p : Prg} (h : 1 <= p.threads.length) : ptext m n p ≠ [] := by
  cases ht : p.threads with
  | nil => rw [ht] at h; simp at h
  | cons ss ts =>
    intro e
    unfold ptext at e
    rw [ht] at e
    simp only [List.map_cons, List.flatten_cons, List.append_eq_nil_iff] at e
    have := e.2.1
    simp [ttext, lineT, sThread] at this
end Go.Proofs.YtclmeachbojopaaGreatDoor.Pr
