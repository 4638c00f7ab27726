/- What the maker's secretly answers, all ways; and that what is made is well formed. Conditions: the maker lies in a block of its own. -/
import Derived.Test.YtfginegegaokbaaGreatDoorMakeSec
namespace Go.Proofs.YtfginegegaokbaaGreatDoor
open Go.ChangeShapes Go.WideShapes Go.ChangeAt Go.RowKit
set_option linter.unusedVariables false
set_option linter.unusedSimpArgs false

theorem secretly_all (E : Env) : ∀ f, SecC E f
  | 0 => fun B bm ns deep w hf hd hM => by
    exact secretly_pub B bm E deep ns w hM (by omega) 1 0 (by omega) (by omega) (by omega) (.inl (by omega))
  | f + 1 => fun B bm ns deep w hf hd hM => by
    have h8 := nxV_lt ns 8 (by omega)
    by_cases c0 : 3 < deep ∨ nxV ns 8 = 0
    · have e : secM E (f + 1) deep ns = pubM E f (deep + 1) ns.tail := by simp only [secM]; rw [if_pos c0]
      rw [e]
      exact secretly_pub B bm E deep ns w hM (by omega) (2 * (f + 1) + 1) f (by omega) (by omega) (by omega) c0
    · have c3 : ¬ 3 < deep := fun h => c0 (.inl h)
      have ck : nxV ns 8 ≠ 0 := fun h => c0 (.inr h)
      have ih : SecC E f := secretly_all E f
      by_cases c1 : nxV ns 8 = 1
      · have e : secM E (f + 1) deep ns = (nameT (dig 115 E), ns.tail) := by simp only [secM]; rw [if_neg c0, if_pos c1]
        rw [e]
        exact secretly_own B bm E (2 * (f + 1)) deep ns w hM (by omega) c3 c1
      · by_cases c2 : nxV ns 8 = 2
        · have e : secM E (f + 1) deep ns = (cellT (dig 116 E) (placeM (pubM E f) E deep ns.tail).1, (placeM (pubM E f) E deep ns.tail).2) := by simp only [secM]; rw [if_neg c0, if_neg c1, if_pos c2]
          rw [e]
          exact secretly_cell B bm E f deep ns w hM (by omega) (public_all E f) (by omega) c3 c2
        · by_cases ck3 : nxV ns 8 = 3 ∧ E.held = true
          · have e : secM E (f + 1) deep ns = (nameT hiddenS, ns.tail) := by simp only [secM]; rw [if_neg c0, if_neg c1, if_neg c2, if_pos ck3]
            rw [e]
            exact secretly_hidden B bm E (2 * (f + 1)) deep ns w hM (by omega) c3 ck3.1 ck3.2
          · by_cases c4 : nxV ns 8 = 4 ∧ 0 < E.loc.length
            · have e : secM E (f + 1) deep ns = (nameT (E.loc.getD (nxV ns.tail E.loc.length) ⟨#[]⟩), ns.tail.tail) := by simp only [secM]; rw [if_neg c0, if_neg c1, if_neg c2, if_neg ck3, if_pos c4]
              rw [e]
              exact secretly_local B bm E (2 * (f + 1)) deep ns w hM (by omega) c3 c4.1 c4.2
            · by_cases c5 : nxV ns 8 = 5
              · obtain ⟨t1, n1, hp1⟩ : ∃ t n, secM E f (deep + 1) ns.tail = (t, n) := ⟨_, _, rfl⟩
                obtain ⟨t2, n2, hp2⟩ : ∃ t n, secM E f (deep + 1) n1 = (t, n) := ⟨_, _, rfl⟩
                obtain ⟨t3, n3, hp3⟩ : ∃ t n, secM E f (deep + 1) n2 = (t, n) := ⟨_, _, rfl⟩
                have e : secM E (f + 1) deep ns = (pickT t1 t2 t3, n3) := by simp only [secM]; rw [if_neg c0, if_neg c1, if_neg c2, if_neg ck3, if_neg c4, if_pos c5]; simp only [hp1, hp2, hp3]
                rw [e]
                exact secretly_pick B bm E f deep ns w hM (by omega) ih hf c3 c5 t1 t2 t3 n1 n2 n3 hp1 hp2 hp3
              · have e : secM E (f + 1) deep ns = binM (secM E f) deep ns.tail := by simp only [secM]; rw [if_neg c0, if_neg c1, if_neg c2, if_neg ck3, if_neg c4, if_neg c5]
                rw [e]
                refine secretly_bin B bm E f deep ns w hM (by omega) ih hf c3 ?_
                by_cases d2 : nxV ns 8 = 3
                · exact .inr (.inr (.inl ⟨d2, by cases hh : E.held with | false => rfl | true => exact absurd ⟨d2, hh⟩ ck3⟩))
                · by_cases d4 : nxV ns 8 = 4
                  · exact .inr (.inr (.inr ⟨d4, by rcases Nat.eq_zero_or_pos E.loc.length with h | h; exact h; exact absurd ⟨d4, h⟩ c4⟩))
                  · omega
end Go.Proofs.YtfginegegaokbaaGreatDoor
