/- The reader takes tokens one behind the other. Plain. -/
import Derived.Test.YtfginegegaokbaaGreatDoorHPLift
namespace Go.Proofs.YtfginegegaokbaaGreatDoor.Pr
open Go.Lib (decDigits)
open Lx (Tok)
set_option linter.unusedVariables false
set_option linter.unusedSimpArgs false

def Rd.suf (r r' : Rd) : Prop := ∃ us, r.ts = us ++ r'.ts
theorem Rd.suf.refl (r : Rd) : r.suf r := ⟨[], rfl⟩
theorem Rd.suf.trans {a b c : Rd} (h : a.suf b) (k : b.suf c) : a.suf c := by
  obtain ⟨u, h⟩ := h
  obtain ⟨v, k⟩ := k
  exact ⟨u ++ v, by rw [h, k, List.append_assoc]⟩
theorem sf_drop (r : Rd) (n : Nat) (e : Option (Nat × Nat)) : r.suf ⟨r.ts.drop n, e⟩ := ⟨r.ts.take n, (List.take_append_drop n r.ts).symm⟩
theorem sf_next (r : Rd) : r.suf r.next := by
  unfold Rd.next
  split
  · exact sf_drop r 1 _
  · exact ⟨[], rfl⟩
theorem sf_fail (n : Nat) (r : Rd) : r.suf (r.fail n) := sf_drop r _ _
theorem sf_want (s : List UInt8) (r : Rd) : r.suf (r.want s) := by unfold Rd.want; split; exact sf_next r; exact sf_fail 2 r
theorem sf_name (r : Rd) : r.suf r.name.2 := by unfold Rd.name; split; exact sf_next r; exact sf_fail 2 r
theorem sf_number (m : Nat) (r : Rd) : r.suf (r.number m).2 := by
  unfold Rd.number
  split
  · split; exact sf_fail 6 r; exact sf_next r
  · exact sf_fail 2 r
def SfE (ex : ExP) : Prop := ∀ t d r, Rd.suf r (ex t d r).2
theorem sf_three {ex : ExP} (h : SfE ex) (d : Nat) (r : Rd) : r.suf (threeOf ex d r).2 :=
  ((((((sf_want _ r).trans (h _ _ _)).trans (sf_want _ _)).trans (h _ _ _)).trans (sf_want _ _)).trans (h _ _ _)).trans (sf_want _ _)
theorem sf_named {ex : ExP} (h : SfE ex) (t : Tok) (d : Nat) (r : Rd) : r.suf (namedOf ex t d r).2 := by
  unfold namedOf
  split
  · exact ((sf_next r).trans (h _ _ _)).trans (sf_want _ _)
  · exact Rd.suf.refl r
theorem sf_unary {ex : ExP} {un : Nat → Rd → Tree × Rd} (h : SfE ex) (hu : ∀ d r, Rd.suf r (un d r).2) (d : Nat) (r : Rd) : r.suf (unaryOf ex un d r).2 := by
  unfold unaryOf
  split
  · exact sf_fail 2 r
  split
  · exact sf_fail 6 r
  split
  · exact (sf_next r).trans (hu _ _)
  split
  · exact (sf_next r).trans (sf_three h _ _)
  split
  · exact ((sf_next r).trans (h _ _ _)).trans (sf_want _ _)
  split
  · exact sf_next r
  · exact (sf_next r).trans (sf_named h _ _ _)
theorem sf_loop {ex : ExP} (h : SfE ex) (t d : Nat) : ∀ (k : Nat) (left : Tree) (r : Rd), r.suf (loopOf ex t d k left r).2
  | 0, left, r => Rd.suf.refl r
  | k + 1, left, r => by
    unfold loopOf
    split
    · exact Rd.suf.refl r
    · exact ((sf_next r).trans (h _ _ _)).trans (sf_loop h t d k _ _)
theorem sf_failU (r : Rd) : r.suf (failU r).2 := by unfold failU; simp only; split; exact sf_fail 2 r; exact sf_fail 6 r
theorem sf_pair : ∀ f, SfE (exprP f) ∧ ∀ d r, Rd.suf r (unaryP f d r).2
  | 0 => ⟨fun _ _ r => sf_failU r, fun _ r => sf_failU r⟩
  | f + 1 => by
    obtain ⟨h1, h2⟩ := sf_pair f
    have hu : ∀ d r, Rd.suf r (unaryP (f + 1) d r).2 := fun d r => by rw [unaryP_succ]; exact sf_unary h1 h2 d r
    exact ⟨fun t d r => by rw [exprP_succ]; exact (hu d r).trans (sf_loop h1 t d _ _ _), hu⟩
theorem sf_expr (f : Nat) : SfE (exprP f) := (sf_pair f).1
theorem sf_value (d : Nat) (s : Stm) (r : Rd) : r.suf (valueP d s r).2 := sf_expr _ _ _ _
theorem sf_simple (t : Tok) (d : Nat) (s : Stm) (r : Rd) : r.suf (simpleP t d s r).2 := by
  unfold simpleP
  split
  · exact ((sf_name r).trans (sf_want _ _)).trans (sf_value _ _ _)
  split
  · split
    · exact ((((sf_next r).trans (sf_value _ _ _)).trans (sf_want _ _)).trans (sf_want _ _)).trans (sf_value _ _ _)
    · exact (sf_want _ r).trans (sf_value _ _ _)
  split
  · exact sf_name r
  split
  · exact sf_name r
  split
  · exact (sf_name r).trans (sf_value _ _ _)
  split
  · exact sf_value _ _ _
  · exact Rd.suf.refl r
def SfB (bl : BlP) : Prop := ∀ d r, Rd.suf r (bl d r).2
theorem sf_choice {bl : BlP} (h : SfB bl) (d : Nat) (s : Stm) (r : Rd) : r.suf (choiceOf bl d s r).2 := by
  have hb := (((sf_want [40] r).trans (sf_value d s _)).trans (sf_want [41] _)).trans (h (d + 1) _)
  unfold choiceOf
  simp only
  split
  · exact (hb.trans (sf_next _)).trans (h _ _)
  · exact hb
theorem sf_stmt {bl : BlP} (h : SfB bl) (d : Nat) (r : Rd) : r.suf (stmtOf bl d r).2 := by
  unfold stmtOf
  split
  · exact sf_fail 2 r
  split
  · exact sf_fail 6 r
  simp only
  split
  · exact (sf_next r).trans (sf_choice h _ _ _)
  split
  · exact (((sf_next r).trans (sf_name _)).trans (sf_number _ _)).trans (h _ _)
  · exact ((sf_next r).trans (sf_simple _ _ _ _)).trans (sf_want _ _)
theorem sf_blk {st : Nat → Rd → Stm × Rd} (h : ∀ d r, Rd.suf r (st d r).2) (d : Nat) : ∀ (k : Nat) (ss : List Stm) (r : Rd), r.suf (blkLoop st d k ss r).2
  | 0, ss, r => Rd.suf.refl r
  | k + 1, ss, r => by
    unfold blkLoop
    split
    · exact Rd.suf.refl r
    split
    · exact sf_next r
    · exact (h _ _).trans (sf_blk h d k _ _)
theorem sf_block {st : Nat → Rd → Stm × Rd} (h : ∀ d r, Rd.suf r (st d r).2) : SfB (blockOf st) := fun d r => (sf_want _ r).trans (sf_blk h d _ _ _)
theorem sf_st : ∀ f d r, Rd.suf r (stP f d r).2
  | 0, _, r => by
    show Rd.suf r (if (kindP r.here).isNone then r.fail 2 else r.fail 6)
    split; exact sf_fail 2 r; exact sf_fail 6 r
  | f + 1, d, r => sf_stmt (sf_block (sf_st f)) d r
theorem sf_cells (d : Dcl) (r : Rd) : r.suf (cellsP d r).2 := by
  unfold cellsP
  simp only
  by_cases h : r.name.2.is [91] = true
  · simp only [h, if_true]
    split
    · exact (((((sf_name r).trans (sf_next _)).trans (sf_number _ _)).trans (sf_want _ _)).trans (sf_next _)).trans (sf_name _)
    · exact (((sf_name r).trans (sf_next _)).trans (sf_number _ _)).trans (sf_want _ _)
  · simp only [h]
    split
    · rename_i h'; simp at h'
    · simp only [Bool.false_eq_true, if_false]
      split
      · exact ((sf_name r).trans (sf_next _)).trans (sf_name _)
      · exact sf_name r
theorem sf_decl (r : Rd) : r.suf (declP r).2 := by
  unfold declP
  refine Rd.suf.trans ?_ (sf_want _ _)
  split
  · exact (sf_next r).trans (sf_name _)
  split
  · exact (sf_next r).trans (sf_cells _ _)
  split
  · exact (sf_next r).trans (sf_cells _ _)
  · exact sf_fail 2 r

theorem thr_to : ∀ (k : Nat) (ts : List (List Stm)) (r : Rd), Rd.to r (thrLoop k ts r).2
  | 0, ts, r => Rd.to.refl r
  | k + 1, ts, r => by
    rw [thrLoop]
    split
    · exact Rd.to.refl r
    split
    · exact Rd.to.refl r
    split
    · exact to_fail 6 r
    · exact ((to_want _ r).trans (to_block (to_st 40) _ _)).trans (thr_to k _ _)
theorem decls_to : ∀ (k : Nat) (ds : List Dcl) (r : Rd), Rd.to r (declLoop k ds r).2
  | 0, ds, r => Rd.to.refl r
  | k + 1, ds, r => by
    rw [declLoop]
    split
    · exact Rd.to.refl r
    split
    · exact Rd.to.refl r
    split
    · exact to_fail 6 r
    · exact (to_decl r).trans (decls_to k _ _)

/-! places -/
theorem err_back {r r' : Rd} (h : r.to r') (he : r'.err = none) : r.err = none := by
  cases e : r.err with
  | none => rfl
  | some x =>
    have := h.2.2 (by rw [e]; rfl)
    rw [he, e] at this; cases this
theorem fail_no {n : Nat} {r : Rd} (h : (r.fail n).err = none) : False := by
  have := fail_err n r
  rw [h] at this; cases this
theorem next_of {r r' : Rd} (hg : r.good) (hk : r.here.kind ≠ 0) (h : r.next.suf r') : ∃ us, r.ts = r.here :: (us ++ r'.ts) := by
  rcases good_cases hg with ⟨k, _, e⟩ | ⟨_, _, _, _, h2, _⟩
  · exact absurd (by rw [e]; rfl) hk
  · obtain ⟨us, hu⟩ := h
    exact ⟨us, by rw [← hu, h2]; exact hg.cons⟩
theorem value_at (d : Nat) (s : Stm) (r : Rd) : (valueP d s r).1.at_ = s.at_ := rfl
theorem simple_at (t : Tok) (d : Nat) (s : Stm) (r : Rd) : (simpleP t d s r).1.at_ = s.at_ := by
  unfold simpleP
  split
  · rfl
  split
  · split <;> rfl
  split
  · rfl
  split
  · rfl
  split
  · rfl
  split <;> rfl
theorem choice_at (bl : BlP) (d : Nat) (s : Stm) (r : Rd) : (choiceOf bl d s r).1.at_ = s.at_ := by
  unfold choiceOf
  simp only
  split <;> rfl
theorem kind_here {r : Rd} {k : Int} (h : kindP r.here = some k) (hg : r.good) : r.here.kind ≠ 0 := by
  rcases good_cases hg with ⟨j, _, e⟩ | ⟨h, _⟩
  · rw [e] at h; cases (show kindP (endT j) = none from rfl).symm.trans h
  · exact h
end Go.Proofs.YtfginegegaokbaaGreatDoor.Pr
