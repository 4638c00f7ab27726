/- Where what is read stands: the reader takes tokens one behind the other, and a statement or declaration stands where its first token does. Plain. -/
import Derived.Test.YtfginegegaokbaaGreatDoorHPMade
namespace Go.Proofs.YtfginegegaokbaaGreatDoor.Pr
open Go.Lib (decDigits)
open Lx (Tok)
set_option linter.unusedVariables false
set_option linter.unusedSimpArgs false

def Rd.suf (r r' : Rd) : Prop := ∃ us, r.ts = us ++ r'.ts
theorem Rd.suf.refl (r : Rd) : r.suf r := ⟨[], rfl⟩
theorem Rd.suf.trans {a b c : Rd} (h : a.suf b) (k : b.suf c) : a.suf c := by
  obtain ⟨u, h⟩ := h
  obtain ⟨v, k⟩ := k
  exact ⟨u ++ v, by rw [h, k, List.append_assoc]⟩
theorem sf_drop (r : Rd) (n : Nat) (e : Option (Nat × Nat)) : r.suf ⟨r.ts.drop n, e⟩ := ⟨r.ts.take n, (List.take_append_drop n r.ts).symm⟩
theorem sf_next (r : Rd) : r.suf r.next := by
  unfold Rd.next
  split
  · exact sf_drop r 1 _
  · exact ⟨[], rfl⟩
theorem sf_fail (n : Nat) (r : Rd) : r.suf (r.fail n) := sf_drop r _ _
theorem sf_want (s : List UInt8) (r : Rd) : r.suf (r.want s) := by unfold Rd.want; split; exact sf_next r; exact sf_fail 2 r
theorem sf_name (r : Rd) : r.suf r.name.2 := by unfold Rd.name; split; exact sf_next r; exact sf_fail 2 r
theorem sf_number (m : Nat) (r : Rd) : r.suf (r.number m).2 := by
  unfold Rd.number
  split
  · split; exact sf_fail 6 r; exact sf_next r
  · exact sf_fail 2 r
def SfE (ex : ExP) : Prop := ∀ t d r, Rd.suf r (ex t d r).2
theorem sf_three {ex : ExP} (h : SfE ex) (d : Nat) (r : Rd) : r.suf (threeOf ex d r).2 :=
  ((((((sf_want _ r).trans (h _ _ _)).trans (sf_want _ _)).trans (h _ _ _)).trans (sf_want _ _)).trans (h _ _ _)).trans (sf_want _ _)
theorem sf_named {ex : ExP} (h : SfE ex) (t : Tok) (d : Nat) (r : Rd) : r.suf (namedOf ex t d r).2 := by
  unfold namedOf
  split
  · exact ((sf_next r).trans (h _ _ _)).trans (sf_want _ _)
  · exact Rd.suf.refl r
theorem sf_unary {ex : ExP} {un : Nat → Rd → Tree × Rd} (h : SfE ex) (hu : ∀ d r, Rd.suf r (un d r).2) (d : Nat) (r : Rd) : r.suf (unaryOf ex un d r).2 := by
  unfold unaryOf
  split
  · exact sf_fail 2 r
  split
  · exact sf_fail 6 r
  split
  · exact (sf_next r).trans (hu _ _)
  split
  · exact (sf_next r).trans (sf_three h _ _)
  split
  · exact ((sf_next r).trans (h _ _ _)).trans (sf_want _ _)
  split
  · exact sf_next r
  · exact (sf_next r).trans (sf_named h _ _ _)
theorem sf_loop {ex : ExP} (h : SfE ex) (t d : Nat) : ∀ (k : Nat) (left : Tree) (r : Rd), r.suf (loopOf ex t d k left r).2
  | 0, left, r => Rd.suf.refl r
  | k + 1, left, r => by
    unfold loopOf
    split
    · exact Rd.suf.refl r
    · exact ((sf_next r).trans (h _ _ _)).trans (sf_loop h t d k _ _)
theorem sf_failU (r : Rd) : r.suf (failU r).2 := by unfold failU; simp only; split; exact sf_fail 2 r; exact sf_fail 6 r
theorem sf_pair : ∀ f, SfE (exprP f) ∧ ∀ d r, Rd.suf r (unaryP f d r).2
  | 0 => ⟨fun _ _ r => sf_failU r, fun _ r => sf_failU r⟩
  | f + 1 => by
    obtain ⟨h1, h2⟩ := sf_pair f
    have hu : ∀ d r, Rd.suf r (unaryP (f + 1) d r).2 := fun d r => by rw [unaryP_succ]; exact sf_unary h1 h2 d r
    exact ⟨fun t d r => by rw [exprP_succ]; exact (hu d r).trans (sf_loop h1 t d _ _ _), hu⟩
theorem sf_expr (f : Nat) : SfE (exprP f) := (sf_pair f).1
theorem sf_value (d : Nat) (s : Stm) (r : Rd) : r.suf (valueP d s r).2 := sf_expr _ _ _ _
theorem sf_simple (t : Tok) (d : Nat) (s : Stm) (r : Rd) : r.suf (simpleP t d s r).2 := by
  unfold simpleP
  split
  · exact ((sf_name r).trans (sf_want _ _)).trans (sf_value _ _ _)
  split
  · split
    · exact ((((sf_next r).trans (sf_value _ _ _)).trans (sf_want _ _)).trans (sf_want _ _)).trans (sf_value _ _ _)
    · exact (sf_want _ r).trans (sf_value _ _ _)
  split
  · exact sf_name r
  split
  · exact sf_name r
  split
  · exact (sf_name r).trans (sf_value _ _ _)
  split
  · exact sf_value _ _ _
  · exact Rd.suf.refl r
def SfB (bl : BlP) : Prop := ∀ d r, Rd.suf r (bl d r).2
theorem sf_choice {bl : BlP} (h : SfB bl) (d : Nat) (s : Stm) (r : Rd) : r.suf (choiceOf bl d s r).2 := by
  have hb := (((sf_want [40] r).trans (sf_value d s _)).trans (sf_want [41] _)).trans (h (d + 1) _)
  unfold choiceOf
  simp only
  split
  · exact (hb.trans (sf_next _)).trans (h _ _)
  · exact hb
theorem sf_stmt {bl : BlP} (h : SfB bl) (d : Nat) (r : Rd) : r.suf (stmtOf bl d r).2 := by
  unfold stmtOf
  split
  · exact sf_fail 2 r
  split
  · exact sf_fail 6 r
  simp only
  split
  · exact (sf_next r).trans (sf_choice h _ _ _)
  split
  · exact (((sf_next r).trans (sf_name _)).trans (sf_number _ _)).trans (h _ _)
  · exact ((sf_next r).trans (sf_simple _ _ _ _)).trans (sf_want _ _)
theorem sf_blk {st : Nat → Rd → Stm × Rd} (h : ∀ d r, Rd.suf r (st d r).2) (d : Nat) : ∀ (k : Nat) (ss : List Stm) (r : Rd), r.suf (blkLoop st d k ss r).2
  | 0, ss, r => Rd.suf.refl r
  | k + 1, ss, r => by
    unfold blkLoop
    split
    · exact Rd.suf.refl r
    split
    · exact sf_next r
    · exact (h _ _).trans (sf_blk h d k _ _)
theorem sf_block {st : Nat → Rd → Stm × Rd} (h : ∀ d r, Rd.suf r (st d r).2) : SfB (blockOf st) := fun d r => (sf_want _ r).trans (sf_blk h d _ _ _)
theorem sf_st : ∀ f d r, Rd.suf r (stP f d r).2
  | 0, _, r => by
    show Rd.suf r (if (kindP r.here).isNone then r.fail 2 else r.fail 6)
    split; exact sf_fail 2 r; exact sf_fail 6 r
  | f + 1, d, r => sf_stmt (sf_block (sf_st f)) d r
theorem sf_cells (d : Dcl) (r : Rd) : r.suf (cellsP d r).2 := by
  unfold cellsP
  simp only
  by_cases h : r.name.2.is [91] = true
  · simp only [h, if_true]
    split
    · exact (((((sf_name r).trans (sf_next _)).trans (sf_number _ _)).trans (sf_want _ _)).trans (sf_next _)).trans (sf_name _)
    · exact (((sf_name r).trans (sf_next _)).trans (sf_number _ _)).trans (sf_want _ _)
  · simp only [h]
    split
    · rename_i h'; simp at h'
    · simp only [Bool.false_eq_true, if_false]
      split
      · exact ((sf_name r).trans (sf_next _)).trans (sf_name _)
      · exact sf_name r
theorem sf_decl (r : Rd) : r.suf (declP r).2 := by
  unfold declP
  refine Rd.suf.trans ?_ (sf_want _ _)
  split
  · exact (sf_next r).trans (sf_name _)
  split
  · exact (sf_next r).trans (sf_cells _ _)
  split
  · exact (sf_next r).trans (sf_cells _ _)
  · exact sf_fail 2 r

theorem thr_to : ∀ (k : Nat) (ts : List (List Stm)) (r : Rd), Rd.to r (thrLoop k ts r).2
  | 0, ts, r => Rd.to.refl r
  | k + 1, ts, r => by
    rw [thrLoop]
    split
    · exact Rd.to.refl r
    split
    · exact Rd.to.refl r
    split
    · exact to_fail 6 r
    · exact ((to_want _ r).trans (to_block (to_st 40) _ _)).trans (thr_to k _ _)
theorem decls_to : ∀ (k : Nat) (ds : List Dcl) (r : Rd), Rd.to r (declLoop k ds r).2
  | 0, ds, r => Rd.to.refl r
  | k + 1, ds, r => by
    rw [declLoop]
    split
    · exact Rd.to.refl r
    split
    · exact Rd.to.refl r
    split
    · exact to_fail 6 r
    · exact (to_decl r).trans (decls_to k _ _)

/-! places -/
theorem err_back {r r' : Rd} (h : r.to r') (he : r'.err = none) : r.err = none := by
  cases e : r.err with
  | none => rfl
  | some x =>
    have := h.2.2 (by rw [e]; rfl)
    rw [he, e] at this; cases this
theorem fail_no {n : Nat} {r : Rd} (h : (r.fail n).err = none) : False := by
  have := fail_err n r
  rw [h] at this; cases this
theorem next_of {r r' : Rd} (hg : r.good) (hk : r.here.kind ≠ 0) (h : r.next.suf r') : ∃ us, r.ts = r.here :: (us ++ r'.ts) := by
  rcases good_cases hg with ⟨k, _, e⟩ | ⟨_, _, _, _, h2, _⟩
  · exact absurd (by rw [e]; rfl) hk
  · obtain ⟨us, hu⟩ := h
    exact ⟨us, by rw [← hu, h2]; exact hg.cons⟩
theorem value_at (d : Nat) (s : Stm) (r : Rd) : (valueP d s r).1.at_ = s.at_ := rfl
theorem simple_at (t : Tok) (d : Nat) (s : Stm) (r : Rd) : (simpleP t d s r).1.at_ = s.at_ := by
  unfold simpleP
  split
  · rfl
  split
  · split <;> rfl
  split
  · rfl
  split
  · rfl
  split
  · rfl
  split <;> rfl
theorem choice_at (bl : BlP) (d : Nat) (s : Stm) (r : Rd) : (choiceOf bl d s r).1.at_ = s.at_ := by
  unfold choiceOf
  simp only
  split <;> rfl
theorem kind_here {r : Rd} {k : Int} (h : kindP r.here = some k) (hg : r.good) : r.here.kind ≠ 0 := by
  rcases good_cases hg with ⟨j, _, e⟩ | ⟨h, _⟩
  · rw [e] at h; cases (show kindP (endT j) = none from rfl).symm.trans h
  · exact h
theorem st_pos {bl : BlP} (h : SfB bl) (d : Nat) (r : Rd) (hg : r.good) (he : (stmtOf bl d r).2.err = none) : (stmtOf bl d r).1.at_ = (r.here.at_ : Int) ∧ ∃ us, r.ts = r.here :: (us ++ (stmtOf bl d r).2.ts) := by
  unfold stmtOf at he ⊢
  split at he
  · exact (fail_no he).elim
  · rename_i k hk
    split at he
    · exact (fail_no he).elim
    · rename_i hd
      have hk0 := kind_here hk hg
      simp only [hk, if_neg hd] at he ⊢
      by_cases h3 : k = 3
      · simp only [if_pos h3] at he ⊢
        exact ⟨choice_at _ _ _ _, next_of hg hk0 (sf_choice h _ _ _)⟩
      · by_cases h4 : k = 4
        · simp only [if_neg h3, if_pos h4] at he ⊢
          exact ⟨trivial, next_of hg hk0 (((sf_name _).trans (sf_number _ _)).trans (h _ _))⟩
        · simp only [if_neg h3, if_neg h4] at he ⊢
          exact ⟨simple_at _ _ _ _, next_of hg hk0 ((sf_simple _ _ _ _).trans (sf_want _ _))⟩
theorem stP_pos : ∀ (f d : Nat) (r : Rd), r.good → (stP f d r).2.err = none → (stP f d r).1.at_ = (r.here.at_ : Int) ∧ ∃ us, r.ts = r.here :: (us ++ (stP f d r).2.ts)
  | 0, d, r, hg, he => by
    have he' : (if (kindP r.here).isNone then r.fail 2 else r.fail 6).err = none := he
    split at he' <;> exact (fail_no he').elim
  | f + 1, d, r, hg, he => st_pos (sf_block (sf_st f)) d r hg he
def atsS (ss : List Stm) : List Int := ss.map fun s => s.at_
def atsT (us : List Tok) : List Int := us.map fun t => (t.at_ : Int)
theorem atsS_append (a b : List Stm) : atsS (a ++ b) = atsS a ++ atsS b := by simp [atsS]
theorem atsT_append (a b : List Tok) : atsT (a ++ b) = atsT a ++ atsT b := by simp [atsT]
theorem blk_pos (f d : Nat) : ∀ (k : Nat) (ss : List Stm) (r : Rd), r.good → (blkLoop (stP f) d k ss r).2.err = none →
    ∃ ss' us, (blkLoop (stP f) d k ss r).1 = ss ++ ss' ∧ r.ts = us ++ (blkLoop (stP f) d k ss r).2.ts ∧ (atsS ss').Sublist (atsT us)
  | 0, ss, r, hg, he => ⟨[], [], by simp [blkLoop], rfl, .slnil⟩
  | k + 1, ss, r, hg, he => by
    rw [blkLoop] at he ⊢
    split at he
    · rename_i h1; simp only [h1, if_true]; exact ⟨[], [], by simp, rfl, .slnil⟩
    · rename_i h1
      simp only [h1, if_false, Bool.false_eq_true]
      split at he
      · rename_i h2
        simp only [h2, if_true]
        obtain ⟨us, hu⟩ := sf_next r
        exact ⟨[], us, by simp, hu, List.nil_sublist _⟩
      · rename_i h2
        simp only [h2, if_false, Bool.false_eq_true]
        have e1 := err_back (to_blk (fun d r => to_st f d r) d k _ _) he
        obtain ⟨hat, u1, hu1⟩ := stP_pos f d r hg e1
        obtain ⟨ss', u2, h3, h4, h5⟩ := blk_pos f d k (ss ++ [(stP f d r).1]) (stP f d r).2 ((to_st f d r).1 hg) he
        refine ⟨(stP f d r).1 :: ss', r.here :: (u1 ++ u2), by rw [h3, List.append_assoc]; rfl, by rw [hu1, h4]; simp, ?_⟩
        show ((stP f d r).1.at_ :: atsS ss').Sublist ((r.here.at_ : Int) :: atsT (u1 ++ u2))
        rw [hat, atsT_append]
        exact (h5.trans (List.sublist_append_right _ _)).cons_cons _
theorem block_pos (f d : Nat) (r : Rd) (hg : r.good) (he : (blockOf (stP f) d r).2.err = none) : ∃ us, r.ts = us ++ (blockOf (stP f) d r).2.ts ∧ (atsS (blockOf (stP f) d r).1).Sublist (atsT us) := by
  obtain ⟨ss', us, h1, h2, h3⟩ := blk_pos f d ((r.want [123]).ts.length + 1) [] (r.want [123]) ((to_want _ r).1 hg) he
  obtain ⟨u0, h0⟩ := sf_want [123] r
  refine ⟨u0 ++ us, by rw [h0, h2, List.append_assoc]; rfl, ?_⟩
  have e : (blockOf (stP f) d r).1 = ss' := by unfold blockOf; rw [h1]; rfl
  rw [e, atsT_append]
  exact h3.trans (List.sublist_append_right _ _)
def atsP (ts : List (List Stm)) : List Int := (ts.map atsS).flatten
theorem thr_pos : ∀ (k : Nat) (ts : List (List Stm)) (r : Rd), r.good → (thrLoop k ts r).2.err = none →
    ∃ ts' us, (thrLoop k ts r).1 = ts ++ ts' ∧ r.ts = us ++ (thrLoop k ts r).2.ts ∧ (atsP ts').Sublist (atsT us)
  | 0, ts, r, hg, he => ⟨[], [], by simp [thrLoop], rfl, .slnil⟩
  | k + 1, ts, r, hg, he => by
    rw [thrLoop] at he ⊢
    split at he
    · rename_i h1; simp only [h1, if_true]; exact ⟨[], [], by simp, rfl, .slnil⟩
    · rename_i h1
      simp only [h1, if_false, Bool.false_eq_true]
      split at he
      · rename_i h2
        simp only [h2, if_true]
        exact ⟨[], [], by simp, rfl, .slnil⟩
      · rename_i h2
        simp only [h2, if_false]
        split at he
        · rename_i h3; exact (fail_no he).elim
        · rename_i h3
          simp only [h3, if_false]
          have hT : ∀ k ts r, Rd.to r (thrLoop k ts r).2 := thr_to
          have e1 := err_back (hT k _ _) he
          obtain ⟨u1, hu1, hs1⟩ := block_pos 40 1 (r.want kThread) ((to_want _ r).1 hg) e1
          obtain ⟨u0, hu0⟩ := sf_want kThread r
          obtain ⟨ts', u2, h3, h4, h5⟩ := thr_pos k (ts ++ [(blockOf (stP 40) 1 (r.want kThread)).1]) (blockOf (stP 40) 1 (r.want kThread)).2 (((to_want _ r).trans (to_block (to_st 40) _ _)).1 hg) he
          refine ⟨(blockOf (stP 40) 1 (r.want kThread)).1 :: ts', u0 ++ (u1 ++ u2), by rw [h3, List.append_assoc]; rfl, by rw [hu0, hu1, h4]; simp, ?_⟩
          show (atsS _ ++ atsP ts').Sublist _
          rw [atsT_append, atsT_append]
          exact (hs1.append h5).trans (List.sublist_append_right _ _)
theorem cells_at (d : Dcl) (r : Rd) : (cellsP d r).1.at_ = d.at_ := by
  unfold cellsP
  simp only
  (repeat' split) <;> rfl
theorem decl_pos (r : Rd) (hg : r.good) (he : (declP r).2.err = none) : (declP r).1.at_ = (r.here.at_ : Int) ∧ ∃ us, r.ts = r.here :: (us ++ (declP r).2.ts) := by
  have hend : r.here.text ≠ [] → r.here.kind ≠ 0 := fun h => by
    rcases good_cases hg with ⟨j, _, e⟩ | ⟨h, _⟩
    · rw [e] at h; exact absurd rfl h
    · exact h
  have e1 := err_back (to_want [59] _) (show (Rd.want [59] _).err = none from he)
  unfold declP at he ⊢
  by_cases h1 : r.is kLock = true
  · simp only [h1, if_true] at he ⊢
    have hx : r.here.text = kLock := by simpa [Rd.is] using h1
    exact ⟨trivial, next_of hg (hend (by rw [hx]; decide)) ((sf_name _).trans (sf_want _ _))⟩
  · simp only [h1, if_false, Bool.false_eq_true] at he ⊢
    by_cases h2 : r.is kPublic = true
    · simp only [h2, if_true] at he ⊢
      have hx : r.here.text = kPublic := by simpa [Rd.is] using h2
      exact ⟨cells_at _ _, next_of hg (hend (by rw [hx]; decide)) ((sf_cells _ _).trans (sf_want _ _))⟩
    · simp only [h2, if_false, Bool.false_eq_true] at he ⊢
      by_cases h3 : r.is kSecret = true
      · simp only [h3, if_true] at he ⊢
        have hx : r.here.text = kSecret := by simpa [Rd.is] using h3
        exact ⟨cells_at _ _, next_of hg (hend (by rw [hx]; decide)) ((sf_cells _ _).trans (sf_want _ _))⟩
      · simp only [h3, if_false, Bool.false_eq_true] at he ⊢
        exact (fail_no (err_back (to_want [59] _) he)).elim
def atsD (ds : List Dcl) : List Int := ds.map fun d => d.at_
theorem decl_poss : ∀ (k : Nat) (ds : List Dcl) (r : Rd), r.good → (declLoop k ds r).2.err = none →
    ∃ ds' us, (declLoop k ds r).1 = ds ++ ds' ∧ r.ts = us ++ (declLoop k ds r).2.ts ∧ (atsD ds').Sublist (atsT us)
  | 0, ds, r, hg, he => ⟨[], [], by simp [declLoop], rfl, .slnil⟩
  | k + 1, ds, r, hg, he => by
    rw [declLoop] at he ⊢
    split at he
    · rename_i h1; simp only [h1, if_true]; exact ⟨[], [], by simp, rfl, .slnil⟩
    · rename_i h1
      simp only [h1, if_false, Bool.false_eq_true]
      split at he
      · rename_i h2
        simp only [h2, if_true]
        exact ⟨[], [], by simp, rfl, .slnil⟩
      · rename_i h2
        simp only [h2, if_false, Bool.false_eq_true]
        split at he
        · rename_i h3; exact (fail_no he).elim
        · rename_i h3
          simp only [h3, if_false]
          have e1 := err_back (decls_to k _ _) he
          obtain ⟨hat, u1, hu1⟩ := decl_pos r hg e1
          obtain ⟨ds', u2, h4, h5, h6⟩ := decl_poss k (ds ++ [(declP r).1]) (declP r).2 ((to_decl r).1 hg) he
          refine ⟨(declP r).1 :: ds', r.here :: (u1 ++ u2), by rw [h4, List.append_assoc]; rfl, by rw [hu1, h5]; simp, ?_⟩
          show ((declP r).1.at_ :: atsD ds').Sublist ((r.here.at_ : Int) :: atsT (u1 ++ u2))
          rw [hat, atsT_append]
          exact (h6.trans (List.sublist_append_right _ _)).cons_cons _
def atsAll (q : Prg) : List Int := atsD q.decls ++ atsP q.threads
theorem prog_pos {ts : List Tok} {q : Prg} (hg : (⟨ts, none⟩ : Rd).good) (h : progP ts = .ok q) : (atsAll q).Sublist (atsT ts) := by
  unfold progP at h
  simp only at h
  split at h
  · cases h
  · rename_i he
    cases h
    have e1 := err_back (thr_to 17 [] (declsP ⟨ts, none⟩).2) he
    obtain ⟨ds', u1, h1, h2, h3⟩ := decl_poss 65 [] ⟨ts, none⟩ hg e1
    have g1 : (declsP ⟨ts, none⟩).2.good := (decls_to 65 [] ⟨ts, none⟩).1 hg
    obtain ⟨ts', u2, h4, h5, h6⟩ := thr_pos 17 [] (declsP ⟨ts, none⟩).2 g1 he
    have a1 : (declsP ⟨ts, none⟩).1 = ds' := h1
    have a2 : (threadsP (declsP ⟨ts, none⟩).2).1 = ts' := h4
    have a3 : ts = u1 ++ (u2 ++ (thrLoop 17 [] (declsP ⟨ts, none⟩).2).2.ts) := by
      rw [← h5]; exact h2
    show (atsD (declsP ⟨ts, none⟩).1 ++ atsP (threadsP (declsP ⟨ts, none⟩).2).1).Sublist _
    rw [a1, a2, a3, atsT_append, atsT_append]
    exact h3.append (h6.trans (List.sublist_append_left _ _))

/-! tokens rise -/
theorem toksAt_rise : ∀ (is : List It) (k : Nat) (l : List UInt8), okF is l → (∀ t ∈ toksAt k is, k ≤ t.at_ ∧ t.at_ < k + (flat is).length) ∧ (toksAt k is).Pairwise fun a b => a.at_ < b.at_
  | [], k, l, _ => ⟨by simp [toksAt], by simp [toksAt]⟩
  | i :: is, k, l, ⟨h1, h2⟩ => by
    unfold toksAt
    rw [flat_cons]
    cases e : i.sg with
    | none =>
      have ht : i.text = i.gap := by unfold It.text; rw [e]
      obtain ⟨a, b⟩ := toksAt_rise is (k + i.gap.length) l h2
      simp only [ht, List.length_append]
      exact ⟨fun t ht => by have := a t ht; omega, b⟩
    | some s =>
      rw [e] at h1
      have ht : i.text = s.text := by unfold It.text; rw [e]
      have hp : 0 < s.text.length := by
        cases h : s.text with
        | nil => exact absurd h h1.1
        | cons a b => simp
      obtain ⟨a, b⟩ := toksAt_rise is (k + s.text.length) l h2
      simp only [ht, List.length_append]
      refine ⟨fun t htm => ?_, List.pairwise_cons.2 ⟨fun t htm => ?_, b⟩⟩
      · rcases List.mem_cons.1 htm with rfl | h
        · exact ⟨Nat.le_refl _, by show k < _; omega⟩
        · have := a t h; omega
      · have := (a t htm).1
        show k < t.at_
        omega
theorem pair_map {us : List Tok} (h : us.Pairwise fun a b => a.at_ < b.at_) : (atsT us).Pairwise (· < ·) := by
  unfold atsT
  rw [List.pairwise_map]
  exact h.imp fun h => by omega
theorem made_places (ns : List UInt8) (hl : (ptext 13 5 (makeM ns)).length ≤ 65536) : ∃ ts q, Lx.cutAll (ptext 13 5 (makeM ns)) = .ok ts ∧ parseP (ptext 13 5 (makeM ns)) = .ok q ∧ eqP 13 5 q (makeM ns) ∧ (atsAll q).Sublist (atsT ts) ∧ (atsAll q).Pairwise (· < ·) := by
  have hgP := made_gP ns
  obtain ⟨q, hq, heq⟩ := text_back 13 5 _ hgP hl
  have hf := pits_flat 13 5 _ hgP
  have hc := cut_items _ (pits_ok 13 5 _ hgP) (by rw [hf]; exact hl)
  rw [hf] at hc
  refine ⟨_, q, hc, hq, heq, ?_⟩
  have hp : progP (toksAt 0 (pits 13 5 (makeM ns)) ++ [endT (ptext 13 5 (makeM ns)).length]) = .ok q := by
    have := hq
    unfold parseP at this
    rw [hc] at this
    exact this
  have hok : ∀ t ∈ toksAt 0 (pits 13 5 (makeM ns)), t.kind ≠ 0 ∧ t.text ≠ [] := toks_ok (toksAt_sgs 0 _) (by
    unfold pits
    rw [sgs_append]
    exact allOK_append (allOK_map dits _ fun x hx => dits_sok x (hgP.d x hx)) (allOK_map (tits 13 5) _ fun x hx => tits_sok 13 5 x (hgP.s x hx)))
  have hs := prog_pos (goodL.app hok (end_good _)) hp
  refine ⟨hs, (List.Pairwise.sublist hs ?_)⟩
  apply pair_map
  obtain ⟨a, b⟩ := toksAt_rise (pits 13 5 (makeM ns)) 0 [] (pits_ok 13 5 _ hgP)
  refine List.pairwise_append.2 ⟨b, by simp, fun x hx y hy => ?_⟩
  simp only [List.mem_singleton] at hy
  subst hy
  have := (a x hx).2
  rw [hf] at this
  show x.at_ < (ptext 13 5 (makeM ns)).length
  omega
end Go.Proofs.YtfginegegaokbaaGreatDoor.Pr
