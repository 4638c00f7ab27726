/- How many of the labels are 1, in plain words. Plain. -/
import Derived.Test.YtonlfplojhlmjaaPlPlain
namespace Go.Proofs.Ytonlfplojhlmjaa.Pl
set_option linter.unusedVariables false
set_option linter.unusedSimpArgs false

def wantP : List Pd → Int
  | [] => 0
  | d :: ds => (if d.label = 1 ∧ d.lock = false then cellsP d else 0) + wantP ds
def onesP : List Int → Int
  | [] => 0
  | l :: ls => (if l = 1 then 1 else 0) + onesP ls
theorem ones_append (a b : List Int) : onesP (a ++ b) = onesP a + onesP b := by
  induction a with
  | nil => simp [onesP]
  | cons x a ih => simp only [onesP, List.cons_append, ih]; omega
theorem ones_rep (n : Nat) (l : Int) : onesP (List.replicate n l) = if l = 1 then (n : Int) else 0 := by
  induction n with
  | zero => simp [onesP]
  | succ n ih =>
    rw [List.replicate_succ, onesP, ih]
    by_cases h : l = 1
    · rw [if_pos h, if_pos h, if_pos h]; omega
    · rw [if_neg h, if_neg h, if_neg h]; omega
theorem ones_want (ds : List Pd) : onesP (labelsP ds) = wantP ds := by
  induction ds with
  | nil => rfl
  | cons d ds ih =>
    have hc := cells_pos d
    rw [labelsP, ones_append, ones_rep, ih, wantP]
    congr 1
    unfold labelP
    cases hl : d.lock with
    | true => simp
    | false =>
      by_cases h : d.label = 1
      · simp [h]; omega
      · simp [h]
theorem ones_bound (ls : List Int) : 0 ≤ onesP ls ∧ onesP ls ≤ ls.length := by
  induction ls with
  | nil => simp [onesP]
  | cons l ls ih => simp only [onesP, List.length_cons]; split <;> omega
theorem want_bound (ds : List Pd) : 0 ≤ wantP ds ∧ wantP ds ≤ 64 * ds.length := by
  induction ds with
  | nil => simp [wantP]
  | cons d ds ih => have := cells_pos d; simp only [wantP, List.length_cons]; split <;> omega
theorem want_snoc (ds : List Pd) (d : Pd) : wantP (ds ++ [d]) = wantP ds + (if d.label = 1 ∧ d.lock = false then cellsP d else 0) := by
  induction ds with
  | nil => simp [wantP]
  | cons x ds ih => simp only [wantP, List.cons_append, ih]; omega
theorem ones_snoc (ls : List Int) (l : Int) : onesP (ls ++ [l]) = onesP ls + (if l = 1 then 1 else 0) := by
  rw [ones_append]; simp [onesP]
theorem cells_free {d : Pd} (h : d.lock = false) : max 1 (min d.size 64) = cellsP d := by
  unfold cellsP; rw [if_neg (by simp [h])]; omega
end Go.Proofs.Ytonlfplojhlmjaa.Pl
