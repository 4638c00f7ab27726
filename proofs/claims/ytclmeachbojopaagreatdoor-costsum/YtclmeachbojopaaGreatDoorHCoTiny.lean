/- How few parts the expressions have that numbers make. Plain. -/
import Derived.Test.YtclmeachbojopaaGreatDoorGCoR
import Derived.Test.YtclmeachbojopaaGreatDoorGMakeP
namespace Go.Proofs.YtclmeachbojopaaGreatDoor.Co
set_option linter.unusedVariables false
set_option linter.unusedSimpArgs false

def Sm (X : Nat) (t : Tree) : Prop := ∀ N, lexpr N t <= X
theorem Sm.le {X Y : Nat} {t : Tree} (h : Sm X t) (hx : X <= Y) : Sm Y t := fun N => Nat.le_trans (h N) hx
theorem sm_leaf {t : Tree} (h : t.kids = []) : Sm 1 t
  | 0 => by simp [lexpr]
  | n + 1 => by simp [lexpr, h, total]
theorem sm_one {X : Nat} {t a : Tree} (h : t.kids = [a]) (ha : Sm X a) : Sm (1 + X) t
  | 0 => by simp [lexpr]
  | n + 1 => by have := ha n; simp [lexpr, h, total]; omega
theorem sm_two {X Y : Nat} {t a b : Tree} (h : t.kids = [a, b]) (ha : Sm X a) (hb : Sm Y b) : Sm (1 + X + Y) t
  | 0 => by simp [lexpr]
  | n + 1 => by have := ha n; have := hb n; simp [lexpr, h, total]; omega
theorem sm_three {X Y Z : Nat} {t a b c : Tree} (h : t.kids = [a, b, c]) (ha : Sm X a) (hb : Sm Y b) (hc : Sm Z c) : Sm (1 + X + Y + Z) t
  | 0 => by simp [lexpr]
  | n + 1 => by have := ha n; have := hb n; have := hc n; simp [lexpr, h, total]; omega
def pw : Nat -> Nat
  | 0 => 121
  | 1 => 40
  | 2 => 13
  | 3 => 4
  | _ => 1
theorem pw_pos (d : Nat) : 1 <= pw d := by unfold pw; split <;> omega
theorem pw_le (d : Nat) : pw d <= 121 := by unfold pw; split <;> omega
theorem pw_step {d : Nat} (h : ¬ 3 < d) : pw d = 1 + 3 * pw (d + 1) := by
  match d, h with
  | 0, _ => rfl
  | 1, _ => rfl
  | 2, _ => rfl
  | 3, _ => rfl
  | d + 4, h => omega
theorem sm_bin {f : Nat -> List UInt8 -> Tree × List UInt8} {deep : Nat} (h3 : ¬ 3 < deep) (h : ∀ ns, Sm (pw (deep + 1)) (f (deep + 1) ns).1) (ns : List UInt8) : Sm (pw deep) (binM f deep ns).1 :=
  (sm_two (t := (binM f deep ns).1) rfl (h _) (h _)).le (by have := pw_step h3; omega)
theorem sm_place {f : Nat -> List UInt8 -> Tree × List UInt8} {deep : Nat} (E : Env) (h : ∀ ns, Sm (pw (deep + 1)) (f (deep + 1) ns).1) (ns : List UInt8) : Sm (2 + pw (deep + 1)) (placeM f E deep ns).1 := by
  have := pw_pos (deep + 1)
  unfold placeM
  split
  · split
    · exact (sm_leaf rfl).le (by omega)
    · exact (sm_leaf rfl).le (by omega)
  · split
    · exact (sm_two rfl (h _) (sm_leaf rfl)).le (by omega)
    · exact (sm_leaf rfl).le (by omega)
theorem sm_cell {f : Nat -> List UInt8 -> Tree × List UInt8} {deep : Nat} (E : Env) (h3 : ¬ 3 < deep) (h : ∀ ns, Sm (pw (deep + 1)) (f (deep + 1) ns).1) (s : ByteArray) (ns : List UInt8) : Sm (pw deep) (cellT s (placeM f E deep ns).1) :=
  (sm_one (t := cellT s (placeM f E deep ns).1) rfl (sm_place E h ns)).le (by have := pw_step h3; have := pw_pos (deep + 1); omega)
theorem sm_ite {X : Nat} {c : Prop} [Decidable c] {x y : Tree × List UInt8} (h1 : c -> Sm X x.1) (h2 : ¬ c -> Sm X y.1) : Sm X (if c then x else y).1 := by
  by_cases h : c
  · rw [if_pos h]; exact h1 h
  · rw [if_neg h]; exact h2 h
theorem pub_small (E : Env) : ∀ (f deep : Nat) (ns : List UInt8), Sm (pw deep) (pubM E f deep ns).1
  | 0, deep, ns => (sm_leaf rfl).le (pw_pos deep)
  | f + 1, deep, ns => by
    have ih := pub_small E f
    unfold pubM
    refine sm_ite (fun _ => (sm_leaf rfl).le (pw_pos deep)) fun h => ?_
    have h3 : ¬ 3 < deep := fun h' => h (.inl h')
    refine sm_ite (fun _ => (sm_leaf rfl).le (pw_pos deep)) fun _ => sm_ite (fun _ => (sm_leaf rfl).le (pw_pos deep)) fun _ => sm_ite (fun _ => sm_cell E h3 (fun ns => ih _ ns) _ _) fun _ => sm_ite (fun _ => sm_ite (fun _ => (sm_leaf rfl).le (pw_pos deep)) fun _ => sm_bin h3 (fun ns => ih _ ns) _) fun _ => sm_ite (fun _ => ?_) fun _ => sm_bin h3 (fun ns => ih _ ns) _
    exact (sm_one rfl (ih (deep + 1) _)).le (by have := pw_step h3; omega)
theorem pw_down (d : Nat) : pw (d + 1) <= pw d := by
  match d with
  | 0 => decide
  | 1 => decide
  | 2 => decide
  | 3 => decide
  | d + 4 => exact Nat.le_refl _
theorem sec_small (E : Env) : ∀ (f deep : Nat) (ns : List UInt8), Sm (pw deep) (secM E f deep ns).1
  | 0, deep, ns => (pub_small E 0 (deep + 1) ns.tail).le (pw_down deep)
  | f + 1, deep, ns => by
    have ih := sec_small E f
    unfold secM
    refine sm_ite (fun _ => (pub_small E f (deep + 1) ns.tail).le (pw_down deep)) fun h => ?_
    have h3 : ¬ 3 < deep := fun h' => h (.inl h')
    refine sm_ite (fun _ => (sm_leaf rfl).le (pw_pos deep)) fun _ => sm_ite (fun _ => sm_cell E h3 (fun ns => pub_small E f _ ns) _ _) fun _ => sm_ite (fun _ => (sm_leaf rfl).le (pw_pos deep)) fun _ => sm_ite (fun _ => (sm_leaf rfl).le (pw_pos deep)) fun _ => sm_ite (fun _ => ?_) fun _ => sm_bin h3 (fun ns => ih _ ns) _
    exact (sm_three rfl (ih (deep + 1) _) (ih (deep + 1) _) (ih (deep + 1) _)).le (by have := pw_step h3; omega)
def okS (ss : List Stm) : Prop := ∀ s ∈ ss, ∀ e ∈ s.exprs, Sm 121 e
theorem okS_none {s : Stm} (h : s.exprs = []) : okS [s] := fun x hx e he => by simp only [List.mem_singleton] at hx; subst hx; rw [h] at he; cases he
theorem okS_one {s : Stm} {e : Tree} (h : s.exprs = [e]) (h1 : Sm 121 e) : okS [s] := fun x hx y hy => by
  simp only [List.mem_singleton] at hx; subst hx; rw [h] at hy; simp only [List.mem_singleton] at hy; subst hy; exact h1
theorem okS_two {s : Stm} {a b : Tree} (h : s.exprs = [a, b]) (h1 : Sm 121 a) (h2 : Sm 121 b) : okS [s] := fun x hx y hy => by
  simp only [List.mem_singleton] at hx; subst hx; rw [h] at hy
  simp only [List.mem_cons, List.not_mem_nil, or_false] at hy
  rcases hy with rfl | rfl
  · exact h1
  · exact h2
theorem okS_append {a b : List Stm} (ha : okS a) (hb : okS b) : okS (a ++ b) := fun s hs => (List.mem_append.1 hs).elim (ha s) (hb s)
theorem okS_ite {c : Prop} [Decidable c] {x y : Mk} (h1 : c -> okS x.1) (h2 : ¬ c -> okS y.1) : okS (if c then x else y).1 := by
  by_cases h : c
  · rw [if_pos h]; exact h1 h
  · rw [if_neg h]; exact h2 h
theorem loop_okS {st : Bool -> Env -> List UInt8 -> Mk} {inside : Bool} (h : ∀ E ns, okS (st inside E ns).1) : ∀ (j : Nat) (E : Env) (ns : List UInt8), okS (loopM st inside j E ns).1
  | 0, E, ns => fun s hs => by simp [loopM] at hs
  | j + 1, E, ns => okS_append (loop_okS h j E ns) (h _ _)
theorem sec0 (E : Env) (f : Nat) (ns : List UInt8) : Sm 121 (secM E f 0 ns).1 := sec_small E f 0 ns
theorem pub0 (E : Env) (f d : Nat) (ns : List UInt8) : Sm 121 (pubM E f d ns).1 := (pub_small E f d ns).le (pw_le d)
theorem place0 (E : Env) (ns : List UInt8) : Sm 121 (placeM (pubM E 5) E 0 ns).1 := (sm_place (f := pubM E 5) (deep := 0) E (fun ns => pub_small E 5 1 ns) ns).le (by decide)
theorem stmt_okS : ∀ (f : Nat) (inside : Bool) (E : Env) (ns : List UInt8), okS (stmtM f inside E ns).1
  | 0, inside, E, ns => fun s hs => by simp [stmtM] at hs
  | f + 1, inside, E, ns => by
    show okS (stmtB (stmtM f) inside E ns).1
    unfold stmtB
    refine okS_ite (fun _ => okS_one rfl (sec0 _ _ _)) fun _ => okS_ite (fun _ => okS_one rfl (pub0 _ _ _ _)) fun _ => okS_ite (fun _ => okS_one rfl (sec0 _ _ _)) fun _ => okS_ite (fun _ => okS_two rfl (place0 _ _) (sec0 _ _ _)) fun _ => okS_ite (fun _ => okS_one rfl (sec0 _ _ _)) fun _ => okS_ite (fun _ => okS_none rfl) fun _ => okS_ite (fun _ => okS_one rfl (sec0 _ _ _)) fun _ => okS_ite (fun _ => okS_one rfl (pub0 _ _ _ _)) fun _ => okS_ite (fun _ => okS_two rfl (place0 _ _) (pub0 _ _ _ _)) fun _ => okS_ite (fun _ => ?_) fun _ => okS_ite (fun _ => okS_one rfl (pub0 _ _ _ _)) fun _ => okS_ite (fun _ => okS_one rfl (pub0 _ _ _ _)) fun _ => okS_ite (fun _ => okS_none rfl) fun _ => okS_one rfl (pub0 _ _ _ _)
    exact okS_append (okS_append (okS_none rfl) (loop_okS (fun E ns => stmt_okS f false E ns) _ _ _)) (okS_append (a := [_]) (b := [_]) (okS_one rfl (pub0 _ _ _ _)) (okS_none rfl))
theorem made_okS : ∀ (k : Nat) (ns : List UInt8), ∀ ss ∈ (threadsM k ns).2.1, okS ss
  | 0, ns => fun ss hs => by
    have hs' : ss ∈ ([] : List (List Stm)) := hs
    simp at hs'
  | k + 1, ns => fun ss hs => by
    have hs' : ss ∈ (threadsM k ns).2.1 ++ [(blockM (stmtM 5) false ⟨[], [], [], false, k, 0⟩ (threadsM k ns).2.2).1] := hs
    rcases List.mem_append.1 hs' with h | h
    · exact made_okS k ns ss h
    · simp only [List.mem_singleton] at h; subst h
      exact loop_okS (fun E ns => stmt_okS 5 false E ns) _ _ _
end Go.Proofs.YtclmeachbojopaaGreatDoor.Co
