/- What numbers make, as lines: no line feed and no brace inside, but a brace at a line's end. Plain. -/
import Derived.Test.YtfginegegaokbaaGreatDoorMakeSize
namespace Go.Proofs.YtfginegegaokbaaGreatDoor
set_option linter.unusedVariables false
set_option linter.unusedSimpArgs false

def clean (l : List UInt8) : Prop := ∀ c ∈ l, c ≠ 10 ∧ c ≠ 123
theorem clean_nil : clean [] := fun c h => by simp at h
theorem clean_append {a b : List UInt8} (ha : clean a) (hb : clean b) : clean (a ++ b) := fun c h => by
  rcases List.mem_append.1 h with h | h
  · exact ha c h
  · exact hb c h
theorem digit_ok : ∀ m : Fin 10, UInt8.ofNat (48 + m.val) ≠ 10 ∧ UInt8.ofNat (48 + m.val) ≠ 123 := by decide
theorem clean_digits (u : Nat) : clean (Lib.decDigits u) := by
  induction u using Nat.strongRecOn with
  | _ u ih =>
    by_cases h : u < 10
    · rw [Lib.decDigits, dif_pos h]
      intro c hc
      simp only [List.mem_singleton] at hc
      subst hc
      exact digit_ok ⟨u, h⟩
    · rw [Lib.decDigits, dif_neg h]
      refine clean_append (ih _ (by omega)) (fun c hc => ?_)
      simp only [List.mem_singleton] at hc
      subst hc
      exact digit_ok ⟨u % 10, Nat.mod_lt _ (by omega)⟩
theorem clean_sign (o : Nat) : clean (signL o) := by
  match o with
  | 0 | 1 | 2 | 3 | 4 | 5 | 6 | 7 | 8 | 9 => unfold clean signL; decide
  | n + 10 => simp [signL, clean]
def cleanX (t : Tree) : Prop := ∀ N p, clean (etext N t p)
theorem cx_lit (v : Nat) : cleanX (litT v) := fun N p => by
  cases N with
  | zero => simp [etext, clean]
  | succ N => rw [etext_lit N _ p rfl]; exact clean_digits v
theorem cx_name {s : ByteArray} (h : clean (bys s)) : cleanX (nameT s) := fun N p => by
  cases N with
  | zero => simp [etext, clean]
  | succ N => rw [etext_name N _ p rfl]; exact h
theorem clean_lits {l : List UInt8} (h : (l.all fun c => c != 10 && c != 123) = true) : clean l := fun c hc => by
  have := List.all_eq_true.1 h c hc
  simpa using this
theorem cx_cell {s : ByteArray} {x : Tree} (h : clean (bys s)) (hx : cleanX x) : cleanX (cellT s x) := fun N p => by
  cases N with
  | zero => simp [etext, clean]
  | succ N =>
    rw [etext_cell N _ p rfl, cellText, show (cellT s x).kids = [x] from rfl, epart_some (k := x) rfl]
    exact clean_append (clean_append (clean_append h (clean_lits (by decide))) (hx N 0)) (clean_lits (by decide))
theorem cx_bin {o : Int} {x y : Tree} (hx : cleanX x) (hy : cleanX y) : cleanX (binT o x y) := fun N p => by
  cases N with
  | zero => simp [etext, clean]
  | succ N =>
    rw [etext_bin N _ p rfl]
    have e0 : epart N (binT o x y).kids 0 (tightN (binT o x y).op) = etext N x (tightN (binT o x y).op) := epart_some rfl _
    have e1 : epart N (binT o x y).kids 1 (tightN (binT o x y).op + 1) = etext N y (tightN (binT o x y).op + 1) := epart_some rfl _
    have hb : clean (binText N (binT o x y)) := by
      unfold binText
      rw [e0, e1]
      exact clean_append (clean_append (clean_append (clean_append (hx _ _) (clean_lits (by decide))) (clean_sign _)) (clean_lits (by decide))) (hy _ _)
    unfold binTextAt
    split
    · exact clean_lits (by decide)
    · split
      · exact clean_append (clean_append (clean_lits (by decide)) hb) (clean_lits (by decide))
      · exact hb
theorem cx_not {x : Tree} (hx : cleanX x) : cleanX (notT x) := fun N p => by
  cases N with
  | zero => simp [etext, clean]
  | succ N =>
    rw [etext_not N _ p rfl, show (notT x).kids = [x] from rfl, epart_some (k := x) rfl]
    exact clean_append (clean_lits (by decide)) (hx _ _)
theorem cx_pick {x y z : Tree} (hx : cleanX x) (hy : cleanX y) (hz : cleanX z) : cleanX (pickT x y z) := fun N p => by
  cases N with
  | zero => simp [etext, clean]
  | succ N =>
    rw [etext_pick N _ p rfl, pickText, show (pickT x y z).kids = [x, y, z] from rfl, epart_some (k := x) rfl, epart_some (k := y) rfl, epart_some (k := z) rfl]
    exact clean_append (clean_append (clean_append (clean_append (clean_append (clean_append (clean_lits (by decide)) (hx _ _)) (clean_lits (by decide))) (hy _ _)) (clean_lits (by decide))) (hz _ _)) (clean_lits (by decide))
/-- Locals' names are clean. -/
def cleanE (E : Env) : Prop := ∀ s ∈ E.loc, clean (bys s)
theorem digitB_ok (n : Nat) : digitB n ≠ 10 ∧ digitB n ≠ 123 := digit_ok ⟨n % 10, Nat.mod_lt _ (by omega)⟩
theorem clean_dig (c : UInt8) (E : Env) (hc : c ≠ 10 ∧ c ≠ 123) : clean (bys (dig c E)) := fun x hx => by
  have hx' : x ∈ [c, digitB E.thread] := hx
  simp only [List.mem_cons, List.not_mem_nil, or_false] at hx'
  rcases hx' with rfl | rfl
  · exact hc
  · exact digitB_ok _
theorem clean_nameX (E : Env) : clean (bys (nameX E)) := fun x hx => by
  have hx' : x ∈ [120, digitB E.thread, digitB (E.loc.length / 10), digitB E.loc.length] := hx
  simp only [List.mem_cons, List.not_mem_nil, or_false] at hx'
  rcases hx' with rfl | rfl | rfl | rfl
  · decide
  · exact digitB_ok _
  · exact digitB_ok _
  · exact digitB_ok _
theorem clean_loc {E : Env} (h : cleanE E) (i : Nat) : clean (bys (E.loc.getD i ⟨#[]⟩)) := by
  by_cases hi : i < E.loc.length
  · exact h _ (by simp [hi])
  · rw [List.getD_eq_getElem?_getD, List.getElem?_eq_none (by omega)]; exact clean_nil
theorem clean_counter {E : Env} (h : cleanE E) : ∀ (n : Nat) (s : ByteArray), counterUpto E n = some s → clean (bys s)
  | 0, s, hs => by simp [counterUpto] at hs
  | n + 1, s, hs => by
    unfold counterUpto at hs
    split at hs
    · cases hs; exact clean_loc h n
    · exact clean_counter h n s hs
theorem place_clean {E : Env} (h : cleanE E) {pub : Nat → List UInt8 → Tree × List UInt8} {deep : Nat} (hp : ∀ d ns, cleanX (pub d ns).1) (ns : List UInt8) : cleanX (placeM pub E deep ns).1 := by
  unfold placeM
  split
  · split
    · next s hs => exact cx_name (clean_counter h _ s hs)
    · exact cx_lit _
  · split
    · exact cx_bin (hp _ _) (cx_lit _)
    · exact cx_lit _
theorem bin_clean {f : Nat → List UInt8 → Tree × List UInt8} {deep : Nat} (hp : ∀ d ns, cleanX (f d ns).1) (ns : List UInt8) : cleanX (binM f deep ns).1 := cx_bin (hp _ _) (hp _ _)
theorem cx_ite {c : Prop} {i : Decidable c} {x y : Tree × List UInt8} (h1 : c → cleanX x.1) (h2 : ¬ c → cleanX y.1) : cleanX (@ite _ c i x y).1 := by
  by_cases h : c
  · rw [if_pos h]; exact h1 h
  · rw [if_neg h]; exact h2 h
theorem pub_clean {E : Env} (h : cleanE E) : ∀ (f deep : Nat) (ns : List UInt8), cleanX (pubM E f deep ns).1
  | 0, deep, ns => cx_lit _
  | f + 1, deep, ns => by
    have ih := pub_clean h f
    simp only [pubM]
    exact cx_ite (fun _ => cx_lit _) fun _ => cx_ite (fun _ => cx_name (clean_dig _ _ (by decide))) fun _ => cx_ite (fun _ => cx_name (clean_lits (by decide))) fun _ => cx_ite (fun _ => cx_cell (clean_dig _ _ (by decide)) (place_clean h ih _)) fun _ => cx_ite (fun _ => cx_ite (fun _ => cx_name (clean_loc h _)) fun _ => bin_clean ih _) fun _ => cx_ite (fun _ => cx_not (ih _ _)) fun _ => bin_clean ih _
theorem sec_clean {E : Env} (h : cleanE E) : ∀ (f deep : Nat) (ns : List UInt8), cleanX (secM E f deep ns).1
  | 0, deep, ns => pub_clean h 0 _ _
  | f + 1, deep, ns => by
    have ih := sec_clean h f
    have ihp := pub_clean h f
    simp only [secM]
    exact cx_ite (fun _ => ihp _ _) fun _ => cx_ite (fun _ => cx_name (clean_dig _ _ (by decide))) fun _ => cx_ite (fun _ => cx_cell (clean_dig _ _ (by decide)) (place_clean h ihp _)) fun _ => cx_ite (fun _ => cx_name (clean_lits (by decide))) fun _ => cx_ite (fun _ => cx_name (clean_loc h _)) fun _ => cx_ite (fun _ => cx_pick (ih _ _) (ih _ _) (ih _ _)) fun _ => bin_clean ih _

/-- Lines. -/
def flatL (ls : List (List UInt8)) : List UInt8 := (ls.map fun l => l ++ [10]).flatten
theorem flatL_append (a b : List (List UInt8)) : flatL (a ++ b) = flatL a ++ flatL b := by simp [flatL]
theorem flatL_one (l : List UInt8) : flatL [l] = l ++ [10] := by simp [flatL]
/-- A line inside a thread: it begins with a tabulator; a brace is its last sign at most, and then it is no thread's head. -/
def inLine (l : List UInt8) : Prop := ∃ x, clean x ∧ x.head? = some 9 ∧ (l = x ∨ ∃ y c, x = y ++ [c, 32] ∧ c ≠ 100 ∧ l = x ++ [123])
def Lined (X : List UInt8) : Prop := ∃ ls, X = flatL ls ∧ ∀ l ∈ ls, inLine l
theorem lined_nil : Lined [] := ⟨[], rfl, fun l h => by simp at h⟩
theorem lined_append {a b : List UInt8} (ha : Lined a) (hb : Lined b) : Lined (a ++ b) := by
  obtain ⟨la, rfl, h1⟩ := ha
  obtain ⟨lb, rfl, h2⟩ := hb
  exact ⟨la ++ lb, (flatL_append _ _).symm, fun l h => by rcases List.mem_append.1 h with h | h; exact h1 l h; exact h2 l h⟩
theorem clean_tabs (d : Nat) : clean (tabs d) := fun c hc => by
  have := List.eq_of_mem_replicate hc
  subst this; decide
theorem tabs_head (d : Nat) (x : List UInt8) : (tabs (d + 1) ++ x).head? = some 9 := rfl
/-- A line without a brace. -/
theorem lined_plain {d : Nat} {x X : List UInt8} (hx : clean x) (e : X = tabs (d + 1) ++ x ++ [10]) : Lined X := by
  subst e
  exact ⟨[tabs (d + 1) ++ x], by rw [flatL_one], fun l hl => by
    simp only [List.mem_singleton] at hl; subst hl
    exact ⟨_, clean_append (clean_tabs _) hx, tabs_head _ _, .inl rfl⟩⟩
/-- A line with a brace at its end. -/
theorem lined_open {d : Nat} {x X : List UInt8} {c : UInt8} (hx : clean x) (hc : c ≠ 10 ∧ c ≠ 123 ∧ c ≠ 100) (e : X = tabs (d + 1) ++ x ++ [c, 32, 123, 10]) : Lined X := by
  subst e
  refine ⟨[tabs (d + 1) ++ x ++ [c, 32, 123]], by rw [flatL_one]; simp, fun l hl => ?_⟩
  simp only [List.mem_singleton] at hl; subst hl
  refine ⟨tabs (d + 1) ++ x ++ [c, 32], clean_append (clean_append (clean_tabs _) hx) (fun y hy => ?_), by rw [List.append_assoc]; exact tabs_head _ _, .inr ⟨tabs (d + 1) ++ x, c, rfl, hc.2.2, by simp⟩⟩
  simp only [List.mem_cons, List.not_mem_nil, or_false] at hy
  rcases hy with rfl | rfl
  · exact ⟨hc.1, hc.2.1⟩
  · decide

theorem digit_ok3 : ∀ m : Fin 10, UInt8.ofNat (48 + m.val) ≠ 10 ∧ UInt8.ofNat (48 + m.val) ≠ 123 ∧ UInt8.ofNat (48 + m.val) ≠ 100 := by decide
theorem ln_value {k : Int} {s : ByteArray} {e : Tree} (hk : k = 0 ∨ k = 1 ∨ k = 7 ∨ k = 9) (hs : clean (bys s)) (he : cleanX e) (N d : Nat) : Lined (stext 13 N (d + 1) (stmE k s [e])) := by
  cases N with
  | zero => simpa [stext] using lined_nil
  | succ N =>
    have h0 : epart 13 [e] 0 0 = etext 13 e 0 := epart_some (k := e) rfl 0
    have hv : ∀ x, clean x → Lined (valueT 13 (d + 1) x [e]) := fun x hx => lined_plain (d := d) (x := x ++ etext 13 e 0 ++ [59]) (clean_append (clean_append hx (he _ _)) (clean_lits (by decide))) (by unfold valueT; rw [h0]; simp)
    rcases hk with rfl | rfl | rfl | rfl
    · rw [stext_0 13 N _ _ rfl]; exact hv _ (clean_append (clean_append (clean_lits (by decide)) hs) (clean_lits (by decide)))
    · rw [stext_1 13 N _ _ rfl]; exact hv _ (clean_append hs (clean_lits (by decide)))
    · rw [stext_7 13 N _ _ rfl]; exact hv _ (clean_append (clean_append (clean_lits (by decide)) hs) (clean_lits (by decide)))
    · rw [stext_9 13 N _ _ (by simp [stmE]) (by simp [stmE]) (by simp [stmE]) (by simp [stmE]) (by simp [stmE]) (by simp [stmE]) (by simp [stmE]) (by simp [stmE]) (by simp [stmE])]; exact hv _ (clean_lits (by decide))
theorem ln_store {s : ByteArray} {i e : Tree} (hs : clean (bys s)) (hi : cleanX i) (he : cleanX e) (N d : Nat) : Lined (stext 13 N (d + 1) (stmE 2 s [i, e])) := by
  cases N with
  | zero => simpa [stext] using lined_nil
  | succ N =>
    have h0 : epart 13 [i, e] 0 0 = etext 13 i 0 := epart_some (k := i) rfl 0
    have h1 : epart 13 [i, e] 1 0 = etext 13 e 0 := epart_some (k := e) rfl 0
    rw [stext_2 13 N _ _ rfl]
    refine lined_plain (d := d) (x := bys s ++ [91] ++ etext 13 i 0 ++ [93] ++ sIs ++ etext 13 e 0 ++ [59]) ?_ (by simp only [cellText, stmE, h0, h1]; simp)
    exact clean_append (clean_append (clean_append (clean_append (clean_append (clean_append hs (clean_lits (by decide))) (hi _ _)) (clean_lits (by decide))) (clean_lits (by decide))) (he _ _)) (clean_lits (by decide))
theorem ln_line {k : Int} {s : ByteArray} (hk : k = 5 ∨ k = 6 ∨ k = 8) (hs : clean (bys s)) (N d : Nat) : Lined (stext 13 N (d + 1) (stmE k s [])) := by
  cases N with
  | zero => simpa [stext] using lined_nil
  | succ N =>
    rcases hk with rfl | rfl | rfl
    · rw [stext_5 13 N _ _ rfl]; exact lined_plain (clean_append (clean_append (clean_lits (by decide)) hs) (clean_lits (by decide))) rfl
    · rw [stext_6 13 N _ _ rfl]; exact lined_plain (clean_append (clean_append (clean_lits (by decide)) hs) (clean_lits (by decide))) rfl
    · rw [stext_8 13 N _ _ rfl]; exact lined_plain (clean_lits (by decide)) rfl
def LinedS (d : Nat) (ss : List Stm) : Prop := ∀ N, Lined (btext 13 N d ss)
theorem linedS_one {d : Nat} {s : Stm} (h : ∀ N, Lined (stext 13 N d s)) : LinedS d [s] := fun N => by simpa [btext] using h N
theorem linedS_append {d : Nat} {a b : List Stm} (ha : LinedS d a) (hb : LinedS d b) : LinedS d (a ++ b) := fun N => by
  have : btext 13 N d (a ++ b) = btext 13 N d a ++ btext 13 N d b := by simp [btext]
  rw [this]; exact lined_append (ha N) (hb N)
theorem linedS_nil {d : Nat} : LinedS d [] := fun N => lined_nil
theorem ln_if {e : Tree} {b1 b2 : List Stm} {d : Nat} (he : cleanX e) (h1 : LinedS (d + 2) b1) (h2 : LinedS (d + 2) b2) (N : Nat) : Lined (stext 13 N (d + 1) ⟨3, ⟨#[]⟩, [e], 0, b1, b2, 0⟩) := by
  cases N with
  | zero => simpa [stext] using lined_nil
  | succ N =>
    have h0 : epart 13 [e] 0 0 = etext 13 e 0 := epart_some (k := e) rfl 0
    have a : Lined (tabs (d + 1) ++ sIf ++ epart 13 [e] 0 0 ++ sThen) := lined_open (d := d) (x := sIf ++ etext 13 e 0) (c := 41) (clean_append (clean_lits (by decide)) (he _ _)) (by decide) (by rw [h0]; simp [sThen])
    have b : Lined (lineT (d + 1) sElse) := lined_open (d := d) (x := [125, 32, 101, 108, 115]) (c := 101) (clean_lits (by decide)) (by decide) (by simp [lineT, sElse])
    have c : Lined (lineT (d + 1) [125]) := lined_plain (clean_lits (by decide)) rfl
    rw [stext_3 13 N _ _ rfl]
    unfold choiceT
    refine lined_append (lined_append (lined_append a (h1 N)) ?_) c
    split
    · exact lined_nil
    · exact lined_append b (h2 N)
theorem ln_for {s : ByteArray} {c d : Nat} {b : List Stm} (hs : clean (bys s)) (hc : c < 10) (h1 : LinedS (d + 2) b) (N : Nat) : Lined (stext 13 N (d + 1) ⟨4, s, [], c, b, [], 0⟩) := by
  cases N with
  | zero => simpa [stext] using lined_nil
  | succ N =>
    have hi : Lib.itoa ((c : Nat) : Int) = [UInt8.ofNat (48 + c)] := by
      rw [Lib.itoa, if_neg (by omega)]
      simp only [Int.toNat_natCast]
      rw [Lib.decDigits, dif_pos hc]
    rw [stext_4 13 N _ _ rfl]
    have a : Lined (lineT (d + 1) (sLoop ++ bys s ++ [32] ++ Lib.itoa ((c : Nat) : Int) ++ [32, 123])) := lined_open (d := d) (x := sLoop ++ bys s ++ [32]) (c := UInt8.ofNat (48 + c)) (clean_append (clean_append (clean_lits (by decide)) hs) (clean_lits (by decide))) (digit_ok3 ⟨c, hc⟩) (by rw [hi]; simp [lineT])
    exact lined_append (lined_append a (h1 N)) (lined_plain (clean_lits (by decide)) rfl)
theorem cleanE_enter {E : Env} (h : cleanE E) (s : Bool) (c : Int) : cleanE (enterE E s c) := fun x hx => by
  have hx' : x ∈ E.loc ++ [nameX E] := hx
  rcases List.mem_append.1 hx' with h1 | h1
  · exact h x h1
  · simp only [List.mem_singleton] at h1; subst h1; exact clean_nameX E
theorem cleanE_ite {c : Prop} [Decidable c] {x y : Mk} (h1 : c → cleanE x.2.1) (h2 : ¬ c → cleanE y.2.1) : cleanE (if c then x else y).2.1 := by
  by_cases h : c
  · rw [if_pos h]; exact h1 h
  · rw [if_neg h]; exact h2 h
theorem loop_cleanE {st : Bool → Env → List UInt8 → Mk} {inside : Bool} (h : ∀ E ns, cleanE E → cleanE (st inside E ns).2.1) : ∀ (j : Nat) (E : Env) (ns : List UInt8), cleanE E → cleanE (loopM st inside j E ns).2.1
  | 0, E, ns, hE => hE
  | j + 1, E, ns, hE => h _ _ (loop_cleanE h j E ns hE)
theorem stmt_cleanE : ∀ (f : Nat) (inside : Bool) (E : Env) (ns : List UInt8), cleanE E → cleanE (stmtM f inside E ns).2.1
  | 0, inside, E, ns, h => h
  | f + 1, inside, E, ns, h => by
    have hl := loop_cleanE (fun E ns hE => stmt_cleanE f false E ns hE) (nxV ns.tail 4 + 1) { E with held := true } ns.tail.tail h
    show cleanE (stmtB (stmtM f) inside E ns).2.1
    exact cleanE_ite (fun _ => cleanE_enter h _ _) fun _ => cleanE_ite (fun _ => cleanE_enter h _ _) fun _ => cleanE_ite (fun _ => h) fun _ => cleanE_ite (fun _ => h) fun _ => cleanE_ite (fun _ => h) fun _ => cleanE_ite (fun _ => h) fun _ => cleanE_ite (fun _ => h) fun _ => cleanE_ite (fun _ => h) fun _ => cleanE_ite (fun _ => h) fun _ => cleanE_ite (fun _ => hl) fun _ => cleanE_ite (fun _ => h) fun _ => cleanE_ite (fun _ => h) fun _ => cleanE_ite (fun _ => h) fun _ => h
theorem loop_lined {st : Bool → Env → List UInt8 → Mk} {inside : Bool} {d : Nat} (hg : ∀ E ns, fullE E → growE E (st inside E ns).2.1) (hgd : ∀ E ns, cleanE E → cleanE (st inside E ns).2.1) (h : ∀ E ns, fullE E → cleanE E → E.deep = d → LinedS d (st inside E ns).1) : ∀ (j : Nat) (E : Env) (ns : List UInt8), fullE E → cleanE E → E.deep = d → LinedS d (loopM st inside j E ns).1
  | 0, E, ns, _, _, _ => linedS_nil
  | j + 1, E, ns, hf, hE, hd => by
    have g := loop_grow hg j E ns hf
    exact linedS_append (loop_lined hg hgd h j E ns hf hE hd) (h _ _ (g.full hf) (loop_cleanE hgd j E ns hE) (by rw [g.2.2.1, hd]))
theorem lnS_ite {d : Nat} {c : Prop} [Decidable c] {x y : Mk} (h1 : c → LinedS d x.1) (h2 : ¬ c → LinedS d y.1) : LinedS d (if c then x else y).1 := by
  by_cases h : c
  · rw [if_pos h]; exact h1 h
  · rw [if_neg h]; exact h2 h
theorem stmt_lined : ∀ (f : Nat) (inside : Bool) (E : Env) (ns : List UInt8) (d : Nat), fullE E → cleanE E → E.deep = d + 1 → LinedS (d + 1) (stmtM f inside E ns).1
  | 0, inside, E, ns, d, _, _, _ => linedS_nil
  | f + 1, inside, E, ns, d, hf, hE, hd => by
    have hsec := sec_clean hE
    have hpub := pub_clean hE
    have hdg : ∀ c : UInt8, c ≠ 10 ∧ c ≠ 123 → clean (bys (dig c E)) := fun c hc => clean_dig c E hc
    have hblk : ∀ ins (E' : Env) (ns : List UInt8), fullE E' → cleanE E' → E'.deep = d + 1 → LinedS (d + 2) (blockM (stmtM f) ins E' ns).1 := fun ins E' ns hf' hE' hd' =>
      loop_lined (fun E ns hf => stmt_grow f ins E ns hf) (fun E ns hE => stmt_cleanE f ins E ns hE) (fun E ns a b c => stmt_lined f ins E ns (d + 1) a b c) _ { E' with deep := E'.deep + 1 } _ hf' hE' (by simp [hd'])
    have one : ∀ k s E' (e : Tree × List UInt8), (k = 0 ∨ k = 1 ∨ k = 7 ∨ k = 9) → clean (bys s) → cleanX e.1 → LinedS (d + 1) (oneM k s E' e).1 := fun k s E' e hk hs he => linedS_one (fun N => ln_value hk hs he N d)
    have sto : ∀ s (i : Tree) (e : Tree × List UInt8), clean (bys s) → cleanX i → cleanX e.1 → LinedS (d + 1) (storeM s E i e).1 := fun s i e hs hi he => linedS_one (fun N => ln_store hs hi he N d)
    have hif : ∀ ins (e : Tree × List UInt8), cleanX e.1 → LinedS (d + 1) (ifM (stmtM f) ins E e).1 := fun ins e he => linedS_one (fun N => ln_if he (hblk ins E _ hf hE hd) (hblk ins E _ hf hE hd) N)
    show LinedS (d + 1) (stmtB (stmtM f) inside E ns).1
    unfold stmtB
    refine lnS_ite (fun _ => one _ _ _ _ (.inl rfl) (clean_nameX E) (hsec _ _ _)) fun _ => lnS_ite (fun _ => one _ _ _ _ (.inl rfl) (clean_nameX E) (hpub _ _ _)) fun _ => lnS_ite (fun _ => one _ _ _ _ (.inr (.inl rfl)) (hdg _ (by decide)) (hsec _ _ _)) fun _ => lnS_ite (fun _ => sto _ _ _ (hdg _ (by decide)) (place_clean hE (fun _ _ => hpub _ _ _) _) (hsec _ _ _)) fun _ => lnS_ite (fun _ => hif _ _ (hsec _ _ _)) fun _ => lnS_ite (fun _ => ?_) fun _ => lnS_ite (fun _ => one _ _ _ _ (.inr (.inl rfl)) (hdg _ (by decide)) (hsec _ _ _)) fun _ => lnS_ite (fun _ => hif _ _ (hpub _ _ _)) fun _ => lnS_ite (fun _ => sto _ _ _ (hdg _ (by decide)) (place_clean hE (fun _ _ => hpub _ _ _) _) (hpub _ _ _)) fun _ => lnS_ite (fun _ => ?_) fun _ => lnS_ite (fun _ => one _ _ _ _ (.inr (.inr (.inl rfl))) (clean_lits (by decide)) (hpub _ _ _)) fun _ => lnS_ite (fun _ => one _ _ _ _ (.inr (.inr (.inr rfl))) (clean_lits (by decide)) (hpub _ _ _)) fun _ => lnS_ite (fun _ => linedS_one (fun N => ln_line (.inr (.inr rfl)) (clean_lits (by decide)) N d)) fun _ => one _ _ _ _ (.inr (.inl rfl)) (hdg _ (by decide)) (hpub _ _ _)
    · have h5 := nxV_lt ns.tail 5 (by omega)
      exact linedS_one (fun N => ln_for (clean_nameX E) (by omega) (hblk inside _ _ (enter_full hf _ _) (cleanE_enter hE _ _) hd) N)
    · have hl := loop_lined (fun E ns hf => stmt_grow f false E ns hf) (fun E ns hE => stmt_cleanE f false E ns hE) (fun E ns a b c => stmt_lined f false E ns d a b c) (nxV ns.tail 4 + 1) { E with held := true } ns.tail.tail hf hE hd
      have hlE := loop_cleanE (fun E ns hE => stmt_cleanE f false E ns hE) (nxV ns.tail 4 + 1) { E with held := true } ns.tail.tail hE
      refine linedS_append (linedS_append (linedS_one (fun N => ln_line (.inl rfl) (clean_lits (by decide)) N d)) hl) ?_
      exact linedS_append (a := [_]) (b := [_]) (linedS_one (fun N => ln_value (.inr (.inl rfl)) (clean_lits (by decide)) (pub_clean hlE _ _ _) N d)) (linedS_one (fun N => ln_line (.inr (.inl rfl)) (clean_lits (by decide)) N d))
/-- What a thread has is lines that begin with a tabulator. -/
theorem thread_lined (k : Nat) (ns : List UInt8) : LinedS 1 (blockM (stmtM 5) false ⟨[], [], [], false, k, 0⟩ ns).1 :=
  loop_lined (fun E ns hf => stmt_grow 5 false E ns hf) (fun E ns hE => stmt_cleanE 5 false E ns hE) (fun E ns a b c => stmt_lined 5 false E ns 0 a b c) _ ⟨[], [], [], false, k, 1⟩ _ ⟨rfl, rfl⟩ (fun s hs => by simp at hs) rfl

/-! ### Counting -/
/-- Lines' heads that are no tabulator and no brace; at: a line begins here. -/
def cntH : Bool → List UInt8 → Nat
  | _, [] => 0
  | at_, c :: r => (if at_ = true ∧ c ≠ 9 ∧ c ≠ 125 then 1 else 0) + cntH (c == 10) r
def cntL (l : List UInt8) : Nat := l.countP (· == 10)
def sThr : List UInt8 := [116, 104, 114, 101, 97, 100, 32, 123]
/-- How often a thread's head stands ahead of a sign. -/
def cntT (P : List UInt8) : List UInt8 → Nat
  | [] => 0
  | c :: r => (if sThr <:+ P then 1 else 0) + cntT (P ++ [c]) r
theorem cntH_clean : ∀ (x r : List UInt8), clean x → cntH false (x ++ r) = cntH false r
  | [], r, _ => rfl
  | c :: x, r, h => by
    have hc := h c (by simp)
    have e : (c == 10) = false := by simpa using hc.1
    show (if false = true ∧ c ≠ 9 ∧ c ≠ 125 then 1 else 0) + cntH (c == 10) (x ++ r) = _
    rw [e, cntH_clean x r (fun y hy => h y (by simp [hy]))]
    simp
theorem cntL_append (a b : List UInt8) : cntL (a ++ b) = cntL a + cntL b := by simp [cntL]
theorem cntT_append : ∀ (P a b : List UInt8), cntT P (a ++ b) = cntT P a + cntT (P ++ a) b
  | P, [], b => by simp [cntT]
  | P, c :: a, b => by
    show _ + cntT (P ++ [c]) (a ++ b) = _ + cntT (P ++ [c]) a + _
    rw [cntT_append (P ++ [c]) a b, List.append_assoc, Nat.add_assoc]
    rfl
/-- Where a prefix ends without a brace no head ends. -/
theorem thr_last {P : List UInt8} {c : UInt8} (hc : c ≠ 123) : ¬ sThr <:+ P ++ [c] := fun ⟨q, hq⟩ => by
  have : (q ++ sThr).getLast? = (P ++ [c]).getLast? := by rw [hq]
  simp [sThr] at this
  exact hc this.symm
theorem thr_nil : ¬ sThr <:+ ([] : List UInt8) := fun ⟨q, hq⟩ => by simp [sThr] at hq
/-- A prefix at which a line begins. -/
def atLine (P : List UInt8) : Prop := P = [] ∨ ∃ Q, P = Q ++ [10]
theorem thr_line {P : List UInt8} (h : atLine P) : ¬ sThr <:+ P := by
  rcases h with rfl | ⟨Q, rfl⟩
  · exact thr_nil
  · exact thr_last (by decide)
theorem cntT_clean : ∀ (x P : List UInt8), clean x → ¬ sThr <:+ P → cntT P x = 0 ∧ ¬ sThr <:+ P ++ x
  | [], P, _, hP => ⟨rfl, by simpa using hP⟩
  | c :: x, P, h, hP => by
    have hc := h c (by simp)
    have ih := cntT_clean x (P ++ [c]) (fun y hy => h y (by simp [hy])) (thr_last hc.2)
    refine ⟨?_, by have := ih.2; simpa using this⟩
    show (if sThr <:+ P then 1 else 0) + cntT (P ++ [c]) x = 0
    rw [if_neg hP, ih.1]
/-- A head is told by the eight last signs. -/
theorem thr_in {P y : List UInt8} {c : UInt8} (hc : c ≠ 100) : ¬ sThr <:+ P ++ (y ++ [c, 32]) ++ [123] := fun ⟨q, hq⟩ => by
  have e : P ++ (y ++ [c, 32]) ++ [123] = P ++ y ++ [c, 32, 123] := by simp
  rw [e] at hq
  have h2 : q ++ sThr = q ++ [116, 104, 114, 101, 97] ++ [100, 32, 123] := by simp [sThr]
  rw [h2] at hq
  have := (List.append_inj' hq rfl).2
  simp at this
  exact hc this.symm
/-- What a line inside a thread adds. -/
theorem in_line {l : List UInt8} (h : inLine l) (P : List UInt8) (hP : atLine P) : (∀ r, cntH true (l ++ [10] ++ r) = cntH true r) ∧ cntL (l ++ [10]) = 1 ∧ cntT P (l ++ [10]) = 0 := by
  obtain ⟨x, hx, hh, hl⟩ := h
  have hT := cntT_clean x P hx (thr_line hP)
  have hLx : cntL x = 0 := by
    unfold cntL
    rw [List.countP_eq_zero]
    intro c hc
    simpa using (hx c hc).1
  cases x with
  | nil => simp at hh
  | cons c x =>
    simp at hh
    subst hh
    have hH : ∀ r, cntH true (9 :: x ++ r) = cntH false r := fun r => by
      show (if true = true ∧ (9 : UInt8) ≠ 9 ∧ (9 : UInt8) ≠ 125 then 1 else 0) + cntH ((9 : UInt8) == 10) (x ++ r) = _
      rw [show ((9 : UInt8) == 10) = false from rfl, cntH_clean x r (fun y hy => hx y (by simp [hy]))]
      simp
    rcases hl with rfl | ⟨y, c, hy, hc, rfl⟩
    · refine ⟨fun r => ?_, by rw [cntL_append, hLx]; rfl, ?_⟩
      · rw [List.append_assoc, hH]; simp [cntH]
      · rw [cntT_append, hT.1]
        show 0 + ((if sThr <:+ P ++ 9 :: x then 1 else 0) + 0) = 0
        rw [if_neg hT.2]
    · refine ⟨fun r => ?_, by rw [cntL_append, cntL_append, hLx]; rfl, ?_⟩
      · rw [List.append_assoc, List.append_assoc, hH]; simp [cntH]
      · rw [cntT_append, cntT_append, hT.1]
        show 0 + ((if sThr <:+ P ++ 9 :: x then 1 else 0) + 0) + ((if sThr <:+ P ++ (9 :: x ++ [123]) then 1 else 0) + 0) = 0
        rw [if_neg hT.2, if_neg (by rw [hy, ← List.append_assoc]; exact thr_in hc)]
theorem atLine_next (P l : List UInt8) : atLine (P ++ (l ++ [10])) := .inr ⟨P ++ l, by simp⟩
theorem lined_counts {X : List UInt8} (h : Lined X) (P : List UInt8) (hP : atLine P) : (∀ r, cntH true (X ++ r) = cntH true r) ∧ cntT P X = 0 ∧ atLine (P ++ X) := by
  obtain ⟨ls, rfl, hl⟩ := h
  induction ls generalizing P with
  | nil => exact ⟨fun r => rfl, rfl, by simpa [flatL] using hP⟩
  | cons l ls ih =>
    have e : flatL (l :: ls) = (l ++ [10]) ++ flatL ls := by simp [flatL]
    have h1 := in_line (hl l (by simp)) P hP
    have h2 := ih (P ++ (l ++ [10])) (atLine_next P l) (fun x hx => hl x (by simp [hx]))
    rw [e]
    refine ⟨fun r => ?_, by rw [cntT_append, h1.2.2, h2.2.1], by rw [← List.append_assoc]; exact h2.2.2⟩
    rw [List.append_assoc, h1.1, h2.1]
/-- A thread's text. -/
theorem thread_counts {ss : List Stm} (N : Nat) (h : LinedS 1 ss) (P : List UInt8) (hP : atLine P) : (∀ r, cntH true (ttext 13 N ss ++ r) = 1 + cntH true r) ∧ cntT P (ttext 13 N ss) = 1 ∧ atLine (P ++ ttext 13 N ss) ∧ 2 ≤ cntL (ttext 13 N ss) := by
  have e : ttext 13 N ss = sThr ++ [10] ++ btext 13 N 1 ss ++ [125, 10] := rfl
  have hp1 : atLine (P ++ (sThr ++ [10])) := atLine_next P _
  have h1 := lined_counts (h N) (P ++ (sThr ++ [10])) hp1
  have hs : clean [116, 104, 114, 101, 97, 100, 32] := clean_lits (by decide)
  have hT0 := cntT_clean _ P hs (thr_line hP)
  have hthr : sThr <:+ P ++ sThr := ⟨P, rfl⟩
  rw [e]
  refine ⟨fun r => ?_, ?_, .inr ⟨P ++ (sThr ++ [10] ++ btext 13 N 1 ss ++ [125]), by simp⟩, ?_⟩
  · have : sThr ++ [10] ++ btext 13 N 1 ss ++ [125, 10] ++ r = 116 :: ([104, 114, 101, 97, 100, 32, 123] ++ (10 :: (btext 13 N 1 ss ++ (125 :: 10 :: r)))) := by simp [sThr]
    rw [this]
    show (if true = true ∧ (116 : UInt8) ≠ 9 ∧ (116 : UInt8) ≠ 125 then 1 else 0) + cntH ((116 : UInt8) == 10) ([104, 114, 101, 97, 100, 32, 123] ++ (10 :: (btext 13 N 1 ss ++ (125 :: 10 :: r)))) = _
    have hb : cntH false ([104, 114, 101, 97, 100, 32, 123] ++ (10 :: (btext 13 N 1 ss ++ (125 :: 10 :: r)))) = cntH true (btext 13 N 1 ss ++ (125 :: 10 :: r)) := by
      show 0 + _ = _
      simp [cntH]
    rw [show ((116 : UInt8) == 10) = false from rfl, hb, h1.1]
    simp [cntH]
  · rw [cntT_append, cntT_append, cntT_append]
    have e7 : cntT P sThr = 0 := by
      have : sThr = [116, 104, 114, 101, 97, 100, 32] ++ [123] := rfl
      rw [this, cntT_append, hT0.1]
      show 0 + ((if sThr <:+ P ++ [116, 104, 114, 101, 97, 100, 32] then 1 else 0) + 0) = 0
      rw [if_neg hT0.2]
    have e8 : cntT (P ++ sThr) [10] = 1 := by
      show (if sThr <:+ P ++ sThr then 1 else 0) + 0 = 1
      rw [if_pos hthr]
    have e9 : cntT (P ++ (sThr ++ [10])) (btext 13 N 1 ss) = 0 := h1.2.1
    have e10 : cntT (P ++ (sThr ++ [10] ++ btext 13 N 1 ss)) [125, 10] = 0 := by
      have hn : ¬ sThr <:+ P ++ (sThr ++ [10] ++ btext 13 N 1 ss) := by
        have := thr_line h1.2.2
        simpa using this
      show (if sThr <:+ P ++ (sThr ++ [10] ++ btext 13 N 1 ss) then 1 else 0) + ((if sThr <:+ P ++ (sThr ++ [10] ++ btext 13 N 1 ss) ++ [125] then 1 else 0) + 0) = 0
      rw [if_neg hn, if_neg (thr_last (by decide))]
    rw [e7, e8, e9, e10]
  · rw [cntL_append, cntL_append, cntL_append]
    have a : cntL sThr = 0 := rfl
    have b : cntL [10] = 1 := rfl
    have c : cntL [125, 10] = 1 := rfl
    omega

/-- A declaration's line. -/
def dLine (X : List UInt8) : Prop := ∃ c x, X = c :: x ++ [10] ∧ clean (c :: x) ∧ c ≠ 9 ∧ c ≠ 125
theorem d_counts {X : List UInt8} (h : dLine X) (P : List UInt8) (hP : atLine P) : (∀ r, cntH true (X ++ r) = 1 + cntH true r) ∧ cntT P X = 0 ∧ atLine (P ++ X) := by
  obtain ⟨c, x, rfl, hx, h9, h125⟩ := h
  have hT := cntT_clean (c :: x) P hx (thr_line hP)
  have hc := hx c (by simp)
  refine ⟨fun r => ?_, ?_, .inr ⟨P ++ (c :: x), by simp⟩⟩
  · have e : (c == 10) = false := by simpa using hc.1
    show (if true = true ∧ c ≠ 9 ∧ c ≠ 125 then 1 else 0) + cntH (c == 10) (x ++ [10] ++ r) = _
    rw [e, List.append_assoc, cntH_clean x _ (fun y hy => hx y (by simp [hy]))]
    simp [cntH, h9, h125]
  · rw [cntT_append, hT.1]
    show 0 + ((if sThr <:+ P ++ (c :: x) then 1 else 0) + 0) = 0
    rw [if_neg hT.2]
theorem dline_of {d : Dcl} (hn : clean (bys d.name)) (hb : clean (bys d.by_)) (hs : 0 ≤ d.size) : dLine (dtext d) := by
  unfold dtext
  have hi : clean (Lib.itoa d.size) := by
    rw [Lib.itoa, if_neg (by omega)]; exact clean_digits _
  split
  · exact ⟨108, [111, 99, 107, 32] ++ bys d.name ++ [59], by simp [lineT, tabs, sLock], clean_append (a := [108, 111, 99, 107, 32] ++ bys d.name) (clean_append (clean_lits (by decide)) hn) (clean_lits (by decide)), by decide, by decide⟩
  · have hm : ∀ x, clean x → dLine (x ++ [59, 10]) → True := fun _ _ _ => trivial
    have hz : clean (if 0 < d.size then [91] ++ Lib.itoa d.size ++ [93] else []) := by
      split
      · exact clean_append (clean_append (clean_lits (by decide)) hi) (clean_lits (by decide))
      · exact clean_nil
    have hy : clean (if d.by_.size = 0 then [] else sBy ++ bys d.by_) := by
      split
      · exact clean_nil
      · exact clean_append (clean_lits (by decide)) hb
    generalize (if 0 < d.size then [91] ++ Lib.itoa d.size ++ [93] else []) = z at hz ⊢
    generalize (if d.by_.size = 0 then [] else sBy ++ bys d.by_) = y at hy ⊢
    split
    · exact ⟨112, [117, 98, 108, 105, 99, 32] ++ bys d.name ++ z ++ y ++ [59], by simp [sPublic], clean_append (a := [112, 117, 98, 108, 105, 99, 32] ++ bys d.name ++ z ++ y) (clean_append (clean_append (clean_append (clean_lits (by decide)) hn) hz) hy) (clean_lits (by decide)), by decide, by decide⟩
    · exact ⟨115, [101, 99, 114, 101, 116, 32] ++ bys d.name ++ z ++ y ++ [59], by simp [sSecret], clean_append (a := [115, 101, 99, 114, 101, 116, 32] ++ bys d.name ++ z ++ y) (clean_append (clean_append (clean_append (clean_lits (by decide)) hn) hz) hy) (clean_lits (by decide)), by decide, by decide⟩
theorem ds_counts : ∀ (ds : List Dcl) (P : List UInt8), (∀ d ∈ ds, dLine (dtext d)) → atLine P → (∀ r, cntH true ((ds.map dtext).flatten ++ r) = ds.length + cntH true r) ∧ cntT P (ds.map dtext).flatten = 0 ∧ atLine (P ++ (ds.map dtext).flatten)
  | [], P, _, hP => ⟨fun r => by simp, rfl, by simpa using hP⟩
  | d :: ds, P, h, hP => by
    have h1 := d_counts (h d (by simp)) P hP
    have h2 := ds_counts ds (P ++ dtext d) (fun x hx => h x (by simp [hx])) h1.2.2
    simp only [List.map_cons, List.flatten_cons, List.length_cons]
    refine ⟨fun r => ?_, by rw [cntT_append, h1.2.1, h2.2.1], by rw [← List.append_assoc]; exact h2.2.2⟩
    rw [List.append_assoc, h1.1, h2.1]; omega
theorem ts_counts (N : Nat) : ∀ (ts : List (List Stm)) (P : List UInt8), (∀ ss ∈ ts, LinedS 1 ss) → atLine P → (∀ r, cntH true ((ts.map fun ss => ttext 13 N ss).flatten ++ r) = ts.length + cntH true r) ∧ cntT P (ts.map fun ss => ttext 13 N ss).flatten = ts.length ∧ atLine (P ++ (ts.map fun ss => ttext 13 N ss).flatten) ∧ 2 * ts.length ≤ cntL (ts.map fun ss => ttext 13 N ss).flatten
  | [], P, _, hP => ⟨fun r => by simp, rfl, by simpa using hP, by simp⟩
  | ss :: ts, P, h, hP => by
    have h1 := thread_counts N (h ss (by simp)) P hP
    have h2 := ts_counts N ts (P ++ ttext 13 N ss) (fun x hx => h x (by simp [hx])) h1.2.2.1
    simp only [List.map_cons, List.flatten_cons, List.length_cons]
    refine ⟨fun r => ?_, by rw [cntT_append, h1.2.1, h2.2.1]; omega, by rw [← List.append_assoc]; exact h2.2.2.1, by rw [cntL_append]; have := h1.2.2.2; have := h2.2.2.2; omega⟩
    rw [List.append_assoc, h1.1, h2.1]; omega
theorem dL_one {X : List UInt8} (h : dLine X) : 1 ≤ cntL X := by
  obtain ⟨c, x, rfl, _⟩ := h
  rw [cntL_append]
  have : cntL [10] = 1 := rfl
  omega
theorem dsL : ∀ (ds : List Dcl), (∀ d ∈ ds, dLine (dtext d)) → ds.length ≤ cntL (ds.map dtext).flatten
  | [], _ => by simp
  | d :: ds, h => by
    have h1 := dL_one (h d (by simp))
    have h2 := dsL ds (fun x hx => h x (by simp [hx]))
    simp only [List.map_cons, List.flatten_cons, List.length_cons]
    rw [cntL_append]; omega
theorem made_decls : ∀ (k : Nat) (ns : List UInt8), ∀ d ∈ (threadsM k ns).1, dLine (dtext d)
  | 0, ns => fun d hd => by
    have hd' : d ∈ decls0 := hd
    simp only [decls0, List.mem_cons, List.not_mem_nil, or_false] at hd'
    rcases hd' with rfl | rfl | rfl | rfl <;> exact dline_of (clean_lits (by decide)) (clean_lits (by decide)) (by decide)
  | k + 1, ns => fun d hd => by
    have hd' : d ∈ (threadsM k ns).1 ++ declsOf k := hd
    have hc : ∀ c : UInt8, c ≠ 10 ∧ c ≠ 123 → clean (bys ⟨#[c, digitB k]⟩) := fun c hc x hx => by
      have hx' : x ∈ [c, digitB k] := hx
      simp only [List.mem_cons, List.not_mem_nil, or_false] at hx'
      rcases hx' with rfl | rfl
      · exact hc
      · exact digitB_ok _
    rcases List.mem_append.1 hd' with h | h
    · exact made_decls k ns d h
    · simp only [declsOf, List.mem_cons, List.not_mem_nil, or_false] at h
      rcases h with rfl | rfl | rfl | rfl <;> exact dline_of (hc _ (by decide)) (show clean (bys ⟨#[]⟩) from clean_nil) (by simp)
theorem made_threads : ∀ (k : Nat) (ns : List UInt8), ∀ ss ∈ (threadsM k ns).2.1, LinedS 1 ss
  | 0, ns => fun ss hs => by
    have hs' : ss ∈ ([] : List (List Stm)) := hs
    simp at hs'
  | k + 1, ns => fun ss hs => by
    have hs' : ss ∈ (threadsM k ns).2.1 ++ [(blockM (stmtM 5) false ⟨[], [], [], false, k, 0⟩ (threadsM k ns).2.2).1] := hs
    rcases List.mem_append.1 hs' with h | h
    · exact made_threads k ns ss h
    · simp only [List.mem_singleton] at h; subst h; exact thread_lined _ _
/-- What TreeLines asks of the text. -/
theorem made_counts (N : Nat) (ns : List UInt8) (hd : 0 < (makeM ns).threads.length) : cntH true (ptext 13 N (makeM ns)) = (makeM ns).decls.length + (makeM ns).threads.length ∧ cntT [] (ptext 13 N (makeM ns)) = (makeM ns).threads.length ∧ cntH true (ptext 13 N (makeM ns)) < cntL (ptext 13 N (makeM ns)) ∧ ∃ Q, ptext 13 N (makeM ns) = Q ++ [10] := by
  have e1 : (makeM ns).decls = (threadsM (1 + nxV ns 3) ns.tail).1 := rfl
  have e2 : (makeM ns).threads = (threadsM (1 + nxV ns 3) ns.tail).2.1 := rfl
  have D := ds_counts (makeM ns).decls [] (by rw [e1]; exact made_decls _ _) (.inl rfl)
  have T := ts_counts N (makeM ns).threads ([] ++ ((makeM ns).decls.map dtext).flatten) (by rw [e2]; exact made_threads _ _) D.2.2
  have L := dsL (makeM ns).decls (by rw [e1]; exact made_decls _ _)
  have ep : ptext 13 N (makeM ns) = ((makeM ns).decls.map dtext).flatten ++ ((makeM ns).threads.map fun ss => ttext 13 N ss).flatten := rfl
  have hH : cntH true (ptext 13 N (makeM ns)) = (makeM ns).decls.length + (makeM ns).threads.length := by
    rw [ep, D.1]
    have := T.1 []
    simp only [List.append_nil] at this
    rw [this]
    simp [cntH]
  refine ⟨hH, by rw [ep, cntT_append, D.2.1, T.2.1]; simp, ?_, ?_⟩
  · rw [hH, ep, cntL_append]
    have := T.2.2.2
    omega
  · have := T.2.2.1
    rw [List.append_assoc, ← ep] at this
    rcases this with h | ⟨Q, h⟩
    · exfalso
      have h' : ptext 13 N (makeM ns) = [] := by simpa using h
      have := T.2.2.2
      have hl : cntL (ptext 13 N (makeM ns)) = 0 := by rw [h']; rfl
      rw [ep, cntL_append] at hl
      omega
    · exact ⟨Q, by simpa using h⟩
/-- How long it is. -/
theorem threads_fit : ∀ (k : Nat) (ns : List UInt8), (threadsM k ns).2.2.length ≤ ns.length ∧ ∀ N, (((threadsM k ns).2.1.map fun ss => ttext 13 N ss).flatten).length ≤ 35 * k + 110 * (ns.length - (threadsM k ns).2.2.length)
  | 0, ns => ⟨Nat.le_refl _, fun N => by simp [threadsM]⟩
  | k + 1, ns => by
    have ih := threads_fit k ns
    have b := block_fit (d := 0) (fun E ns hf => stmt_grow 5 false E ns hf) (fun E ns hE => stmt_good 5 false E ns hE) (fun E'' ns'' a b c => by have := stmt_fit 5 false E'' ns'' a b (by omega); rwa [c] at this) ⟨[], [], [], false, k, 0⟩ (threadsM k ns).2.2 ⟨rfl, rfl⟩ (fun s hs => by simp at hs) rfl
    have a1 := ih.1
    have a2 := b.1
    refine ⟨by show (blockM (stmtM 5) false ⟨[], [], [], false, k, 0⟩ (threadsM k ns).2.2).2.2.length ≤ _; omega, fun N => ?_⟩
    show (((threadsM k ns).2.1 ++ [(blockM (stmtM 5) false ⟨[], [], [], false, k, 0⟩ (threadsM k ns).2.2).1]).map fun ss => ttext 13 N ss).flatten.length ≤ 35 * (k + 1) + 110 * (ns.length - (blockM (stmtM 5) false ⟨[], [], [], false, k, 0⟩ (threadsM k ns).2.2).2.2.length)
    have i1 := ih.2 N
    have i2 := b.2 N
    simp only [List.map_append, List.flatten_append, List.length_append, List.map_cons, List.map_nil, List.flatten_cons, List.flatten_nil, List.append_nil]
    have e : (ttext 13 N (blockM (stmtM 5) false ⟨[], [], [], false, k, 0⟩ (threadsM k ns).2.2).1).length = 11 + sumT N 1 (blockM (stmtM 5) false ⟨[], [], [], false, k, 0⟩ (threadsM k ns).2.2).1 := by
      simp only [ttext, lineT, List.length_append, tabs_len, sThread, List.length_cons, List.length_nil, sumT]; omega
    rw [e]
    simp only [Nat.zero_add] at i2
    omega
theorem d_len {d : Dcl} (hn : d.name.size ≤ 6) (hb : d.by_.size ≤ 6) (hs : 0 ≤ d.size ∧ d.size ≤ 9) : (dtext d).length ≤ 30 := by
  have hi : (Lib.itoa d.size).length ≤ 1 := by
    rw [Lib.itoa, if_neg (by omega), Lib.decDigits_length, Lib.nDigits_small (by omega)]; omega
  unfold dtext
  split
  · simp only [lineT, List.length_append, tabs_len, bys_length, sLock, List.length_cons, List.length_nil]; omega
  · have h1 : (if 0 < d.size then [91] ++ Lib.itoa d.size ++ [93] else []).length ≤ 3 := by split <;> simp; omega
    have h2 : (if d.by_.size = 0 then [] else sBy ++ bys d.by_).length ≤ 10 := by
      split
      · simp
      · simp only [List.length_append, bys_length, sBy, List.length_cons, List.length_nil]; omega
    have h3 : (if d.label = 0 then sPublic else sSecret).length ≤ 7 := by split <;> simp [sPublic, sSecret]
    simp only [List.length_append, bys_length, List.length_cons, List.length_nil]; omega
theorem decls_fit : ∀ (k : Nat) (ns : List UInt8), (((threadsM k ns).1.map dtext).flatten).length ≤ 120 * (k + 1)
  | 0, ns => by show ((decls0.map dtext).flatten).length ≤ _; decide
  | k + 1, ns => by
    have ih := decls_fit k ns
    show (((threadsM k ns).1 ++ declsOf k).map dtext).flatten.length ≤ _
    have h4 : ((declsOf k).map dtext).flatten.length ≤ 120 := by
      have e0 := d_len (d := ⟨false, 0, ⟨#[112, digitB k]⟩, 0, ⟨#[]⟩, 0⟩) (by simp [ByteArray.size]) (by simp [ByteArray.size]) (by simp)
      have e1 := d_len (d := ⟨false, 0, ⟨#[113, digitB k]⟩, 4, ⟨#[]⟩, 0⟩) (by simp [ByteArray.size]) (by simp [ByteArray.size]) (by simp)
      have e2 := d_len (d := ⟨false, 1, ⟨#[115, digitB k]⟩, 0, ⟨#[]⟩, 0⟩) (by simp [ByteArray.size]) (by simp [ByteArray.size]) (by simp)
      have e3 := d_len (d := ⟨false, 1, ⟨#[116, digitB k]⟩, 4, ⟨#[]⟩, 0⟩) (by simp [ByteArray.size]) (by simp [ByteArray.size]) (by simp)
      simp only [declsOf, List.map_cons, List.map_nil, List.flatten_cons, List.flatten_nil, List.length_append, List.length_nil]
      omega
    rw [List.map_append, List.flatten_append, List.length_append]; omega
theorem made_len (N : Nat) (ns : List UInt8) (h : ns.length ≤ 300) : (ptext 13 N (makeM ns)).length ≤ 40000 := by
  have h3 := nxV_lt ns 3 (by omega)
  have a := threads_fit (1 + nxV ns 3) ns.tail
  have b := decls_fit (1 + nxV ns 3) ns.tail
  have c := a.2 N
  have hl : ns.tail.length ≤ ns.length := by simp
  have ep : ptext 13 N (makeM ns) = ((threadsM (1 + nxV ns 3) ns.tail).1.map dtext).flatten ++ ((threadsM (1 + nxV ns 3) ns.tail).2.1.map fun ss => ttext 13 N ss).flatten := rfl
  rw [ep, List.length_append]
  omega
end Go.Proofs.YtfginegegaokbaaGreatDoor
