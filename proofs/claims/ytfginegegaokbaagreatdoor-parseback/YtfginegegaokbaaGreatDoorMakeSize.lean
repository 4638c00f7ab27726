/- How long the text of what numbers make is at most: by the numbers that are used. Plain. -/
import Derived.Test.YtfginegegaokbaaGreatDoorTreeWf
import Derived.Test.YtfginegegaokbaaGreatDoorMakeStmPlain
namespace Go.Proofs.YtfginegegaokbaaGreatDoor
set_option linter.unusedVariables false
set_option linter.unusedSimpArgs false

theorem nDig3 (v : Nat) (h : v < 1000) : Lib.nDigits v ≤ 3 := by
  by_cases a : v < 10
  · rw [Lib.nDigits_small a]; omega
  · rw [Lib.nDigits_big a]
    by_cases b : v / 10 < 10
    · rw [Lib.nDigits_small b]; omega
    · rw [Lib.nDigits_big b, Lib.nDigits_small (by omega)]; omega
theorem len_lit (N v p : Nat) (hv : v < 1000) : (etext N (litT v) p).length ≤ 3 := by
  cases N with
  | zero => simp [etext]
  | succ N => rw [etext_lit N _ p rfl]; show (Lib.decDigits v).length ≤ 3; rw [Lib.decDigits_length]; exact nDig3 v hv
theorem len_lit0 (N p : Nat) : (etext N (litT 0) p).length ≤ 1 := by
  cases N with
  | zero => simp [etext]
  | succ N => rw [etext_lit N _ p rfl]; show (Lib.decDigits 0).length ≤ 1; rw [Lib.decDigits_length]; rw [Lib.nDigits_small (by omega)]; omega
theorem len_name (N p : Nat) (s : ByteArray) : (etext N (nameT s) p).length ≤ s.size := by
  cases N with
  | zero => simp [etext]
  | succ N => rw [etext_name N _ p rfl, bys_length]; exact Nat.le_refl _
theorem len_cell (N p : Nat) (s : ByteArray) (x : Tree) (X : Nat) (hx : ∀ N p, (etext N x p).length ≤ X) : (etext N (cellT s x) p).length ≤ s.size + 2 + X := by
  cases N with
  | zero => simp [etext]
  | succ N =>
    rw [etext_cell N _ p rfl, cellText, show (cellT s x).kids = [x] from rfl, epart_some (k := x) rfl]
    have := hx N 0
    simp only [List.length_append, List.length_cons, List.length_nil, bys_length, show (cellT s x).name = s from rfl]; omega
theorem len_bin (N p : Nat) (o : Int) (x y : Tree) (X Y : Nat) (hx : ∀ N p, (etext N x p).length ≤ X) (hy : ∀ N p, (etext N y p).length ≤ Y) : (etext N (binT o x y) p).length ≤ 6 + X + Y := by
  cases N with
  | zero => simp [etext]
  | succ N =>
    rw [etext_bin N _ p rfl]
    have h1 := hx N (tightN (binT o x y).op)
    have h2 := hy N (tightN (binT o x y).op + 1)
    have hs := signL_len (binT o x y).op.toNat
    unfold binTextAt
    split
    · simp; omega
    · have e0 : epart N (binT o x y).kids 0 (tightN (binT o x y).op) = etext N x (tightN (binT o x y).op) := epart_some rfl _
      have e1 : epart N (binT o x y).kids 1 (tightN (binT o x y).op + 1) = etext N y (tightN (binT o x y).op + 1) := epart_some rfl _
      split <;> (simp only [binText, e0, e1, List.length_append, List.length_cons, List.length_nil]; omega)
theorem len_not (N p : Nat) (x : Tree) (X : Nat) (hx : ∀ N p, (etext N x p).length ≤ X) : (etext N (notT x) p).length ≤ 1 + X := by
  cases N with
  | zero => simp [etext]
  | succ N =>
    rw [etext_not N _ p rfl, show (notT x).kids = [x] from rfl, epart_some (k := x) rfl]
    have := hx N 9
    simp only [List.length_append, List.length_cons, List.length_nil]; omega
theorem len_pick (N p : Nat) (x y z : Tree) (X Y Z : Nat) (hx : ∀ N p, (etext N x p).length ≤ X) (hy : ∀ N p, (etext N y p).length ≤ Y) (hz : ∀ N p, (etext N z p).length ≤ Z) : (etext N (pickT x y z) p).length ≤ 10 + X + Y + Z := by
  cases N with
  | zero => simp [etext]
  | succ N =>
    rw [etext_pick N _ p rfl, pickText, show (pickT x y z).kids = [x, y, z] from rfl, epart_some (k := x) rfl, epart_some (k := y) rfl, epart_some (k := z) rfl]
    have h1 := hx N 0
    have h2 := hy N 0
    have h3 := hz N 0
    simp only [List.length_append, List.length_cons, List.length_nil]; omega

/-- An expression's text is short by the numbers that it uses. -/
def FitE (A : Nat) (ns : List UInt8) (r : Tree × List UInt8) : Prop := r.2.length ≤ ns.length ∧ ∀ N p, (etext N r.1 p).length ≤ A + 20 * (ns.length - r.2.length)
theorem fit_bin {f : Nat → List UInt8 → Tree × List UInt8} (h : ∀ d ns, FitE 1 ns (f d ns)) (deep : Nat) (ns : List UInt8) : (binM f deep ns).2.length ≤ ns.length ∧ ∀ N p, (etext N (binM f deep ns).1 p).length ≤ 8 + 20 * (ns.length - (binM f deep ns).2.length) := by
  have h1 := h (deep + 1) ns.tail
  have h2 := h (deep + 1) (f (deep + 1) ns.tail).2
  have hl : ns.tail.length ≤ ns.length := by simp
  unfold binM
  refine ⟨by have := h1.1; have := h2.1; simp only; omega, fun N p => ?_⟩
  have := len_bin N p (nxV ns 10) _ _ _ _ h1.2 h2.2
  have a1 := h1.1
  have a2 := h2.1
  simp only
  omega
theorem fit_place {E : Env} (hE : goodE E) {f : Nat → List UInt8 → Tree × List UInt8} (h : ∀ d ns, FitE 1 ns (f d ns)) (deep : Nat) (ns : List UInt8) : FitE 16 ns (placeM f E deep ns) := by
  have hl : ns.tail.length ≤ ns.length := by simp
  have hl2 : ns.tail.tail.length ≤ ns.tail.length := by simp
  have h4 := nxV_lt ns.tail 4 (by omega)
  unfold placeM
  split
  · split
    · next s hs =>
      refine ⟨hl, fun N p => ?_⟩
      have := len_name N p s
      have := (counter_good hE _ s (Nat.le_refl _) hs).2
      simp only; omega
    · refine ⟨by simp only; omega, fun N p => ?_⟩
      have := len_lit N (nxV ns.tail 4) p (by omega)
      simp only; omega
  · split
    · have h1 := h (deep + 1) ns.tail
      have a1 := h1.1
      refine ⟨by simp only; omega, fun N p => ?_⟩
      have := len_bin N p 3 _ (litT 3) _ _ h1.2 (fun N p => len_lit N 3 p (by omega))
      simp only; omega
    · refine ⟨by simp only; omega, fun N p => ?_⟩
      have := len_lit N (nxV ns.tail 4) p (by omega)
      simp only; omega
theorem fit_lit (ns : List UInt8) : FitE 1 ns (litT (nxV ns.tail 256), ns.tail.tail) := by
  cases ns with
  | nil => exact ⟨by simp, fun N p => by have := len_lit0 N p; simpa [nxV] using this⟩
  | cons x r =>
    have hv := nxV_lt r 256 (by omega)
    refine ⟨by simp; omega, fun N p => ?_⟩
    have := len_lit N (nxV r 256) p (by omega)
    simp only [List.tail_cons, List.length_cons, List.length_tail]
    omega
theorem fit_name (x : UInt8) (r r' : List UInt8) (s : ByteArray) (hs : s.size ≤ 16) (hr : r'.length ≤ r.length) : FitE 1 (x :: r) (nameT s, r') := by
  refine ⟨by simp; omega, fun N p => ?_⟩
  have := len_name N p s
  simp only [List.length_cons]; omega
theorem fit_cell {E : Env} (hE : goodE E) {f : Nat → List UInt8 → Tree × List UInt8} (h : ∀ d ns, FitE 1 ns (f d ns)) (deep : Nat) (x : UInt8) (r : List UInt8) (c : UInt8) : FitE 1 (x :: r) (cellT (dig c E) (placeM f E deep r).1, (placeM f E deep r).2) := by
  have h1 := fit_place hE h deep r
  have a1 := h1.1
  refine ⟨by simp only [List.length_cons]; omega, fun N p => ?_⟩
  have := len_cell N p (dig c E) _ _ h1.2
  rw [dig_size] at this
  simp only [List.length_cons]; omega
theorem fit_more {A : Nat} {x : UInt8} {r : List UInt8} {t : Tree × List UInt8} (a : t.2.length ≤ r.length) (h : ∀ N p, (etext N t.1 p).length ≤ 8 + 20 * (r.length - t.2.length)) : FitE 1 (x :: r) t := by
  refine ⟨by simp only [List.length_cons]; omega, fun N p => ?_⟩
  have := h N p
  simp only [List.length_cons]; omega
theorem fit_ite {A : Nat} {ns : List UInt8} {c : Prop} {i : Decidable c} {x y : Tree × List UInt8} (h1 : c → FitE A ns x) (h2 : ¬ c → FitE A ns y) : FitE A ns (@ite _ c i x y) := by
  by_cases h : c
  · rw [if_pos h]; exact h1 h
  · rw [if_neg h]; exact h2 h
theorem pub_fit {E : Env} (hE : goodE E) : ∀ (f deep : Nat) (ns : List UInt8), FitE 1 ns (pubM E f deep ns)
  | 0, deep, ns => fit_lit ns
  | f + 1, deep, [] => by
    have : pubM E (f + 1) deep [] = (litT (nxV ([] : List UInt8).tail 256), ([] : List UInt8).tail.tail) := by simp [pubM, nxV]
    rw [this]; exact fit_lit []
  | f + 1, deep, x :: r => by
    have ih := pub_fit hE f
    simp only [pubM, List.tail_cons]
    split
    · exact fit_lit (x :: r)
    · split
      · exact fit_name x r r _ (by rw [dig_size]; omega) (Nat.le_refl _)
      · split
        · exact fit_name x r r _ (by decide) (Nat.le_refl _)
        · split
          · exact fit_cell hE ih deep x r 113
          · split
            · next hl =>
              have := nxV_lt r E.loc.length hl.2
              refine fit_ite (fun _ => ?_) (fun _ => ?_)
              · exact fit_name x r r.tail _ (loc_good hE _ this).2 (by simp)
              · have := fit_bin ih deep r.tail
                have hl : r.tail.length ≤ r.length := by simp
                exact fit_more (A := 1) (by omega) (fun N p => by have := this.2 N p; omega)
            · split
              · have h1 := ih (deep + 1) r
                refine fit_more (A := 1) h1.1 (fun N p => ?_)
                have := len_not N p _ _ h1.2
                simp only; omega
              · have := fit_bin ih deep r
                exact fit_more (A := 1) this.1 this.2
theorem fit_tail {x : UInt8} {r : List UInt8} {t : Tree × List UInt8} (h : FitE 1 r t) : FitE 1 (x :: r) t := fit_more (A := 1) h.1 (fun N p => by have := h.2 N p; omega)
theorem sec_fit {E : Env} (hE : goodE E) : ∀ (f deep : Nat) (ns : List UInt8), FitE 1 ns (secM E f deep ns)
  | 0, deep, [] => pub_fit hE 0 _ []
  | 0, deep, x :: r => fit_tail (pub_fit hE 0 _ r)
  | f + 1, deep, [] => by
    have : secM E (f + 1) deep [] = pubM E f (deep + 1) [] := by simp [secM, nxV]
    rw [this]; exact pub_fit hE _ _ _
  | f + 1, deep, x :: r => by
    have ih := sec_fit hE f
    have ihp := pub_fit hE f
    simp only [secM, List.tail_cons]
    split
    · exact fit_tail (ihp _ _)
    · split
      · exact fit_name x r r _ (by rw [dig_size]; omega) (Nat.le_refl _)
      · split
        · exact fit_cell hE ihp deep x r 116
        · split
          · exact fit_name x r r _ (by decide) (Nat.le_refl _)
          · split
            · next hl =>
              have := nxV_lt r E.loc.length hl.2
              exact fit_name x r r.tail _ (loc_good hE _ this).2 (by simp)
            · split
              · have h1 := ih (deep + 1) r
                have h2 := ih (deep + 1) (secM E f (deep + 1) r).2
                have h3 := ih (deep + 1) (secM E f (deep + 1) (secM E f (deep + 1) r).2).2
                have a1 := h1.1
                have a2 := h2.1
                have a3 := h3.1
                refine ⟨by simp only [List.length_cons]; omega, fun N p => ?_⟩
                have := len_pick N p _ _ _ _ _ _ h1.2 h2.2 h3.2
                simp only [List.length_cons]; omega
              · have := fit_bin ih deep r
                exact fit_more (A := 1) this.1 this.2

/-- Statements' text is short by the numbers that they use. -/
def sumT (N d : Nat) (ss : List Stm) : Nat := (btext 13 N d ss).length
theorem sumT_append (N d : Nat) (a b : List Stm) : sumT N d (a ++ b) = sumT N d a + sumT N d b := by simp [sumT, btext]
theorem sumT_one (N d : Nat) (s : Stm) : sumT N d [s] = (stext 13 N d s).length := by simp [sumT, btext]
theorem sumT_nil (N d : Nat) : sumT N d [] = 0 := rfl
def FitS (d : Nat) (ns : List UInt8) (r : Mk) : Prop := r.2.2.length ≤ ns.length ∧ ∀ N, sumT N d r.1 ≤ 24 + 110 * (ns.length - r.2.2.length)
theorem tabs_len (d : Nat) : (tabs d).length = d := by simp [tabs]
theorem epart0_len {e : Tree} {X : Nat} (h : ∀ N p, (etext N e p).length ≤ X) (m : Nat) (es : List Tree) : (epart m (e :: es) 0 0).length ≤ X := by rw [epart_some (k := e) rfl]; exact h m 0
theorem epart1_len {i e : Tree} {X : Nat} (h : ∀ N p, (etext N e p).length ≤ X) (m : Nat) : (epart m [i, e] 1 0).length ≤ X := by rw [epart_some (k := e) rfl]; exact h m 0
theorem len_value (N d : Nat) (k : Int) (s : ByteArray) (e : Tree) (X : Nat) (hk : k = 0 ∨ k = 1 ∨ k = 7 ∨ k = 9) (he : ∀ N p, (etext N e p).length ≤ X) : (stext 13 N d (stmE k s [e])).length ≤ d + 11 + s.size + X := by
  cases N with
  | zero => simp [stext]
  | succ N =>
    have h0 := epart0_len he 13 []
    rcases hk with rfl | rfl | rfl | rfl
    · rw [stext_0 13 N d _ rfl]; simp only [valueT, stmE, List.length_append, tabs_len, bys_length, List.length_cons, List.length_nil, sLocal, sIs]; omega
    · rw [stext_1 13 N d _ rfl]; simp only [valueT, stmE, List.length_append, tabs_len, bys_length, List.length_cons, List.length_nil, sIs]; omega
    · rw [stext_7 13 N d _ rfl]; simp only [valueT, stmE, List.length_append, tabs_len, bys_length, List.length_cons, List.length_nil, sAdd]; omega
    · rw [stext_9 13 N d _ (by simp [stmE]) (by simp [stmE]) (by simp [stmE]) (by simp [stmE]) (by simp [stmE]) (by simp [stmE]) (by simp [stmE]) (by simp [stmE]) (by simp [stmE])]; simp only [valueT, stmE, List.length_append, tabs_len, bys_length, List.length_cons, List.length_nil, sOutput]; omega
theorem len_store (N d : Nat) (s : ByteArray) (i e : Tree) (X Y : Nat) (hi : ∀ N p, (etext N i p).length ≤ X) (he : ∀ N p, (etext N e p).length ≤ Y) : (stext 13 N d (stmE 2 s [i, e])).length ≤ d + 7 + s.size + X + Y := by
  cases N with
  | zero => simp [stext]
  | succ N =>
    have h0 := epart0_len hi 13 [e]
    have h1 := epart1_len (i := i) he 13
    rw [stext_2 13 N d _ rfl]; simp only [cellText, stmE, List.length_append, tabs_len, bys_length, List.length_cons, List.length_nil, sIs]; omega
theorem len_line (N d : Nat) (k : Int) (s : ByteArray) (hk : k = 5 ∨ k = 6 ∨ k = 8) : (stext 13 N d (stmE k s [])).length ≤ d + 7 + s.size := by
  cases N with
  | zero => simp [stext]
  | succ N =>
    rcases hk with rfl | rfl | rfl
    · rw [stext_5 13 N d _ rfl]; simp only [lineT, stmE, List.length_append, tabs_len, bys_length, List.length_cons, List.length_nil, sTake]; omega
    · rw [stext_6 13 N d _ rfl]; simp only [lineT, stmE, List.length_append, tabs_len, bys_length, List.length_cons, List.length_nil, sGive]; omega
    · rw [stext_8 13 N d _ rfl]; simp only [lineT, stmE, List.length_append, tabs_len, bys_length, List.length_cons, List.length_nil, sFence]; omega
theorem len_if (N d : Nat) (e : Tree) (b1 b2 : List Stm) (X Y Z : Nat) (he : ∀ N p, (etext N e p).length ≤ X) (h1 : ∀ N, sumT N (d + 1) b1 ≤ Y) (h2 : ∀ N, sumT N (d + 1) b2 ≤ Z) : (stext 13 N d ⟨3, ⟨#[]⟩, [e], 0, b1, b2, 0⟩).length ≤ 3 * d + 19 + X + Y + Z := by
  cases N with
  | zero => simp [stext]
  | succ N =>
    have h0 := epart0_len he 13 []
    have a1 := h1 N
    have a2 := h2 N
    unfold sumT at a1 a2
    rw [stext_3 13 N d _ rfl]
    unfold choiceT
    split <;> (simp only [lineT, List.length_append, tabs_len, List.length_cons, List.length_nil, sIf, sThen, sElse]; omega)
theorem len_for (N d : Nat) (s : ByteArray) (c : Nat) (b : List Stm) (Y : Nat) (hc : c < 10) (h1 : ∀ N, sumT N (d + 1) b ≤ Y) : (stext 13 N d ⟨4, s, [], c, b, [], 0⟩).length ≤ 2 * d + 12 + s.size + Y := by
  cases N with
  | zero => simp [stext]
  | succ N =>
    have a1 := h1 N
    unfold sumT at a1
    rw [stext_4 13 N d _ rfl]
    have hi : (Lib.itoa ((c : Nat) : Int)).length ≤ 1 := by
      rw [Lib.itoa, if_neg (by omega)]
      simp only [Int.toNat_natCast]
      rw [Lib.decDigits_length, Lib.nDigits_small hc]
      omega
    simp only [lineT, List.length_append, tabs_len, bys_length, List.length_cons, List.length_nil, sLoop]; omega

theorem good_enter {E : Env} (h : goodE E) (s : Bool) (c : Int) : goodE (enterE E s c) := fun x hx => by
  have hx' : x ∈ E.loc ++ [nameX E] := hx
  rcases List.mem_append.1 hx' with h1 | h1
  · exact h x h1
  · simp only [List.mem_singleton] at h1
    subst h1
    exact ⟨by simp [nameX, ByteArray.size], by simp [nameX, ByteArray.size]⟩
theorem good_ite {c : Prop} [Decidable c] {x y : Mk} (h1 : c → goodE x.2.1) (h2 : ¬ c → goodE y.2.1) : goodE (if c then x else y).2.1 := by
  by_cases h : c
  · rw [if_pos h]; exact h1 h
  · rw [if_neg h]; exact h2 h
theorem loop_good {st : Bool → Env → List UInt8 → Mk} {inside : Bool} (h : ∀ E ns, goodE E → goodE (st inside E ns).2.1) : ∀ (j : Nat) (E : Env) (ns : List UInt8), goodE E → goodE (loopM st inside j E ns).2.1
  | 0, E, ns, hE => hE
  | j + 1, E, ns, hE => h _ _ (loop_good h j E ns hE)
theorem stmt_good : ∀ (f : Nat) (inside : Bool) (E : Env) (ns : List UInt8), goodE E → goodE (stmtM f inside E ns).2.1
  | 0, inside, E, ns, h => h
  | f + 1, inside, E, ns, h => by
    have hl := loop_good (fun E ns hE => stmt_good f false E ns hE) (nxV ns.tail 4 + 1) { E with held := true } ns.tail.tail h
    show goodE (stmtB (stmtM f) inside E ns).2.1
    exact good_ite (fun _ => good_enter h _ _) fun _ => good_ite (fun _ => good_enter h _ _) fun _ => good_ite (fun _ => h) fun _ => good_ite (fun _ => h) fun _ => good_ite (fun _ => h) fun _ => good_ite (fun _ => h) fun _ => good_ite (fun _ => h) fun _ => good_ite (fun _ => h) fun _ => good_ite (fun _ => h) fun _ => good_ite (fun _ => hl) fun _ => good_ite (fun _ => h) fun _ => good_ite (fun _ => h) fun _ => good_ite (fun _ => h) fun _ => h
theorem fitS_ite {d : Nat} {ns : List UInt8} {c : Prop} [Decidable c] {x y : Mk} (h1 : c → FitS d ns x) (h2 : ¬ c → FitS d ns y) : FitS d ns (if c then x else y) := by
  by_cases h : c
  · rw [if_pos h]; exact h1 h
  · rw [if_neg h]; exact h2 h
theorem fitS_one {d : Nat} (hd : d ≤ 4) {x : UInt8} {r : List UInt8} {k : Int} {s : ByteArray} {E : Env} {e : Tree × List UInt8} (hk : k = 0 ∨ k = 1 ∨ k = 7 ∨ k = 9) (hs : s.size ≤ 16) (h : FitE 1 r e) : FitS d (x :: r) (oneM k s E e) := by
  have a := h.1
  refine ⟨by simp only [oneM, List.length_cons]; omega, fun N => ?_⟩
  have := len_value N d k s e.1 _ hk h.2
  simp only [oneM, sumT_one, List.length_cons]; omega
theorem fitS_store {d : Nat} (hd : d ≤ 4) {x : UInt8} {r : List UInt8} {s : ByteArray} {E : Env} {i : Tree × List UInt8} {e : Tree × List UInt8} (hs : s.size ≤ 16) (hi : FitE 16 r i) (h : FitE 1 i.2 e) : FitS d (x :: r) (storeM s E i.1 e) := by
  have a := h.1
  have b := hi.1
  refine ⟨by simp only [storeM, List.length_cons]; omega, fun N => ?_⟩
  have := len_store N d s i.1 e.1 _ _ hi.2 h.2
  simp only [storeM, sumT_one, List.length_cons]; omega
theorem loop_fit {st : Bool → Env → List UInt8 → Mk} {inside : Bool} {d : Nat} (hg : ∀ E ns, fullE E → growE E (st inside E ns).2.1) (hgd : ∀ E ns, goodE E → goodE (st inside E ns).2.1) (h : ∀ E ns, fullE E → goodE E → E.deep = d → FitS d ns (st inside E ns)) : ∀ (j : Nat) (E : Env) (ns : List UInt8), fullE E → goodE E → E.deep = d → (loopM st inside j E ns).2.2.length ≤ ns.length ∧ ∀ N, sumT N d (loopM st inside j E ns).1 ≤ 24 * j + 110 * (ns.length - (loopM st inside j E ns).2.2.length)
  | 0, E, ns, _, _, _ => ⟨Nat.le_refl _, fun N => by simp [loopM, sumT_nil]⟩
  | j + 1, E, ns, hf, hE, hd => by
    have ih := loop_fit hg hgd h j E ns hf hE hd
    have g := loop_grow hg j E ns hf
    have k := h (loopM st inside j E ns).2.1 (loopM st inside j E ns).2.2 (g.full hf) (loop_good hgd j E ns hE) (by rw [g.2.2.1, hd])
    have a := ih.1
    have b := k.1
    refine ⟨by show (st inside (loopM st inside j E ns).2.1 (loopM st inside j E ns).2.2).2.2.length ≤ _; omega, fun N => ?_⟩
    show sumT N d ((loopM st inside j E ns).1 ++ (st inside (loopM st inside j E ns).2.1 (loopM st inside j E ns).2.2).1) ≤ 24 * (j + 1) + 110 * (ns.length - (st inside (loopM st inside j E ns).2.1 (loopM st inside j E ns).2.2).2.2.length)
    rw [sumT_append]
    have h1 := ih.2 N
    have h2 := k.2 N
    omega
theorem block_fit {st : Bool → Env → List UInt8 → Mk} {inside : Bool} {d : Nat} (hg : ∀ E ns, fullE E → growE E (st inside E ns).2.1) (hgd : ∀ E ns, goodE E → goodE (st inside E ns).2.1) (h : ∀ E ns, fullE E → goodE E → E.deep = d + 1 → FitS (d + 1) ns (st inside E ns)) (E : Env) (ns : List UInt8) (hf : fullE E) (hE : goodE E) (hd : E.deep = d) : FitS (d + 1) ns (blockM st inside E ns) := by
  have L := loop_fit hg hgd h (nxV ns 5 + 1) { E with deep := E.deep + 1 } ns.tail hf hE (by simp [hd])
  show (loopM st inside (nxV ns 5 + 1) { E with deep := E.deep + 1 } ns.tail).2.2.length ≤ ns.length ∧ ∀ N, sumT N (d + 1) (loopM st inside (nxV ns 5 + 1) { E with deep := E.deep + 1 } ns.tail).1 ≤ 24 + 110 * (ns.length - (loopM st inside (nxV ns 5 + 1) { E with deep := E.deep + 1 } ns.tail).2.2.length)
  have h5 := nxV_lt ns 5 (by omega)
  have a := L.1
  cases ns with
  | nil => exact ⟨by simpa using a, fun N => by have := L.2 N; simp only [nxV] at this ⊢; simp only [List.tail_nil, List.length_nil] at this ⊢; omega⟩
  | cons x r =>
    simp only [List.tail_cons, List.length_cons] at a ⊢
    exact ⟨by omega, fun N => by have := L.2 N; simp only [List.tail_cons] at this; omega⟩
theorem stmt_fit : ∀ (f : Nat) (inside : Bool) (E : Env) (ns : List UInt8), fullE E → goodE E → E.deep ≤ 4 → FitS E.deep ns (stmtM f inside E ns)
  | 0, inside, E, ns, _, _, _ => ⟨Nat.le_refl _, fun N => by show sumT N E.deep [] ≤ _; rw [sumT_nil]; omega⟩
  | f + 1, inside, E, [], hf, hE, hd => by
    show FitS E.deep [] (stmtB (stmtM f) inside E [])
    have e1 : ∀ k s E', (k = 0 ∨ k = 1) → s.size ≤ 4 → ∀ e : Tree × List UInt8, FitE 1 [] e → FitS E.deep [] (oneM k s E' e) := fun k s E' hk hs e he => by
      have a := he.1
      refine ⟨a, fun N => ?_⟩
      have := len_value N E.deep k s e.1 _ (by omega) he.2
      simp only [oneM, sumT_one, List.length_nil] at a this ⊢; omega
    have n0 : ∀ k, nxV ([] : List UInt8) k = 0 := fun k => rfl
    unfold stmtB
    simp only [n0]
    refine fitS_ite (fun _ => e1 0 _ _ (.inl rfl) (by simp [nameX, ByteArray.size]) _ (sec_fit hE 6 0 [])) fun _ => ?_
    rw [if_neg (by omega), if_neg (by omega), if_neg (by omega), if_neg (by omega), if_neg (by omega)]
    refine fitS_ite (fun _ => e1 1 _ _ (.inr rfl) (by rw [dig_size]; omega) _ (sec_fit hE 6 0 [])) fun _ => ?_
    rw [if_neg (by omega), if_neg (by omega), if_neg (by omega), if_neg (by omega), if_neg (by omega), if_neg (by omega)]
    exact e1 1 _ _ (.inr rfl) (by rw [dig_size]; omega) _ (pub_fit hE 6 0 [])
  | f + 1, inside, E, x :: r, hf, hE, hd => by
    show FitS E.deep (x :: r) (stmtB (stmtM f) inside E (x :: r))
    have hsec := sec_fit hE 6 0 r
    have hpub := pub_fit hE 6 0 r
    have hpl := fit_place hE (pub_fit hE 5) 0 r
    have hnx : (nameX E).size ≤ 16 := by simp [nameX, ByteArray.size]
    have hdg : ∀ c, (dig c E).size ≤ 16 := fun c => by rw [dig_size]; omega
    have hg := fun ins => fun E ns (hf : fullE E) => stmt_grow f ins E ns hf
    have hgd := fun ins => fun E ns (hE : goodE E) => stmt_good f ins E ns hE
    have hblk : ∀ ins (E' : Env) (ns : List UInt8), fullE E' → goodE E' → E'.deep = E.deep → E.deep < 4 → FitS (E.deep + 1) ns (blockM (stmtM f) ins E' ns) := fun ins E' ns hf' hE' hd' hlt => block_fit (hg ins) (hgd ins) (fun E'' ns'' a b c => by have := stmt_fit f ins E'' ns'' a b (by omega); rwa [c] at this) E' ns hf' hE' hd'
    have hif : ∀ ins (e : Tree × List UInt8), E.deep < 4 → FitE 1 r e → FitS E.deep (x :: r) (ifM (stmtM f) ins E e) := fun ins e hlt he => by
      have b1 := hblk ins E e.2 hf hE rfl hlt
      have b2 := hblk ins E (blockM (stmtM f) ins E e.2).2.2 hf hE rfl hlt
      have a := he.1
      have c1 := b1.1
      have c2 := b2.1
      refine ⟨by simp only [ifM, List.length_cons]; omega, fun N => ?_⟩
      have := len_if N E.deep e.1 _ _ _ _ _ he.2 b1.2 b2.2
      simp only [ifM, sumT_one, List.length_cons]; omega
    unfold stmtB
    simp only [List.tail_cons]
    refine fitS_ite (fun _ => fitS_one hd (.inl rfl) hnx hsec) fun _ => fitS_ite (fun _ => fitS_one hd (.inl rfl) hnx hpub) fun _ => fitS_ite (fun _ => fitS_one hd (.inr (.inl rfl)) (hdg _) hsec) fun _ => fitS_ite (fun _ => fitS_store hd (hdg _) hpl (sec_fit hE 6 0 _)) fun _ => fitS_ite (fun c => hif true _ c.2 hsec) fun _ => fitS_ite (fun c => ?_) fun _ => fitS_ite (fun _ => fitS_one hd (.inr (.inl rfl)) (hdg _) hsec) fun _ => fitS_ite (fun c => hif false _ c.2 hpub) fun _ => fitS_ite (fun _ => fitS_store hd (hdg _) hpl (pub_fit hE 6 0 _)) fun _ => fitS_ite (fun c => ?_) fun _ => fitS_ite (fun _ => fitS_one hd (.inr (.inr (.inl rfl))) (by simp [countS, ByteArray.size]) hpub) fun _ => fitS_ite (fun _ => fitS_one hd (.inr (.inr (.inr rfl))) (by simp [ByteArray.size]) hpub) fun _ => fitS_ite (fun _ => ?_) fun _ => fitS_one hd (.inr (.inl rfl)) (hdg _) hpub
    · have h5 := nxV_lt r 5 (by omega)
      have b1 := hblk inside (enterE E false ((1 + nxV r 5 : Nat) : Int)) r.tail (enter_full hf _ _) (good_enter hE _ _) rfl c.2
      have c1 := b1.1
      have hrt : r.tail.length ≤ r.length := by simp
      refine ⟨by simp only [forM, List.length_cons]; omega, fun N => ?_⟩
      have := len_for N E.deep (nameX E) (1 + nxV r 5) _ _ (by omega) b1.2
      have hn4 : (nameX E).size = 4 := by simp [nameX, ByteArray.size]
      simp only [forM, sumT_one, List.length_cons]; omega
    · have h4 := nxV_lt r 4 (by omega)
      have L := loop_fit (d := E.deep) (hg false) (hgd false) (fun E'' ns'' a b c => by have := stmt_fit f false E'' ns'' a b (by omega); rwa [c] at this) (nxV r 4 + 1) { E with held := true } r.tail hf hE rfl
      generalize hLp : loopM (stmtM f) false (nxV r 4 + 1) { E with held := true } r.tail = LR at L ⊢
      have hgL : goodE LR.2.1 := by rw [← hLp]; exact loop_good (hgd false) _ _ _ hE
      have he := pub_fit hgL 6 1 LR.2.2
      have a := L.1
      have b := he.1
      have hrt : r.tail.length ≤ r.length := by simp
      refine ⟨by simp only [heldM, List.length_cons]; omega, fun N => ?_⟩
      have t1 := len_line N E.deep 5 doorS (.inl rfl)
      have t2 := len_line N E.deep 6 doorS (.inr (.inl rfl))
      have t3 := len_value N E.deep 1 sharedS _ _ (.inr (.inl rfl)) he.2
      have t4 := L.2 N
      have d1 : doorS.size = 4 := by simp [doorS, ByteArray.size]
      have d2 : sharedS.size = 6 := by simp [sharedS, ByteArray.size]
      have hr5 : r.tail.length + 1 = r.length ∨ (r.length = 0 ∧ nxV r 4 = 0) := by
        cases r with
        | nil => exact .inr ⟨rfl, rfl⟩
        | cons y q => exact .inl (by simp)
      have e2 : sumT N E.deep [stmE 1 sharedS [(pubM LR.2.1 6 1 LR.2.2).1], stmE 6 doorS []] = (stext 13 N E.deep (stmE 1 sharedS [(pubM LR.2.1 6 1 LR.2.2).1])).length + (stext 13 N E.deep (stmE 6 doorS [])).length := by simp [sumT, btext]
      simp only [heldM, sumT_append, sumT_one, e2, List.length_cons]
      omega
    · refine ⟨by simp, fun N => ?_⟩
      have := len_line N E.deep 8 ⟨#[]⟩ (.inr (.inr rfl))
      simp only [sumT_one, List.length_cons]
      have e0 : (⟨#[]⟩ : ByteArray).size = 0 := rfl
      omega
end Go.Proofs.YtfginegegaokbaaGreatDoor
