/- How many signs the text of what numbers make has at most: by the numbers that are used. Plain. -/
import Derived.Test.YtfginegegaokbaaGreatDoorHPMade
namespace Go.Proofs.YtfginegegaokbaaGreatDoor.Pr
set_option linter.unusedVariables false
set_option linter.unusedSimpArgs false

def cnt (is : List It) : Nat := (sgs is).length
theorem cnt_append (a b : List It) : cnt (a ++ b) = cnt a + cnt b := by unfold cnt; rw [sgs_append, List.length_append]
theorem cnt_s (s : Sg) (b : List It) : cnt (iS s :: b) = cnt b + 1 := rfl
theorem cnt_g (g : List UInt8) (b : List It) : cnt (iG g :: b) = cnt b := rfl
theorem cnt_nil : cnt [] = 0 := rfl
theorem nt_lit (N v p : Nat) : cnt (eits N (litT v) p) ≤ 1 := by
  cases N with
  | zero => simp [eits, cnt_nil]
  | succ N => rw [eits_0 rfl]; simp [cnt_s, cnt_nil]
theorem nt_name (N p : Nat) (s : ByteArray) : cnt (eits N (nameT s) p) ≤ 1 := by
  cases N with
  | zero => simp [eits, cnt_nil]
  | succ N => rw [eits_1 rfl]; simp [cnt_s, cnt_nil]
theorem nt_cell (N p : Nat) (s : ByteArray) (x : Tree) (X : Nat) (hx : ∀ N p, cnt (eits N x p) ≤ X) : cnt (eits N (cellT s x) p) ≤ 3 + X := by
  cases N with
  | zero => simp [eits, cnt_nil]
  | succ N =>
    rw [eits_2 (a := x) rfl rfl]
    have := hx N 0
    simp only [cnt_append, cnt_s, cnt_nil]; omega
theorem nt_bin (N p : Nat) (o : Int) (x y : Tree) (X Y : Nat) (hx : ∀ N p, cnt (eits N x p) ≤ X) (hy : ∀ N p, cnt (eits N y p) ≤ Y) : cnt (eits N (binT o x y) p) ≤ 3 + X + Y := by
  cases N with
  | zero => simp [eits, cnt_nil]
  | succ N =>
    rw [eits_3 (a := x) (b := y) rfl rfl]
    have h1 := hx N (tightN (binT o x y).op)
    have h2 := hy N (tightN (binT o x y).op + 1)
    split <;> (simp only [ebin, cnt_append, cnt_s, cnt_g, cnt_nil]; omega)
theorem nt_not (N p : Nat) (x : Tree) (X : Nat) (hx : ∀ N p, cnt (eits N x p) ≤ X) : cnt (eits N (notT x) p) ≤ 1 + X := by
  cases N with
  | zero => simp [eits, cnt_nil]
  | succ N =>
    rw [eits_4 (a := x) rfl rfl]
    have := hx N 9
    simp only [cnt_append, cnt_s, cnt_nil]; omega
theorem nt_pick (N p : Nat) (x y z : Tree) (X Y Z : Nat) (hx : ∀ N p, cnt (eits N x p) ≤ X) (hy : ∀ N p, cnt (eits N y p) ≤ Y) (hz : ∀ N p, cnt (eits N z p) ≤ Z) : cnt (eits N (pickT x y z) p) ≤ 5 + X + Y + Z := by
  cases N with
  | zero => simp [eits, cnt_nil]
  | succ N =>
    rw [eits_5 (a := x) (b := y) (c := z) rfl rfl]
    have h1 := hx N 0
    have h2 := hy N 0
    have h3 := hz N 0
    simp only [cnt_append, cnt_s, cnt_g, cnt_nil]; omega

def TkE (A : Nat) (ns : List UInt8) (r : Tree × List UInt8) : Prop := r.2.length ≤ ns.length ∧ ∀ N p, cnt (eits N r.1 p) ≤ A + 7 * (ns.length - r.2.length)
theorem tk_bin {f : Nat → List UInt8 → Tree × List UInt8} (h : ∀ d ns, TkE 1 ns (f d ns)) (deep : Nat) (ns : List UInt8) : (binM f deep ns).2.length ≤ ns.length ∧ ∀ N p, cnt (eits N (binM f deep ns).1 p) ≤ 5 + 7 * (ns.length - (binM f deep ns).2.length) := by
  have h1 := h (deep + 1) ns.tail
  have h2 := h (deep + 1) (f (deep + 1) ns.tail).2
  have hl : ns.tail.length ≤ ns.length := by simp
  unfold binM
  refine ⟨by have := h1.1; have := h2.1; simp only; omega, fun N p => ?_⟩
  have := nt_bin N p (nxV ns 10) _ _ _ _ h1.2 h2.2
  have a1 := h1.1
  have a2 := h2.1
  simp only
  omega
theorem tk_place {E : Env} {f : Nat → List UInt8 → Tree × List UInt8} (h : ∀ d ns, TkE 1 ns (f d ns)) (deep : Nat) (ns : List UInt8) : TkE 5 ns (placeM f E deep ns) := by
  have hl : ns.tail.length ≤ ns.length := by simp
  have hl2 : ns.tail.tail.length ≤ ns.tail.length := by simp
  unfold placeM
  split
  · split
    · next s hs =>
      refine ⟨hl, fun N p => ?_⟩
      have := nt_name N p s
      simp only; omega
    · refine ⟨by simp only; omega, fun N p => ?_⟩
      have := nt_lit N (nxV ns.tail 4) p
      simp only; omega
  · split
    · have h1 := h (deep + 1) ns.tail
      have a1 := h1.1
      refine ⟨by simp only; omega, fun N p => ?_⟩
      have := nt_bin N p 3 _ (litT 3) _ _ h1.2 (fun N p => nt_lit N 3 p)
      simp only; omega
    · refine ⟨by simp only; omega, fun N p => ?_⟩
      have := nt_lit N (nxV ns.tail 4) p
      simp only; omega
theorem tk_lit (ns : List UInt8) : TkE 1 ns (litT (nxV ns.tail 256), ns.tail.tail) := by
  refine ⟨by simp; omega, fun N p => ?_⟩
  have := nt_lit N (nxV ns.tail 256) p
  simp only; omega
theorem tk_name (x : UInt8) (r r' : List UInt8) (s : ByteArray) (hr : r'.length ≤ r.length) : TkE 1 (x :: r) (nameT s, r') := by
  refine ⟨by simp; omega, fun N p => ?_⟩
  have := nt_name N p s
  simp only [List.length_cons]; omega
theorem tk_cell {E : Env} {f : Nat → List UInt8 → Tree × List UInt8} (h : ∀ d ns, TkE 1 ns (f d ns)) (deep : Nat) (x : UInt8) (r : List UInt8) (c : UInt8) : TkE 1 (x :: r) (cellT (dig c E) (placeM f E deep r).1, (placeM f E deep r).2) := by
  have h1 := tk_place (E := E) h deep r
  have a1 := h1.1
  refine ⟨by simp only [List.length_cons]; omega, fun N p => ?_⟩
  have := nt_cell N p (dig c E) _ _ h1.2
  simp only [List.length_cons]; omega
theorem tk_more {x : UInt8} {r : List UInt8} {t : Tree × List UInt8} (a : t.2.length ≤ r.length) (h : ∀ N p, cnt (eits N t.1 p) ≤ 5 + 7 * (r.length - t.2.length)) : TkE 1 (x :: r) t := by
  refine ⟨by simp only [List.length_cons]; omega, fun N p => ?_⟩
  have := h N p
  simp only [List.length_cons]; omega
theorem tk_ite {A : Nat} {ns : List UInt8} {c : Prop} {i : Decidable c} {x y : Tree × List UInt8} (h1 : c → TkE A ns x) (h2 : ¬ c → TkE A ns y) : TkE A ns (@ite _ c i x y) := by
  by_cases h : c
  · rw [if_pos h]; exact h1 h
  · rw [if_neg h]; exact h2 h
theorem pub_tk {E : Env} : ∀ (f deep : Nat) (ns : List UInt8), TkE 1 ns (pubM E f deep ns)
  | 0, deep, ns => tk_lit ns
  | f + 1, deep, [] => by
    have : pubM E (f + 1) deep [] = (litT (nxV ([] : List UInt8).tail 256), ([] : List UInt8).tail.tail) := by simp [pubM, nxV]
    rw [this]; exact tk_lit []
  | f + 1, deep, x :: r => by
    have ih := pub_tk (E := E) f
    simp only [pubM, List.tail_cons]
    split
    · exact tk_lit (x :: r)
    · split
      · exact tk_name x r r _ (Nat.le_refl _)
      · split
        · exact tk_name x r r _ (Nat.le_refl _)
        · split
          · exact tk_cell ih deep x r 113
          · split
            · next hl =>
              refine tk_ite (fun _ => ?_) (fun _ => ?_)
              · exact tk_name x r r.tail _ (by simp)
              · have := tk_bin ih deep r.tail
                have hl : r.tail.length ≤ r.length := by simp
                exact tk_more (by omega) (fun N p => by have := this.2 N p; omega)
            · split
              · have h1 := ih (deep + 1) r
                refine tk_more h1.1 (fun N p => ?_)
                have := nt_not N p _ _ h1.2
                simp only; omega
              · have := tk_bin ih deep r
                exact tk_more this.1 this.2
theorem tk_tail {x : UInt8} {r : List UInt8} {t : Tree × List UInt8} (h : TkE 1 r t) : TkE 1 (x :: r) t := tk_more h.1 (fun N p => by have := h.2 N p; omega)
theorem sec_tk {E : Env} : ∀ (f deep : Nat) (ns : List UInt8), TkE 1 ns (secM E f deep ns)
  | 0, deep, [] => pub_tk 0 _ []
  | 0, deep, x :: r => tk_tail (pub_tk 0 _ r)
  | f + 1, deep, [] => by
    have : secM E (f + 1) deep [] = pubM E f (deep + 1) [] := by simp [secM, nxV]
    rw [this]; exact pub_tk _ _ _
  | f + 1, deep, x :: r => by
    have ih := sec_tk (E := E) f
    have ihp := pub_tk (E := E) f
    simp only [secM, List.tail_cons]
    split
    · exact tk_tail (ihp _ _)
    · split
      · exact tk_name x r r _ (Nat.le_refl _)
      · split
        · exact tk_cell ihp deep x r 116
        · split
          · exact tk_name x r r _ (Nat.le_refl _)
          · split
            · exact tk_name x r r.tail _ (by simp)
            · split
              · have h1 := ih (deep + 1) r
                have h2 := ih (deep + 1) (secM E f (deep + 1) r).2
                have h3 := ih (deep + 1) (secM E f (deep + 1) (secM E f (deep + 1) r).2).2
                have a1 := h1.1
                have a2 := h2.1
                have a3 := h3.1
                refine ⟨by simp only [List.length_cons]; omega, fun N p => ?_⟩
                have := nt_pick N p _ _ _ _ _ _ h1.2 h2.2 h3.2
                simp only [List.length_cons]; omega
              · have := tk_bin ih deep r
                exact tk_more this.1 this.2

/-! statements -/
def sumK (N d : Nat) (ss : List Stm) : Nat := cnt (bits 13 N d ss)
theorem bits_append (m n d : Nat) (a b : List Stm) : bits m n d (a ++ b) = bits m n d a ++ bits m n d b := by simp [bits]
theorem sumK_append (N d : Nat) (a b : List Stm) : sumK N d (a ++ b) = sumK N d a + sumK N d b := by unfold sumK; rw [bits_append, cnt_append]
theorem sumK_one (N d : Nat) (s : Stm) : sumK N d [s] = cnt (sits 13 N d s) := by simp [sumK, bits]
theorem sumK_nil (N d : Nat) : sumK N d [] = 0 := rfl
def TkS (ns : List UInt8) (r : Mk) : Prop := r.2.2.length ≤ ns.length ∧ ∀ N d, sumK N d r.1 ≤ 5 + 20 * (ns.length - r.2.2.length)
theorem eit0 {e : Tree} {es : List Tree} : eit 13 (e :: es) 0 = eits 13 e 0 := rfl
theorem eit1 {i e : Tree} : eit 13 [i, e] 1 = eits 13 e 0 := rfl
theorem cnt_ends : cnt ends = 1 := rfl
theorem nt_value (N d : Nat) (k : Int) (s : ByteArray) (e : Tree) (X : Nat) (hk : k = 0 ∨ k = 1 ∨ k = 7 ∨ k = 9) (he : ∀ N p, cnt (eits N e p) ≤ X) : cnt (sits 13 N d (stmE k s [e])) ≤ 4 + X := by
  cases N with
  | zero => simp [sits, cnt_nil]
  | succ N =>
    have h0 := he 13 0
    rcases hk with rfl | rfl | rfl | rfl
    · rw [sits_0 rfl]; simp only [stmE, eit0, cnt_append, cnt_s, cnt_g, cnt_nil, cnt_ends]; omega
    · rw [sits_1 rfl]; simp only [stmE, eit0, cnt_append, cnt_s, cnt_g, cnt_nil, cnt_ends]; omega
    · rw [sits_7 rfl]; simp only [stmE, eit0, cnt_append, cnt_s, cnt_g, cnt_nil, cnt_ends]; omega
    · rw [sits_9 rfl]; simp only [stmE, eit0, cnt_append, cnt_s, cnt_g, cnt_nil, cnt_ends]; omega
theorem nt_store (N d : Nat) (s : ByteArray) (i e : Tree) (X Y : Nat) (hi : ∀ N p, cnt (eits N i p) ≤ X) (he : ∀ N p, cnt (eits N e p) ≤ Y) : cnt (sits 13 N d (stmE 2 s [i, e])) ≤ 5 + X + Y := by
  cases N with
  | zero => simp [sits, cnt_nil]
  | succ N =>
    have h0 := hi 13 0
    have h1 := he 13 0
    rw [sits_2 rfl]; simp only [stmE, eit0, eit1, cnt_append, cnt_s, cnt_g, cnt_nil, cnt_ends]; omega
theorem nt_line (N d : Nat) (k : Int) (s : ByteArray) (hk : k = 5 ∨ k = 6 ∨ k = 8) : cnt (sits 13 N d (stmE k s [])) ≤ 3 := by
  cases N with
  | zero => simp [sits, cnt_nil]
  | succ N =>
    rcases hk with rfl | rfl | rfl
    · rw [sits_5 rfl]; simp only [stmE, cnt_append, cnt_s, cnt_g, cnt_nil, cnt_ends]; omega
    · rw [sits_6 rfl]; simp only [stmE, cnt_append, cnt_s, cnt_g, cnt_nil, cnt_ends]; omega
    · rw [sits_8 rfl]; simp only [stmE, cnt_append, cnt_s, cnt_g, cnt_nil, cnt_ends]; omega
theorem nt_if (N d : Nat) (e : Tree) (b1 b2 : List Stm) (X Y Z : Nat) (he : ∀ N p, cnt (eits N e p) ≤ X) (h1 : ∀ N d, sumK N d b1 ≤ Y) (h2 : ∀ N d, sumK N d b2 ≤ Z) : cnt (sits 13 N d ⟨3, ⟨#[]⟩, [e], 0, b1, b2, 0⟩) ≤ 8 + X + Y + Z := by
  cases N with
  | zero => simp [sits, cnt_nil]
  | succ N =>
    have h0 := he 13 0
    have a1 := h1 N (d + 1)
    have a2 := h2 N (d + 1)
    unfold sumK at a1 a2
    rw [sits_3 rfl]
    split <;> (simp only [eit0, cnt_append, cnt_s, cnt_g, cnt_nil]; omega)
theorem nt_for (N d : Nat) (s : ByteArray) (c : Int) (b : List Stm) (Y : Nat) (h1 : ∀ N d, sumK N d b ≤ Y) : cnt (sits 13 N d ⟨4, s, [], c, b, [], 0⟩) ≤ 5 + Y := by
  cases N with
  | zero => simp [sits, cnt_nil]
  | succ N =>
    have a1 := h1 N (d + 1)
    unfold sumK at a1
    rw [sits_4 rfl]
    simp only [cnt_append, cnt_s, cnt_g, cnt_nil]; omega
theorem tkS_ite {ns : List UInt8} {c : Prop} [Decidable c] {x y : Mk} (h1 : c → TkS ns x) (h2 : ¬ c → TkS ns y) : TkS ns (if c then x else y) := by
  by_cases h : c
  · rw [if_pos h]; exact h1 h
  · rw [if_neg h]; exact h2 h
theorem tkS_one {x : UInt8} {r : List UInt8} {k : Int} {s : ByteArray} {E : Env} {e : Tree × List UInt8} (hk : k = 0 ∨ k = 1 ∨ k = 7 ∨ k = 9) (h : TkE 1 r e) : TkS (x :: r) (oneM k s E e) := by
  have a := h.1
  refine ⟨by simp only [oneM, List.length_cons]; omega, fun N d => ?_⟩
  have := nt_value N d k s e.1 _ hk h.2
  simp only [oneM, sumK_one, List.length_cons]; omega
theorem tkS_store {x : UInt8} {r : List UInt8} {s : ByteArray} {E : Env} {i : Tree × List UInt8} {e : Tree × List UInt8} (hi : TkE 5 r i) (h : TkE 1 i.2 e) : TkS (x :: r) (storeM s E i.1 e) := by
  have a := h.1
  have b := hi.1
  refine ⟨by simp only [storeM, List.length_cons]; omega, fun N d => ?_⟩
  have := nt_store N d s i.1 e.1 _ _ hi.2 h.2
  simp only [storeM, sumK_one, List.length_cons]; omega
theorem loop_tk {st : Bool → Env → List UInt8 → Mk} {inside : Bool} (h : ∀ E ns, TkS ns (st inside E ns)) : ∀ (j : Nat) (E : Env) (ns : List UInt8), (loopM st inside j E ns).2.2.length ≤ ns.length ∧ ∀ N d, sumK N d (loopM st inside j E ns).1 ≤ 5 * j + 20 * (ns.length - (loopM st inside j E ns).2.2.length)
  | 0, E, ns => ⟨Nat.le_refl _, fun N d => by simp [loopM, sumK_nil]⟩
  | j + 1, E, ns => by
    have ih := loop_tk h j E ns
    have k := h (loopM st inside j E ns).2.1 (loopM st inside j E ns).2.2
    have a := ih.1
    have b := k.1
    refine ⟨by show (st inside (loopM st inside j E ns).2.1 (loopM st inside j E ns).2.2).2.2.length ≤ _; omega, fun N d => ?_⟩
    show sumK N d ((loopM st inside j E ns).1 ++ (st inside (loopM st inside j E ns).2.1 (loopM st inside j E ns).2.2).1) ≤ 5 * (j + 1) + 20 * (ns.length - (st inside (loopM st inside j E ns).2.1 (loopM st inside j E ns).2.2).2.2.length)
    rw [sumK_append]
    have h1 := ih.2 N d
    have h2 := k.2 N d
    omega
theorem block_tk {st : Bool → Env → List UInt8 → Mk} {inside : Bool} (h : ∀ E ns, TkS ns (st inside E ns)) (E : Env) (ns : List UInt8) : TkS ns (blockM st inside E ns) := by
  have L := loop_tk h (nxV ns 5 + 1) { E with deep := E.deep + 1 } ns.tail
  show (loopM st inside (nxV ns 5 + 1) { E with deep := E.deep + 1 } ns.tail).2.2.length ≤ ns.length ∧ ∀ N d, sumK N d (loopM st inside (nxV ns 5 + 1) { E with deep := E.deep + 1 } ns.tail).1 ≤ 5 + 20 * (ns.length - (loopM st inside (nxV ns 5 + 1) { E with deep := E.deep + 1 } ns.tail).2.2.length)
  have h5 := nxV_lt ns 5 (by omega)
  have a := L.1
  cases ns with
  | nil => exact ⟨by simpa using a, fun N d => by have := L.2 N d; simp only [nxV] at this ⊢; simp only [List.tail_nil, List.length_nil] at this ⊢; omega⟩
  | cons x r =>
    simp only [List.tail_cons, List.length_cons] at a ⊢
    exact ⟨by omega, fun N d => by have := L.2 N d; simp only [List.tail_cons] at this; omega⟩
theorem stmt_tk : ∀ (f : Nat) (inside : Bool) (E : Env) (ns : List UInt8), TkS ns (stmtM f inside E ns)
  | 0, inside, E, ns => ⟨Nat.le_refl _, fun N d => by show sumK N d [] ≤ _; rw [sumK_nil]; omega⟩
  | f + 1, inside, E, [] => by
    show TkS [] (stmtB (stmtM f) inside E [])
    have e1 : ∀ k s E', (k = 0 ∨ k = 1) → ∀ e : Tree × List UInt8, TkE 1 [] e → TkS [] (oneM k s E' e) := fun k s E' hk e he => by
      have a := he.1
      refine ⟨a, fun N d => ?_⟩
      have := nt_value N d k s e.1 _ (by omega) he.2
      simp only [oneM, sumK_one, List.length_nil] at a this ⊢; omega
    have n0 : ∀ k, nxV ([] : List UInt8) k = 0 := fun k => rfl
    unfold stmtB
    simp only [n0]
    refine tkS_ite (fun _ => e1 0 _ _ (.inl rfl) _ (sec_tk 6 0 [])) fun _ => ?_
    rw [if_neg (by omega), if_neg (by omega), if_neg (by omega), if_neg (by omega), if_neg (by omega)]
    refine tkS_ite (fun _ => e1 1 _ _ (.inr rfl) _ (sec_tk 6 0 [])) fun _ => ?_
    rw [if_neg (by omega), if_neg (by omega), if_neg (by omega), if_neg (by omega), if_neg (by omega), if_neg (by omega)]
    exact e1 1 _ _ (.inr rfl) _ (pub_tk 6 0 [])
  | f + 1, inside, E, x :: r => by
    show TkS (x :: r) (stmtB (stmtM f) inside E (x :: r))
    have hsec : ∀ ns, TkE 1 ns (secM E 6 0 ns) := fun ns => sec_tk 6 0 ns
    have hpub : ∀ ns, TkE 1 ns (pubM E 6 0 ns) := fun ns => pub_tk 6 0 ns
    have hpl := tk_place (E := E) (fun d ns => pub_tk (E := E) 5 d ns) 0 r
    have hblk : ∀ ins (E' : Env) (ns : List UInt8), TkS ns (blockM (stmtM f) ins E' ns) := fun ins E' ns => block_tk (fun E'' ns'' => stmt_tk f ins E'' ns'') E' ns
    have hif : ∀ ins (e : Tree × List UInt8), TkE 1 r e → TkS (x :: r) (ifM (stmtM f) ins E e) := fun ins e he => by
      have b1 := hblk ins E e.2
      have b2 := hblk ins E (blockM (stmtM f) ins E e.2).2.2
      have a := he.1
      have c1 := b1.1
      have c2 := b2.1
      refine ⟨by simp only [ifM, List.length_cons]; omega, fun N d => ?_⟩
      have := nt_if N d e.1 _ _ _ _ _ he.2 b1.2 b2.2
      simp only [ifM, sumK_one, List.length_cons]; omega
    unfold stmtB
    simp only [List.tail_cons]
    refine tkS_ite (fun _ => tkS_one (.inl rfl) (hsec r)) fun _ => tkS_ite (fun _ => tkS_one (.inl rfl) (hpub r)) fun _ => tkS_ite (fun _ => tkS_one (.inr (.inl rfl)) (hsec r)) fun _ => tkS_ite (fun _ => tkS_store hpl (hsec _)) fun _ => tkS_ite (fun c => hif true _ (hsec r)) fun _ => tkS_ite (fun c => ?_) fun _ => tkS_ite (fun _ => tkS_one (.inr (.inl rfl)) (hsec r)) fun _ => tkS_ite (fun c => hif false _ (hpub r)) fun _ => tkS_ite (fun _ => tkS_store hpl (hpub _)) fun _ => tkS_ite (fun c => ?_) fun _ => tkS_ite (fun _ => tkS_one (.inr (.inr (.inl rfl))) (hpub r)) fun _ => tkS_ite (fun _ => tkS_one (.inr (.inr (.inr rfl))) (hpub r)) fun _ => tkS_ite (fun _ => ?_) fun _ => tkS_one (.inr (.inl rfl)) (hpub r)
    · have b1 := hblk inside (enterE E false ((1 + nxV r 5 : Nat) : Int)) r.tail
      have c1 := b1.1
      have hrt : r.tail.length ≤ r.length := by simp
      refine ⟨by simp only [forM, List.length_cons]; omega, fun N d => ?_⟩
      have := nt_for N d (nameX E) ((1 + nxV r 5 : Nat) : Int) _ _ b1.2
      simp only [forM, sumK_one, List.length_cons]; omega
    · have h4 := nxV_lt r 4 (by omega)
      have L := loop_tk (st := stmtM f) (inside := false) (fun E'' ns'' => stmt_tk f false E'' ns'') (nxV r 4 + 1) { E with held := true } r.tail
      generalize hLp : loopM (stmtM f) false (nxV r 4 + 1) { E with held := true } r.tail = LR at L ⊢
      have he := pub_tk (E := LR.2.1) 6 1 LR.2.2
      have a := L.1
      have b := he.1
      have hrt : r.tail.length ≤ r.length := by simp
      refine ⟨by simp only [heldM, List.length_cons]; omega, fun N d => ?_⟩
      have t1 := nt_line N d 5 doorS (.inl rfl)
      have t2 := nt_line N d 6 doorS (.inr (.inl rfl))
      have t3 := nt_value N d 1 sharedS _ _ (.inr (.inl rfl)) he.2
      have t4 := L.2 N d
      have hr5 : r.tail.length + 1 = r.length ∨ (r.length = 0 ∧ nxV r 4 = 0) := by
        cases r with
        | nil => exact .inr ⟨rfl, rfl⟩
        | cons y q => exact .inl (by simp)
      have e2 : sumK N d [stmE 1 sharedS [(pubM LR.2.1 6 1 LR.2.2).1], stmE 6 doorS []] = cnt (sits 13 N d (stmE 1 sharedS [(pubM LR.2.1 6 1 LR.2.2).1])) + cnt (sits 13 N d (stmE 6 doorS [])) := by
        rw [show [stmE 1 sharedS [(pubM LR.2.1 6 1 LR.2.2).1], stmE 6 doorS []] = [stmE 1 sharedS [(pubM LR.2.1 6 1 LR.2.2).1]] ++ [stmE 6 doorS []] from rfl, sumK_append, sumK_one, sumK_one]
      simp only [heldM, sumK_append, sumK_one, e2, List.length_cons]
      omega
    · refine ⟨by simp, fun N d => ?_⟩
      have := nt_line N d 8 ⟨#[]⟩ (.inr (.inr rfl))
      simp only [sumK_one, List.length_cons]
      omega
theorem threads_tk : ∀ (k : Nat) (ns : List UInt8), (threadsM k ns).2.2.length ≤ ns.length ∧ ∀ N, cnt ((threadsM k ns).2.1.map (tits 13 N)).flatten ≤ 8 * k + 20 * (ns.length - (threadsM k ns).2.2.length)
  | 0, ns => ⟨Nat.le_refl _, fun N => by simp [threadsM, cnt_nil]⟩
  | k + 1, ns => by
    have ih := threads_tk k ns
    have b := block_tk (fun E ns => stmt_tk 5 false E ns) ⟨[], [], [], false, k, 0⟩ (threadsM k ns).2.2
    have a1 := ih.1
    have a2 := b.1
    refine ⟨by show (blockM (stmtM 5) false ⟨[], [], [], false, k, 0⟩ (threadsM k ns).2.2).2.2.length ≤ _; omega, fun N => ?_⟩
    show cnt (((threadsM k ns).2.1 ++ [(blockM (stmtM 5) false ⟨[], [], [], false, k, 0⟩ (threadsM k ns).2.2).1]).map (tits 13 N)).flatten ≤ 8 * (k + 1) + 20 * (ns.length - (blockM (stmtM 5) false ⟨[], [], [], false, k, 0⟩ (threadsM k ns).2.2).2.2.length)
    have i1 := ih.2 N
    have i2 := b.2 N 1
    simp only [List.map_append, List.flatten_append, cnt_append, List.map_cons, List.map_nil, List.flatten_cons, List.flatten_nil, List.append_nil]
    have e : cnt (tits 13 N (blockM (stmtM 5) false ⟨[], [], [], false, k, 0⟩ (threadsM k ns).2.2).1) = 3 + sumK N 1 (blockM (stmtM 5) false ⟨[], [], [], false, k, 0⟩ (threadsM k ns).2.2).1 := by
      simp only [tits, cnt_append, cnt_s, cnt_g, cnt_nil, sumK]; omega
    rw [e]
    omega
theorem decl_tk (d : Dcl) : cnt (dits d) ≤ 8 := by
  unfold dits
  split
  · simp only [cnt_append, cnt_s, cnt_g, cnt_nil, cnt_ends]; omega
  · unfold sizeI byI
    split <;> split <;> (simp only [cnt_append, cnt_s, cnt_g, cnt_nil, cnt_ends]; omega)
theorem decls_tk : ∀ (ds : List Dcl), cnt (ds.map dits).flatten ≤ 8 * ds.length
  | [] => by simp [cnt_nil]
  | d :: ds => by
    have h1 := decl_tk d
    have h2 := decls_tk ds
    simp only [List.map_cons, List.flatten_cons, cnt_append, List.length_cons]; omega
theorem made_toks (N : Nat) (ns : List UInt8) (h : ns.length ≤ 300) : (sgs (pits 13 N (makeM ns))).length ≤ 6200 := by
  have h3 := nxV_lt ns 3 (by omega)
  have a := threads_tk (1 + nxV ns 3) ns.tail
  have b := decls_tk (makeM ns).decls
  have hl := made_lens (1 + nxV ns 3) ns.tail
  have e1 : (makeM ns).decls.length = 4 + 4 * (1 + nxV ns 3) := hl.1
  have c := a.2 N
  have ht : ns.tail.length ≤ ns.length := by simp
  show cnt (pits 13 N (makeM ns)) ≤ 6200
  unfold pits
  rw [cnt_append]
  have e2 : (makeM ns).threads = (threadsM (1 + nxV ns 3) ns.tail).2.1 := rfl
  rw [e2]
  omega
end Go.Proofs.YtfginegegaokbaaGreatDoor.Pr
