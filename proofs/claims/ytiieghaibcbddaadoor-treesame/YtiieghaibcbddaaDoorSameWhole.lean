/- Same of two programs in memory, and what writing a place or a name into one of them makes of it. Conditions: none. -/
import Derived.Test.YtiieghaibcbddaaDoorMakeKeep
import Derived.Test.YtiieghaibcbddaaDoorTextWhole
import Derived.Laws.StructEq
import Derived.Test.YtiieghaibcbddaaDoorMakeLines
import Derived.Test.YtiieghaibcbddaaDoorMakeAll
/- What tree.sameExpr, and slices.EqualFunc over expressions, answer, when they are called. Conditions: both lie in memory xs their plain data say. -/
namespace Go.Proofs.YtiieghaibcbddaaDoor
open Go.ChangeShapes Go.WideShapes Go.ChangeAt Go.RowKit
set_option linter.unusedVariables false
set_option linter.unusedSimpArgs false

/-- As long, and the same one by one. -/
def listEq {α : Type} (f : α → α → Bool) : List α → List α → Bool
  | [], [] => true
  | a :: xs, b :: ys => f a b && listEq f xs ys
  | _, _ => false
theorem listEq_len {α : Type} {f : α → α → Bool} : ∀ {a b : List α}, listEq f a b = true → a.length = b.length
  | [], [], _ => rfl
  | a :: xs, b :: ys, h => by
    simp only [listEq, Bool.and_eq_true] at h
    simp [listEq_len h.2]
  | [], b :: ys, h => by simp [listEq] at h
  | a :: xs, [], h => by simp [listEq] at h
theorem listEq_true {α : Type} {f : α → α → Bool} : ∀ {a b : List α}, a.length = b.length → (∀ (i : Nat) (x y : α), a[i]? = some x → b[i]? = some y → f x y = true) → listEq f a b = true
  | [], [], _, _ => rfl
  | a :: xs, b :: ys, h, hf => by
    simp only [listEq, Bool.and_eq_true]
    exact ⟨hf 0 a b rfl rfl, listEq_true (by simpa using h) (fun i x y hx hy => hf (i + 1) x y (by simpa using hx) (by simpa using hy))⟩
  | [], b :: ys, h, _ => by simp at h
  | a :: xs, [], h, _ => by simp at h
theorem listEq_at {α : Type} {f : α → α → Bool} : ∀ {a b : List α}, listEq f a b = true → ∀ (i : Nat) (x y : α), a[i]? = some x → b[i]? = some y → f x y = true
  | [], [], _, i, x, y, hx, _ => by simp at hx
  | a :: xs, b :: ys, h, i, x, y, hx, hy => by
    simp only [listEq, Bool.and_eq_true] at h
    cases i with
    | zero => simp at hx hy; subst hx hy; exact h.1
    | succ i => exact listEq_at h.2 i x y (by simpa using hx) (by simpa using hy)
  | [], b :: ys, h, i, x, y, hx, _ => by simp at hx
  | a :: xs, [], h, i, x, y, _, hy => by simp at hy
theorem listEq_false {α : Type} {f : α → α → Bool} {a b : List α} {i : Nat} {x y : α} (hx : a[i]? = some x) (hy : b[i]? = some y) (h : f x y = false) : listEq f a b = false := by
  cases hl : listEq f a b with
  | false => rfl
  | true => have := listEq_at hl i x y hx hy; rw [h] at this; cases this
theorem listEq_ne {α : Type} {f : α → α → Bool} {a b : List α} (h : a.length ≠ b.length) : listEq f a b = false := by
  cases hl : listEq f a b with
  | false => rfl
  | true => exact absurd (listEq_len hl) h
/-- The same expression but for where it stands. -/
def teq : Nat → Tree → Tree → Bool
  | 0, _, _ => false
  | n + 1, s, t => decide (s.kind = t.kind) && decide (s.op = t.op) && decide (s.name = t.name) && decide (s.value = t.value) && listEq (teq n) s.kids t.kids

def ExprEqC (n : Nat) : Prop := ∀ (v v' : Value) (s t : Tree) (w : World), ERep 0 w.heap.size w n v s → ERep 0 w.heap.size w n v' t →
  Calls Tryd.prog 40 #[v, v'] w fun e w' => e = .returned (.bool (teq n s t)) ∧ Below w.heap.size w w'

set_option maxHeartbeats 2000000 in
set_option maxRecDepth 100000 in
theorem eqExprs_of {n : Nat} (ih : ExprEqC n) (kv kv' : Value) (ks ks' : List Tree) (w : World) (hK : Kids 0 w.heap.size w (fun v' t' => ERep 0 w.heap.size w n v' t') kv ks) (hK' : Kids 0 w.heap.size w (fun v' t' => ERep 0 w.heap.size w n v' t') kv' ks') :
    Calls Tryd.prog 39 #[kv, kv', .func (.func 40) #[] #[]] w fun e w' => e = .returned (.bool (listEq (teq n) ks ks')) ∧ Below w.heap.size w w' := by
  have HK := Lib.hid hK
  have HK' := Lib.hid hK'
  obtain ⟨ao, cap, rfl, hl, _⟩ := hK
  obtain ⟨ao', cap', rfl, hl', _⟩ := hK'
  by_cases hne : ks.length = ks'.length
  · have hneI : ¬ (ks.length : Int) ≠ (ks'.length : Int) := by omega
    go_enter Tryd.func39, Tryd.ntmps39
    go_wp2
    go_loopw [17] (fun i wr => ∃ k : Nat, k ≤ ks.length ∧ i = .int .i64 k ∧ Below w.heap.size w wr ∧ ∀ j x y, j < k → ks[j]? = some x → ks'[j]? = some y → teq n x y = true) (fun i _ => ks.length - (intOf i).toNat)
    case atStart => exact ⟨0, Nat.zero_le _, rfl, Below.refl _ _, fun j x y hj => by omega⟩
    case round =>
      obtain ⟨k, hk, rfl, hbr, hall⟩ := hrel
      have hzr := hbr.size
      by_cases hlt : k < ks.length
      · have hlt' : k < ks'.length := by omega
        obtain ⟨x, hx⟩ : ∃ x, ks[k]? = some x := ⟨ks[k], by simp [hlt]⟩
        obtain ⟨y, hy⟩ : ∃ y, ks'[k]? = some y := ⟨ks'[k], by simp [hlt']⟩
        obtain ⟨_, _, e, _, hKr⟩ := HK.out.on hbr
        cases e
        obtain ⟨_, _, e, _, hKr'⟩ := HK'.out.on hbr
        cases e
        obtain ⟨g, off, c0, c1, c2, c3, c4, c5, rfl, _, hg, _, h0, h1, h2, h3, h4, h5, hr⟩ := hKr k x hx
        obtain ⟨g', off', d0, d1, d2, d3, d4, d5, rfl, _, hg', _, i0, i1, i2, i3, i4, i5, hr'⟩ := hKr' k y hy
        have hgr : g < wr.heap.size := by omega
        have hgr' : g' < wr.heap.size := by omega
        have hR := Lib.hid hr
        have hR' := Lib.hid hr'
        cases n with
        | zero => exact hr.elim
        | succ n =>
        obtain ⟨hv1, kvx, hv, kax, kcx, rfl, _, _⟩ := hr
        simp only [Value.agg.injEq, Array.mk.injEq, List.cons.injEq, and_true] at hv
        obtain ⟨rfl, rfl, rfl, rfl, rfl, rfl⟩ := hv
        obtain ⟨hv1', kvy, hv, kay, kcy, rfl, _, _⟩ := hr'
        simp only [Value.agg.injEq, Array.mk.injEq, List.cons.injEq, and_true] at hv
        obtain ⟨rfl, rfl, rfl, rfl, rfl, rfl⟩ := hv
        have P : ∀ o o', Calls Tryd.prog 40 #[.agg #[.int .i64 x.kind, .int .i64 x.op, .string x.name, .int .u64 x.value, .slice kax x.kids.length kcx, .int .i64 x.at_], .agg #[.int .i64 y.kind, .int .i64 y.op, .string y.name, .int .u64 y.value, .slice kay y.kids.length kcy, .int .i64 y.at_]] ((wr.alloc o).alloc o') _ := fun o o' =>
          ih _ _ x y ((wr.alloc o).alloc o') (hR.out.mono (by rw [alloc_size, alloc_size]; omega) (((Below.refl _ _).alloc (by omega) o).alloc (by rw [alloc_size]; omega) o')) (hR'.out.mono (by rw [alloc_size, alloc_size]; omega) (((Below.refl _ _).alloc (by omega) o).alloc (by rw [alloc_size]; omega) o'))
        have HX := Lib.hid (And.intro hx hy)
        clear hKr hKr' hx hy
        by_cases ht : teq (n + 1) x y = true
        · rw [ht] at P
          have HTQ := Lib.hid ht
          clear ht
          go_wp2_with (go_at_call 40; refine (P _ _).mono ?_; rintro e w1 ⟨rfl, hb1⟩)
          go_roundw
          case rel =>
            refine ⟨k + 1, by omega, by go_num, ?_, fun j x' y' hj hx' hy' => ?_⟩
            · exact ((hbr.alloc hzr _).alloc (by rw [alloc_size]; omega) _).trans (hb1.mono (by rw [alloc_size, alloc_size]; omega))
            · by_cases hjk : j = k
              · subst hjk
                rw [HX.out.1] at hx'
                rw [HX.out.2] at hy'
                cases hx'; cases hy'
                exact HTQ.out
              · exact hall j x' y' (by omega) hx' hy'
          case measure => simp [intOf]; omega
        · have htf : teq (n + 1) x y = false := by simpa using ht
          rw [htf] at P
          have HTQ := Lib.hid htf
          clear ht htf
          go_wp2_with (go_at_call 40; refine (P _ _).mono ?_; rintro e w1 ⟨rfl, hb1⟩)
          go_ret
          refine ⟨by rw [listEq_false HX.out.1 HX.out.2 HTQ.out]; rfl, ?_⟩
          exact ((hbr.alloc hzr _).alloc (by rw [alloc_size]; omega) _).trans (hb1.mono (by rw [alloc_size, alloc_size]; omega))
      · obtain rfl : k = ks.length := by omega
        have hle : listEq (teq n) ks ks' = true := listEq_true hne fun i x y hx hy => hall i x y (by
          have := (List.getElem?_eq_some_iff.1 hx).1; omega) hx hy
        have HL := Lib.hid hle
        clear hle
        go_wp2
        go_ret
        exact ⟨by rw [HL.out]; rfl, hbr⟩
  · have hneI : (ks.length : Int) ≠ (ks'.length : Int) := by omega
    have HL := Lib.hid (listEq_ne (f := teq n) hne)
    clear hne
    go_enter Tryd.func39, Tryd.ntmps39
    go_wp2
    go_ret
    exact ⟨by rw [HL.out]; rfl, Below.refl _ _⟩

theorem kids_later {n : Nat} {w w' : World} {kv : Value} {ks : List Tree} (h : Kids 0 w.heap.size w (fun v' t' => ERep 0 w.heap.size w n v' t') kv ks) (hb : Below w.heap.size w w') : Kids 0 w'.heap.size w' (fun v' t' => ERep 0 w'.heap.size w' n v' t') kv ks :=
  h.carry (Nat.le_refl _) hb.size (Same35.of_below hb) fun _ _ hr => hr.mono hb.size hb
theorem teq_succ (n : Nat) (s t : Tree) (a1 a2 : Int) (a3 : ByteArray) (a4 : Nat) (b1 b2 : Int) (b3 : ByteArray) (b4 : Nat) (h1 : s.kind = a1) (h2 : s.op = a2) (h3 : s.name = a3) (h4 : s.value = a4) (k1 : t.kind = b1) (k2 : t.op = b2) (k3 : t.name = b3) (k4 : t.value = b4) :
    teq (n + 1) s t = (decide (a1 = b1) && decide (a2 = b2) && decide (a3 = b3) && decide (a4 = b4) && listEq (teq n) s.kids t.kids) := by
  subst h1 h2 h3 h4 k1 k2 k3 k4; rfl
theorem str_ne' {a b : ByteArray} (h : ¬ a = b) : (a.toList == b.toList) = false := by
  rw [ByteArray.toList_eq, ByteArray.toList_eq, beq_eq_false_iff_ne]
  exact fun e => h (bys_inj e)
set_option maxHeartbeats 2000000 in
set_option maxRecDepth 100000 in
theorem sameExpr_succ {n : Nat} (ih : ExprEqC n) : ExprEqC (n + 1) := fun v v' s t w hE hE' => by
  obtain ⟨hv, kv, rfl, hK⟩ := hE
  obtain ⟨hv', kv', rfl, hK'⟩ := hE'
  have P : ∀ o o', Calls Tryd.prog 39 #[kv, kv', .func (.func 40) #[] #[]] ((w.alloc o).alloc o') fun e w' => e = .returned (.bool (listEq (teq n) s.kids t.kids)) ∧ Below ((w.alloc o).alloc o').heap.size ((w.alloc o).alloc o') w' := fun o o' => by
    have hb : Below w.heap.size w ((w.alloc o).alloc o') := ((Below.refl _ _).alloc (Nat.le_refl _) o).alloc (by rw [alloc_size]; omega) o'
    exact eqExprs_of ih kv kv' s.kids t.kids _ (kids_later hK hb) (kids_later hK' hb)
  obtain ⟨kao, kcap, rfl, _⟩ := hK
  obtain ⟨kao', kcap', rfl, _⟩ := hK'
  obtain ⟨a1, h1⟩ : ∃ a, s.kind = a := ⟨_, rfl⟩
  obtain ⟨a2, h2⟩ : ∃ a, s.op = a := ⟨_, rfl⟩
  obtain ⟨a3, h3⟩ : ∃ a, s.name = a := ⟨_, rfl⟩
  obtain ⟨a4, h4⟩ : ∃ a, s.value = a := ⟨_, rfl⟩
  obtain ⟨b1, k1⟩ : ∃ a, t.kind = a := ⟨_, rfl⟩
  obtain ⟨b2, k2⟩ : ∃ a, t.op = a := ⟨_, rfl⟩
  obtain ⟨b3, k3⟩ : ∃ a, t.name = a := ⟨_, rfl⟩
  obtain ⟨b4, k4⟩ : ∃ a, t.value = a := ⟨_, rfl⟩
  rw [teq_succ n s t a1 a2 a3 a4 b1 b2 b3 b4 h1 h2 h3 h4 k1 k2 k3 k4, h1, h2, h3, h4, k1, k2, k3, k4]
  rw [h4] at hv
  rw [k4] at hv'
  obtain ⟨q, hq⟩ : ∃ q, listEq (teq n) s.kids t.kids = q := ⟨_, rfl⟩
  rw [hq] at P ⊢
  generalize s.at_ = sa
  generalize t.at_ = ta
  generalize s.kids.length = sl at P ⊢
  generalize t.kids.length = tl at P ⊢
  clear h1 h2 h3 h4 k1 k2 k3 k4 hq
  by_cases e1 : a1 = b1
  · subst e1
    by_cases e2 : a2 = b2
    · subst e2
      by_cases e3 : a3 = b3
      · subst e3
        by_cases e4 : a4 = b4
        · subst e4
          go_enter Tryd.func40, Tryd.ntmps40
          go_wp2_with (go_at_call 39; refine (P _ _).mono ?_; rintro e w1 ⟨rfl, hb1⟩)
          go_ret
          refine ⟨by simp, ?_⟩
          exact (((Below.refl _ _).alloc (Nat.le_refl _) _).alloc (by simp) _).trans (hb1.mono (by simp; omega))
        · have e4' : ¬ (a4 : Int) = (b4 : Int) := by omega
          go_enter Tryd.func40, Tryd.ntmps40
          go_wp2
          go_ret
          exact ⟨by simp [e4], ((Below.refl _ _).alloc (Nat.le_refl _) _).alloc (by simp) _⟩
      · have e3' := str_ne' e3
        go_enter Tryd.func40, Tryd.ntmps40
        go_wp2
        go_ret
        exact ⟨by simp [e3], ((Below.refl _ _).alloc (Nat.le_refl _) _).alloc (by simp) _⟩
    · go_enter Tryd.func40, Tryd.ntmps40
      go_wp2
      go_ret
      exact ⟨by simp [e2], ((Below.refl _ _).alloc (Nat.le_refl _) _).alloc (by simp) _⟩
  · go_enter Tryd.func40, Tryd.ntmps40
    go_wp2
    go_ret
    exact ⟨by simp [e1], ((Below.refl _ _).alloc (Nat.le_refl _) _).alloc (by simp) _⟩
theorem sameExpr_all : ∀ n, ExprEqC n
  | 0 => fun v v' s t w h _ => h.elim
  | n + 1 => sameExpr_succ (sameExpr_all n)
theorem eqExprs_all (n : Nat) (kv kv' : Value) (ks ks' : List Tree) (w : World) (hK : Kids 0 w.heap.size w (fun v' t' => ERep 0 w.heap.size w n v' t') kv ks) (hK' : Kids 0 w.heap.size w (fun v' t' => ERep 0 w.heap.size w n v' t') kv' ks') :
    Calls Tryd.prog 39 #[kv, kv', .func (.func 40) #[] #[]] w fun e w' => e = .returned (.bool (listEq (teq n) ks ks')) ∧ Below w.heap.size w w' := eqExprs_of (sameExpr_all n) kv kv' ks ks' w hK hK'
end Go.Proofs.YtiieghaibcbddaaDoor
/- What tree.sameStmt, tree.sameBlock and slices.EqualFunc over statements answer, when they are called. Conditions: both lie in memory as their plain data say. -/
namespace Go.Proofs.YtiieghaibcbddaaDoor
open Go.ChangeShapes Go.WideShapes Go.ChangeAt Go.RowKit
set_option linter.unusedVariables false
set_option linter.unusedSimpArgs false

/-- The same statement but for where it stands. -/
def seqS (m : Nat) : Nat → Stm → Stm → Bool
  | 0, _, _ => false
  | n + 1, s, t => decide (s.kind = t.kind) && decide (s.name = t.name) && decide (s.count = t.count) && listEq (teq m) s.exprs t.exprs && listEq (seqS m n) s.body t.body && listEq (seqS m n) s.els t.els
def StmtEqC (m n : Nat) : Prop := ∀ (v v' : Value) (s t : Stm) (w : World), SRep 0 w.heap.size w m n v s → SRep 0 w.heap.size w m n v' t →
  Calls Tryd.prog 23 #[v, v'] w fun e w' => e = .returned (.bool (seqS m n s t)) ∧ Below w.heap.size w w'
theorem srep_later {m n : Nat} {w w' : World} {v : Value} {s : Stm} (h : SRep 0 w.heap.size w m n v s) (hb : Below w.heap.size w w') : SRep 0 w'.heap.size w' m n v s :=
  h.carry (Nat.le_refl _) hb.size (Same35.of_below hb) (Same45.of_below hb)
theorem stms_later {m n : Nat} {w w' : World} {v : Value} {ss : List Stm} (h : Stms 0 w.heap.size w (fun v' s' => SRep 0 w.heap.size w m n v' s') v ss) (hb : Below w.heap.size w w') : Stms 0 w'.heap.size w' (fun v' s' => SRep 0 w'.heap.size w' m n v' s') v ss :=
  h.carry (Nat.le_refl _) hb.size (Same45.of_below hb) fun _ _ hr => srep_later hr hb

set_option maxHeartbeats 2000000 in
set_option maxRecDepth 100000 in
theorem eqStmts_of {m n : Nat} (ih : StmtEqC m n) (kv kv' : Value) (ks ks' : List Stm) (w : World) (hK : Stms 0 w.heap.size w (fun v' t' => SRep 0 w.heap.size w m n v' t') kv ks) (hK' : Stms 0 w.heap.size w (fun v' t' => SRep 0 w.heap.size w m n v' t') kv' ks') :
    Calls Tryd.prog 22 #[kv, kv', .func (.func 23) #[] #[]] w fun e w' => e = .returned (.bool (listEq (seqS m n) ks ks')) ∧ Below w.heap.size w w' := by
  have HK := Lib.hid hK
  have HK' := Lib.hid hK'
  obtain ⟨ao, cap, rfl, hl, _⟩ := hK
  obtain ⟨ao', cap', rfl, hl', _⟩ := hK'
  by_cases hne : ks.length = ks'.length
  · have hneI : ¬ (ks.length : Int) ≠ (ks'.length : Int) := by omega
    go_enter Tryd.func22, Tryd.ntmps22
    go_wp2
    go_loopw [17] (fun i wr => ∃ k : Nat, k ≤ ks.length ∧ i = .int .i64 k ∧ Below w.heap.size w wr ∧ ∀ j x y, j < k → ks[j]? = some x → ks'[j]? = some y → seqS m n x y = true) (fun i _ => ks.length - (intOf i).toNat)
    case atStart => exact ⟨0, Nat.zero_le _, rfl, Below.refl _ _, fun j x y hj => by omega⟩
    case round =>
      obtain ⟨k, hk, rfl, hbr, hall⟩ := hrel
      have hzr := hbr.size
      by_cases hlt : k < ks.length
      · have hlt' : k < ks'.length := by omega
        obtain ⟨x, hx⟩ : ∃ x, ks[k]? = some x := ⟨ks[k], by simp [hlt]⟩
        obtain ⟨y, hy⟩ : ∃ y, ks'[k]? = some y := ⟨ks'[k], by simp [hlt']⟩
        obtain ⟨_, _, e, _, hKr⟩ := HK.out.on hbr
        cases e
        obtain ⟨_, _, e, _, hKr'⟩ := HK'.out.on hbr
        cases e
        obtain ⟨g, off, c0, c1, c2, c3, c4, c5, c6, rfl, _, hg, _, h0, h1, h2, h3, h4, h5, h6, hr⟩ := hKr k x hx
        obtain ⟨g', off', d0, d1, d2, d3, d4, d5, d6, rfl, _, hg', _, i0, i1, i2, i3, i4, i5, i6, hr'⟩ := hKr' k y hy
        have hgr : g < wr.heap.size := by omega
        have hgr' : g' < wr.heap.size := by omega
        have hR := Lib.hid hr
        have hR' := Lib.hid hr'
        cases n with
        | zero => exact hr.elim
        | succ n =>
        obtain ⟨_, _, _, ea, ec, ba, bc, la, lc, hv, _⟩ := hr
        simp only [Value.agg.injEq, Array.mk.injEq, List.cons.injEq, and_true] at hv
        obtain ⟨rfl, rfl, rfl, rfl, rfl, rfl, rfl⟩ := hv
        obtain ⟨_, _, _, ea', ec', ba', bc', la', lc', hv, _⟩ := hr'
        simp only [Value.agg.injEq, Array.mk.injEq, List.cons.injEq, and_true] at hv
        obtain ⟨rfl, rfl, rfl, rfl, rfl, rfl, rfl⟩ := hv
        have P : ∀ o o', Calls Tryd.prog 23 #[.agg #[.int .i64 x.kind, .string x.name, .slice ea x.exprs.length ec, .int .i64 x.count, .slice ba x.body.length bc, .slice la x.els.length lc, .int .i64 x.at_], .agg #[.int .i64 y.kind, .string y.name, .slice ea' y.exprs.length ec', .int .i64 y.count, .slice ba' y.body.length bc', .slice la' y.els.length lc', .int .i64 y.at_]] ((wr.alloc o).alloc o') _ := fun o o' =>
          ih _ _ x y ((wr.alloc o).alloc o') (hR.out.carry (Nat.le_refl _) (by rw [alloc_size, alloc_size]; omega) (Same35.of_below (((Below.refl _ _).alloc (by omega) o).alloc (by rw [alloc_size]; omega) o')) (Same45.of_below (((Below.refl _ _).alloc (by omega) o).alloc (by rw [alloc_size]; omega) o'))) (hR'.out.carry (Nat.le_refl _) (by rw [alloc_size, alloc_size]; omega) (Same35.of_below (((Below.refl _ _).alloc (by omega) o).alloc (by rw [alloc_size]; omega) o')) (Same45.of_below (((Below.refl _ _).alloc (by omega) o).alloc (by rw [alloc_size]; omega) o')))
        have HX := Lib.hid (And.intro hx hy)
        clear hKr hKr' hx hy
        by_cases ht : seqS m (n + 1) x y = true
        · rw [ht] at P
          have HTQ := Lib.hid ht
          clear ht
          go_wp2_with (go_at_call 23; refine (P _ _).mono ?_; rintro e w1 ⟨rfl, hb1⟩)
          go_roundw
          case rel =>
            refine ⟨k + 1, by omega, by go_num, ?_, fun j x' y' hj hx' hy' => ?_⟩
            · exact ((hbr.alloc hzr _).alloc (by rw [alloc_size]; omega) _).trans (hb1.mono (by rw [alloc_size, alloc_size]; omega))
            · by_cases hjk : j = k
              · subst hjk
                rw [HX.out.1] at hx'
                rw [HX.out.2] at hy'
                cases hx'; cases hy'
                exact HTQ.out
              · exact hall j x' y' (by omega) hx' hy'
          case measure => simp [intOf]; omega
        · have htf : seqS m (n + 1) x y = false := by simpa using ht
          rw [htf] at P
          have HTQ := Lib.hid htf
          clear ht htf
          go_wp2_with (go_at_call 23; refine (P _ _).mono ?_; rintro e w1 ⟨rfl, hb1⟩)
          go_ret
          refine ⟨by rw [listEq_false HX.out.1 HX.out.2 HTQ.out]; rfl, ?_⟩
          exact ((hbr.alloc hzr _).alloc (by rw [alloc_size]; omega) _).trans (hb1.mono (by rw [alloc_size, alloc_size]; omega))
      · obtain rfl : k = ks.length := by omega
        have hle : listEq (seqS m n) ks ks' = true := listEq_true hne fun i x y hx hy => hall i x y (by
          have := (List.getElem?_eq_some_iff.1 hx).1; omega) hx hy
        have HL := Lib.hid hle
        clear hle
        go_wp2
        go_ret
        exact ⟨by rw [HL.out]; rfl, hbr⟩
  · have hneI : (ks.length : Int) ≠ (ks'.length : Int) := by omega
    have HL := Lib.hid (listEq_ne (f := seqS m n) hne)
    clear hne
    go_enter Tryd.func22, Tryd.ntmps22
    go_wp2
    go_ret
    exact ⟨by rw [HL.out]; rfl, Below.refl _ _⟩
theorem sameBlock_of {m n : Nat} (ih : StmtEqC m n) (kv kv' : Value) (ks ks' : List Stm) (w : World) (hK : Stms 0 w.heap.size w (fun v' t' => SRep 0 w.heap.size w m n v' t') kv ks) (hK' : Stms 0 w.heap.size w (fun v' t' => SRep 0 w.heap.size w m n v' t') kv' ks') :
    Calls Tryd.prog 15 #[kv, kv'] w fun e w' => e = .returned (.bool (listEq (seqS m n) ks ks')) ∧ Below w.heap.size w w' := by
  have P := eqStmts_of ih kv kv' ks ks' w hK hK'
  clear hK hK'
  go_enter Tryd.func15, Tryd.ntmps15
  go_wp2_with (go_at_call 22; refine P.mono ?_; rintro e w1 ⟨rfl, hb1⟩)
  go_ret
  exact ⟨rfl, hb1⟩
theorem seqS_succ (m n : Nat) (s t : Stm) (a1 : Int) (a2 : ByteArray) (a3 : Int) (b1 : Int) (b2 : ByteArray) (b3 : Int) (h1 : s.kind = a1) (h2 : s.name = a2) (h3 : s.count = a3) (k1 : t.kind = b1) (k2 : t.name = b2) (k3 : t.count = b3) :
    seqS m (n + 1) s t = (decide (a1 = b1) && decide (a2 = b2) && decide (a3 = b3) && listEq (teq m) s.exprs t.exprs && listEq (seqS m n) s.body t.body && listEq (seqS m n) s.els t.els) := by
  subst h1 h2 h3 k1 k2 k3; rfl
set_option maxHeartbeats 4000000 in
set_option maxRecDepth 100000 in
theorem sameStmt_succ {m n : Nat} (ih : StmtEqC m n) : StmtEqC m (n + 1) := fun v v' s t w hE hE' => by
  obtain ⟨_, _, _, ea, ec, ba, bc, la, lc, rfl, hX, hB, hL⟩ := hE
  obtain ⟨_, _, _, ea', ec', ba', bc', la', lc', rfl, hX', hB', hL'⟩ := hE'
  have PE : ∀ w', Below w.heap.size w w' → Calls Tryd.prog 39 #[.slice ea s.exprs.length ec, .slice ea' t.exprs.length ec', .func (.func 40) #[] #[]] w' fun e w'' => e = .returned (.bool (listEq (teq m) s.exprs t.exprs)) ∧ Below w'.heap.size w' w'' := fun w' hb => eqExprs_all m _ _ _ _ w' (kids_later hX hb) (kids_later hX' hb)
  have PB : ∀ w', Below w.heap.size w w' → Calls Tryd.prog 15 #[.slice ba s.body.length bc, .slice ba' t.body.length bc'] w' fun e w'' => e = .returned (.bool (listEq (seqS m n) s.body t.body)) ∧ Below w'.heap.size w' w'' := fun w' hb => sameBlock_of ih _ _ _ _ w' (stms_later hB hb) (stms_later hB' hb)
  have PL : ∀ w', Below w.heap.size w w' → Calls Tryd.prog 15 #[.slice la s.els.length lc, .slice la' t.els.length lc'] w' fun e w'' => e = .returned (.bool (listEq (seqS m n) s.els t.els)) ∧ Below w'.heap.size w' w'' := fun w' hb => sameBlock_of ih _ _ _ _ w' (stms_later hL hb) (stms_later hL' hb)
  have hbb : ∀ o o', Below w.heap.size w ((w.alloc o).alloc o') := fun o o' => ((Below.refl _ _).alloc (Nat.le_refl _) o).alloc (by rw [alloc_size]; omega) o'
  obtain ⟨a1, h1⟩ : ∃ a, s.kind = a := ⟨_, rfl⟩
  obtain ⟨a2, h2⟩ : ∃ a, s.name = a := ⟨_, rfl⟩
  obtain ⟨a3, h3⟩ : ∃ a, s.count = a := ⟨_, rfl⟩
  obtain ⟨b1, k1⟩ : ∃ a, t.kind = a := ⟨_, rfl⟩
  obtain ⟨b2, k2⟩ : ∃ a, t.name = a := ⟨_, rfl⟩
  obtain ⟨b3, k3⟩ : ∃ a, t.count = a := ⟨_, rfl⟩
  rw [seqS_succ m n s t a1 a2 a3 b1 b2 b3 h1 h2 h3 k1 k2 k3, h1, h2, h3, k1, k2, k3]
  obtain ⟨q1, hq1⟩ : ∃ q, listEq (teq m) s.exprs t.exprs = q := ⟨_, rfl⟩
  obtain ⟨q2, hq2⟩ : ∃ q, listEq (seqS m n) s.body t.body = q := ⟨_, rfl⟩
  obtain ⟨q3, hq3⟩ : ∃ q, listEq (seqS m n) s.els t.els = q := ⟨_, rfl⟩
  rw [hq1] at PE ⊢
  rw [hq2] at PB ⊢
  rw [hq3] at PL ⊢
  clear hX hX' hB hB' hL hL' h1 h2 h3 k1 k2 k3 hq1 hq2 hq3
  generalize s.at_ = sa
  generalize t.at_ = ta
  generalize s.exprs.length = n1 at PE ⊢
  generalize t.exprs.length = n2 at PE ⊢
  generalize s.body.length = n3 at PB ⊢
  generalize t.body.length = n4 at PB ⊢
  generalize s.els.length = n5 at PL ⊢
  generalize t.els.length = n6 at PL ⊢
  by_cases e1 : a1 = b1
  · subst e1
    by_cases e2 : a2 = b2
    · subst e2
      by_cases e3 : a3 = b3
      · subst e3
        cases q1 <;> cases q2 <;> cases q3 <;> (
          go_enter Tryd.func23, Tryd.ntmps23
          go_wp2_with (first
            | (go_at_call 39; refine (PE _ (hbb _ _)).mono ?_; rintro e w1 ⟨rfl, hb1⟩; have hW1 := (hbb _ _).trans (hb1.mono (by simp; omega)); have hc1 := fun b o (h : b < _) => hb1.cell (p := ⟨b, o, none⟩) h; simp only [alloc_size] at hc1)
            | (go_at_call 15; refine (PL _ hW2).mono ?_; rintro e w3 ⟨rfl, hb3⟩; have hW3 := hW2.trans (hb3.mono (by have := hW2.size; omega)))
            | (go_at_call 15; refine (PB _ hW1).mono ?_; rintro e w2 ⟨rfl, hb2⟩; have hz1 := hb1.size; simp only [alloc_size] at hz1; have hz1a : w.heap.size < w1.heap.size := (by omega); have hz1b : w.heap.size + 1 < w1.heap.size := (by omega); have hW2 := hW1.trans (hb2.mono (by have := hW1.size; omega)); have hc2 := fun b o (h : b < _) => hb2.cell (p := ⟨b, o, none⟩) h))
          go_ret
          first
            | exact ⟨by simp, hW3⟩
            | exact ⟨by simp, hW2⟩
            | exact ⟨by simp, hW1⟩)
      · go_enter Tryd.func23, Tryd.ntmps23
        go_wp2
        go_ret
        exact ⟨by simp [e3], hbb _ _⟩
    · have e2' := str_ne' e2
      go_enter Tryd.func23, Tryd.ntmps23
      go_wp2
      go_ret
      exact ⟨by simp [e2], hbb _ _⟩
  · go_enter Tryd.func23, Tryd.ntmps23
    go_wp2
    go_ret
    exact ⟨by simp [e1], hbb _ _⟩
theorem sameStmt_all (m : Nat) : ∀ n, StmtEqC m n
  | 0 => fun v v' s t w h _ => h.elim
  | n + 1 => sameStmt_succ (sameStmt_all m n)
end Go.Proofs.YtiieghaibcbddaaDoor
/- What tree.sameDecl answers, when it is called. Conditions: none. -/
namespace Go.Proofs.YtiieghaibcbddaaDoor
open Go.ChangeShapes Go.WideShapes Go.ChangeAt Go.RowKit
set_option linter.unusedVariables false
set_option linter.unusedSimpArgs false

theorem dclU : Tryd.prog.underlying 31 = some (.struct (Tryd.prog.fieldsOf 31)) := by kernel_rfl
theorem dclH : Tryd.prog.stoodInHeld 31 = false := by kernel_rfl
theorem dclG : Tryd.prog.eqGuardType Tryd.prog.depth 31 = false := by kernel_rfl
theorem dclF : (Tryd.prog.fieldsOf 31).toList.map (fun f => (f.name, f.type, f.offset)) = [("Lock", 4, 0), ("Label", 29, 1), ("Name", 9, 2), ("Size", 3, 3), ("By", 9, 4), ("At", 3, 5)] := by kernel_rfl
/-- The same declaration but for where it stands. -/
def deqD (d e : Dcl) : Bool := decide (d.lock = e.lock) && decide (d.label = e.label) && decide (d.name = e.name) && decide (d.size = e.size) && decide (d.by_ = e.by_)
theorem bq_true (a : ByteArray) : (a.toList == a.toList) = true := by simp
theorem decl_eq (a0 b0 : Bool) (a1 b1 a3 b3 : Int) (a2 b2 a4 b4 : ByteArray) (w : World) : (Op.equalIn 10000 31 (.agg #[.bool a0, .int .i64 a1, .string a2, .int .i64 a3, .string a4, .int .i64 0]) (.agg #[.bool b0, .int .i64 b1, .string b2, .int .i64 b3, .string b4, .int .i64 0])).run Tryd.prog w = .ok (decide (a0 = b0) && decide (a1 = b1) && decide (a2 = b2) && decide (a3 = b3) && decide (a4 = b4)) w := by
  rw [run_equalIn_agg w 9999 31 _ _ dclU dclH]
  have hF := dclF
  generalize (Tryd.prog.fieldsOf 31).toList = fs at hF
  obtain ⟨f0, r0, rfl, h0, hF⟩ := List.map_eq_cons_iff.1 hF
  obtain ⟨f1, r1, rfl, h1, hF⟩ := List.map_eq_cons_iff.1 hF
  obtain ⟨f2, r2, rfl, h2, hF⟩ := List.map_eq_cons_iff.1 hF
  obtain ⟨f3, r3, rfl, h3, hF⟩ := List.map_eq_cons_iff.1 hF
  obtain ⟨f4, r4, rfl, h4, hF⟩ := List.map_eq_cons_iff.1 hF
  obtain ⟨f5, r5, rfl, h5, hF⟩ := List.map_eq_cons_iff.1 hF
  obtain rfl := List.map_eq_nil_iff.1 hF
  simp only [Prod.mk.injEq] at h0 h1 h2 h3 h4 h5
  obtain ⟨n0, t0, o0⟩ := h0
  obtain ⟨n1, t1, o1⟩ := h1
  obtain ⟨n2, t2, o2⟩ := h2
  obtain ⟨n3, t3, o3⟩ := h3
  obtain ⟨n4, t4, o4⟩ := h4
  obtain ⟨n5, t5, o5⟩ := h5
  by_cases e0 : a0 = b0
  · subst e0
    by_cases e1 : a1 = b1
    · subst e1
      by_cases e2 : a2 = b2
      · subst e2
        by_cases e3 : a3 = b3
        · subst e3
          by_cases e4 : a4 = b4
          · subst e4
            simp [Op.eqFields, n0, t0, o0, n1, t1, o1, n2, t2, o2, n3, t3, o3, n4, t4, o4, n5, t5, o5, go_sem]
          · have q := str_ne' e4
            simp [Op.eqFields, n0, t0, o0, n1, t1, o1, n2, t2, o2, n3, t3, o3, n4, t4, o4, n5, t5, o5, go_sem, e4, q]
        · simp [Op.eqFields, n0, t0, o0, n1, t1, o1, n2, t2, o2, n3, t3, o3, n4, t4, o4, n5, t5, o5, go_sem, e3]
      · have q := str_ne' e2
        simp [Op.eqFields, n0, t0, o0, n1, t1, o1, n2, t2, o2, n3, t3, o3, n4, t4, o4, n5, t5, o5, go_sem, e2, q]
    · simp [Op.eqFields, n0, t0, o0, n1, t1, o1, n2, t2, o2, n3, t3, o3, n4, t4, o4, n5, t5, o5, go_sem, e1]
  · simp [Op.eqFields, n0, t0, o0, n1, t1, o1, n2, t2, o2, n3, t3, o3, n4, t4, o4, n5, t5, o5, go_sem, e0]
set_option maxHeartbeats 1000000 in
set_option maxRecDepth 100000 in
theorem sameDecl_any (d e : Dcl) (w : World) :
    Calls Tryd.prog 13 #[.agg #[.bool d.lock, .int .i64 d.label, .string d.name, .int .i64 d.size, .string d.by_, .int .i64 d.at_], .agg #[.bool e.lock, .int .i64 e.label, .string e.name, .int .i64 e.size, .string e.by_, .int .i64 e.at_]] w fun x w' => x = .returned (.bool (deqD d e)) ∧ Below w.heap.size w w' := by
  have hq := fun w => decl_eq d.lock e.lock d.label e.label d.size e.size d.name e.name d.by_ e.by_ w
  have HD : Hid (deqD d e = (decide (d.lock = e.lock) && decide (d.label = e.label) && decide (d.name = e.name) && decide (d.size = e.size) && decide (d.by_ = e.by_))) := rfl
  have hG := dclG
  go_enter Tryd.func13, Tryd.ntmps13
  go_wp2
  go_ret
  refine ⟨by rw [HD.out]; simp, ?_⟩
  repeat (first | exact Below.refl _ _ | refine Below.setCell ?_ (by simp) _ | refine Below.alloc ?_ (by simp) _)
end Go.Proofs.YtiieghaibcbddaaDoor
/- What tree.Same answers, when it is called. Conditions: both programs lie in memory as their plain data say. -/
namespace Go.Proofs.YtiieghaibcbddaaDoor
open Go.ChangeShapes Go.WideShapes Go.ChangeAt Go.RowKit
set_option linter.unusedVariables false
set_option linter.unusedSimpArgs false

set_option maxHeartbeats 2000000 in
set_option maxRecDepth 100000 in
theorem eqDecls_any (kv kv' : Value) (ks ks' : List Dcl) (w : World) (hK : Dcls 0 w.heap.size w kv ks) (hK' : Dcls 0 w.heap.size w kv' ks') :
    Calls Tryd.prog 12 #[kv, kv', .func (.func 13) #[] #[]] w fun e w' => e = .returned (.bool (listEq deqD ks ks')) ∧ Below w.heap.size w w' := by
  have HK := Lib.hid hK
  have HK' := Lib.hid hK'
  obtain ⟨ao, cap, rfl, hl, _⟩ := hK
  obtain ⟨ao', cap', rfl, hl', _⟩ := hK'
  by_cases hne : ks.length = ks'.length
  · have hneI : ¬ (ks.length : Int) ≠ (ks'.length : Int) := by omega
    have HNE := Lib.hid hne
    go_enter Tryd.func12, Tryd.ntmps12
    go_wp2
    clear hne hneI
    go_loopw [17] (fun i wr => ∃ k : Nat, k ≤ ks.length ∧ i = .int .i64 k ∧ Below w.heap.size w wr ∧ ∀ j x y, j < k → ks[j]? = some x → ks'[j]? = some y → deqD x y = true) (fun i _ => ks.length - (intOf i).toNat)
    case atStart => exact ⟨0, Nat.zero_le _, rfl, Below.refl _ _, fun j x y hj => by omega⟩
    case round =>
      obtain ⟨k, hk, rfl, hbr, hall⟩ := hrel
      have hzr := hbr.size
      by_cases hlt : k < ks.length
      · have hlt' : k < ks'.length := by have := HNE.out; omega
        obtain ⟨x, hx⟩ : ∃ x, ks[k]? = some x := ⟨ks[k], by simp [hlt]⟩
        obtain ⟨y, hy⟩ : ∃ y, ks'[k]? = some y := ⟨ks'[k], by simp [hlt']⟩
        obtain ⟨_, _, e, _, hKr⟩ := HK.out.on hbr
        cases e
        obtain ⟨_, _, e, _, hKr'⟩ := HK'.out.on hbr
        cases e
        obtain ⟨_, g, off, rfl, _, hg, _, h0, h1, h2, h3, h4, h5⟩ := hKr k x hx
        obtain ⟨_, g', off', rfl, _, hg', _, i0, i1, i2, i3, i4, i5⟩ := hKr' k y hy
        have hgr : g < wr.heap.size := by omega
        have hgr' : g' < wr.heap.size := by omega
        have P := fun w => sameDecl_any x y w
        have HX := Lib.hid (And.intro hx hy)
        clear hKr hKr' hx hy
        by_cases ht : deqD x y = true
        · rw [ht] at P
          have HTQ := Lib.hid ht
          clear ht
          go_wp2_with (go_at_call 13; refine (P _).mono ?_; rintro e w1 ⟨rfl, hb1⟩)
          go_roundw
          case rel =>
            refine ⟨k + 1, by omega, by go_num, ?_, fun j x' y' hj hx' hy' => ?_⟩
            · exact ((hbr.alloc hzr _).alloc (by rw [alloc_size]; omega) _).trans (hb1.mono (by rw [alloc_size, alloc_size]; omega))
            · by_cases hjk : j = k
              · subst hjk
                rw [HX.out.1] at hx'
                rw [HX.out.2] at hy'
                cases hx'; cases hy'
                exact HTQ.out
              · exact hall j x' y' (by omega) hx' hy'
          case measure => simp [intOf]; omega
        · have htf : deqD x y = false := by simpa using ht
          rw [htf] at P
          have HTQ := Lib.hid htf
          clear ht htf
          go_wp2_with (go_at_call 13; refine (P _).mono ?_; rintro e w1 ⟨rfl, hb1⟩)
          go_ret
          refine ⟨by rw [listEq_false HX.out.1 HX.out.2 HTQ.out]; rfl, ?_⟩
          exact ((hbr.alloc hzr _).alloc (by rw [alloc_size]; omega) _).trans (hb1.mono (by rw [alloc_size, alloc_size]; omega))
      · obtain rfl : k = ks.length := by omega
        have hle : listEq deqD ks ks' = true := listEq_true HNE.out fun i x y hx hy => hall i x y (by
          have := (List.getElem?_eq_some_iff.1 hx).1; omega) hx hy
        have HL := Lib.hid hle
        have hend : ¬ (ks.length : Int) < (ks'.length : Int) := by have := HNE.out; omega
        clear hle
        go_wp2
        go_ret
        exact ⟨by rw [HL.out]; rfl, hbr⟩
  · have hneI : (ks.length : Int) ≠ (ks'.length : Int) := by omega
    have HL := Lib.hid (listEq_ne (f := deqD) hne)
    clear hne
    go_enter Tryd.func12, Tryd.ntmps12
    go_wp2
    go_ret
    exact ⟨by rw [HL.out]; rfl, Below.refl _ _⟩
def beqB (m n : Nat) (a b : List Stm) : Bool := listEq (seqS m n) a b
set_option maxHeartbeats 2000000 in
set_option maxRecDepth 100000 in
theorem eqThreads_any (m n : Nat) (kv kv' : Value) (ks ks' : List (List Stm)) (w : World) (hK : Thrs 0 w.heap.size m n w kv ks) (hK' : Thrs 0 w.heap.size m n w kv' ks') :
    Calls Tryd.prog 14 #[kv, kv', .func (.func 15) #[] #[]] w fun e w' => e = .returned (.bool (listEq (beqB m n) ks ks')) ∧ Below w.heap.size w w' := by
  have HK := Lib.hid hK
  have HK' := Lib.hid hK'
  obtain ⟨ao, cap, rfl, hl, _⟩ := hK
  obtain ⟨ao', cap', rfl, hl', _⟩ := hK'
  by_cases hne : ks.length = ks'.length
  · have hneI : ¬ (ks.length : Int) ≠ (ks'.length : Int) := by omega
    have HNE := Lib.hid hne
    go_enter Tryd.func14, Tryd.ntmps14
    go_wp2
    clear hne hneI
    go_loopw [17] (fun i wr => ∃ k : Nat, k ≤ ks.length ∧ i = .int .i64 k ∧ Below w.heap.size w wr ∧ ∀ j x y, j < k → ks[j]? = some x → ks'[j]? = some y → beqB m n x y = true) (fun i _ => ks.length - (intOf i).toNat)
    case atStart => exact ⟨0, Nat.zero_le _, rfl, Below.refl _ _, fun j x y hj => by omega⟩
    case round =>
      obtain ⟨k, hk, rfl, hbr, hall⟩ := hrel
      have hzr := hbr.size
      by_cases hlt : k < ks.length
      · have hlt' : k < ks'.length := by have := HNE.out; omega
        obtain ⟨x, hx⟩ : ∃ x, ks[k]? = some x := ⟨ks[k], by simp [hlt]⟩
        obtain ⟨y, hy⟩ : ∃ y, ks'[k]? = some y := ⟨ks'[k], by simp [hlt']⟩
        obtain ⟨_, _, e, _, hKr⟩ := HK.out.on hbr
        cases e
        obtain ⟨_, _, e, _, hKr'⟩ := HK'.out.on hbr
        cases e
        obtain ⟨g, off, ta, tc, rfl, _, hg, _, h0, hS⟩ := hKr k x hx
        obtain ⟨g', off', ta', tc', rfl, _, hg', _, i0, hS'⟩ := hKr' k y hy
        have P := sameBlock_of (sameStmt_all m n) _ _ _ _ wr (hS.carry (Nat.le_refl _) hzr (fun _ _ _ _ _ h => h) fun _ _ hr => hr.carry (Nat.le_refl _) hzr (Same35.refl _ _ _) (fun _ _ _ _ _ h => h)) (hS'.carry (Nat.le_refl _) hzr (fun _ _ _ _ _ h => h) fun _ _ hr => hr.carry (Nat.le_refl _) hzr (Same35.refl _ _ _) (fun _ _ _ _ _ h => h))
        have HX := Lib.hid (And.intro hx hy)
        clear hKr hKr' hx hy hS hS'
        by_cases ht : listEq (seqS m n) x y = true
        · rw [ht] at P
          have HTQ : Hid (beqB m n x y = true) := ht
          clear ht
          go_wp2_with (go_at_call 15; refine P.mono ?_; rintro e w1 ⟨rfl, hb1⟩)
          go_roundw
          case rel =>
            refine ⟨k + 1, by omega, by go_num, hbr.trans (hb1.mono hzr), fun j x' y' hj hx' hy' => ?_⟩
            by_cases hjk : j = k
            · subst hjk
              rw [HX.out.1] at hx'
              rw [HX.out.2] at hy'
              cases hx'; cases hy'
              exact HTQ.out
            · exact hall j x' y' (by omega) hx' hy'
          case measure => simp [intOf]; omega
        · have htf : listEq (seqS m n) x y = false := by simpa using ht
          rw [htf] at P
          have HTQ : Hid (beqB m n x y = false) := htf
          clear ht htf
          go_wp2_with (go_at_call 15; refine P.mono ?_; rintro e w1 ⟨rfl, hb1⟩)
          go_ret
          exact ⟨by rw [listEq_false HX.out.1 HX.out.2 HTQ.out]; rfl, hbr.trans (hb1.mono hzr)⟩
      · obtain rfl : k = ks.length := by omega
        have hle : listEq (beqB m n) ks ks' = true := listEq_true HNE.out fun i x y hx hy => hall i x y (by
          have := (List.getElem?_eq_some_iff.1 hx).1; omega) hx hy
        have HL := Lib.hid hle
        have hend : ¬ (ks.length : Int) < (ks'.length : Int) := by have := HNE.out; omega
        clear hle
        go_wp2
        go_ret
        exact ⟨by rw [HL.out]; rfl, hbr⟩
  · have hneI : (ks.length : Int) ≠ (ks'.length : Int) := by omega
    have HL := Lib.hid (listEq_ne (f := beqB m n) hne)
    clear hne
    go_enter Tryd.func14, Tryd.ntmps14
    go_wp2
    go_ret
    exact ⟨by rw [HL.out]; rfl, Below.refl _ _⟩
/-- The same program but for where its parts stand. -/
def peqP (m n : Nat) (p q : Prg) : Bool := listEq deqD p.decls q.decls && listEq (beqB m n) p.threads q.threads
theorem dcls_later {w w' : World} {v : Value} {ds : List Dcl} (h : Dcls 0 w.heap.size w v ds) (hb : Below w.heap.size w w') : Dcls 0 w'.heap.size w' v ds := by
  have hz := hb.size
  obtain ⟨ao, cap, rfl, hl, h⟩ := h.on hb
  refine ⟨ao, cap, rfl, hl, fun i d hd => ?_⟩
  obtain ⟨hf, g, off, e, hlo, hg, r⟩ := h i d hd
  exact ⟨hf, g, off, e, Nat.zero_le _, by omega, r⟩
theorem thrs_later {m n : Nat} {w w' : World} {v : Value} {ts : List (List Stm)} (h : Thrs 0 w.heap.size m n w v ts) (hb : Below w.heap.size w w') : Thrs 0 w'.heap.size m n w' v ts := by
  have hz := hb.size
  obtain ⟨ao, cap, rfl, hl, h⟩ := h.on hb
  refine ⟨ao, cap, rfl, hl, fun i ss hs => ?_⟩
  obtain ⟨g, off, tao, tcap, e, hlo, hg, hc, h0, h1⟩ := h i ss hs
  exact ⟨g, off, tao, tcap, e, Nat.zero_le _, by omega, hc, h0, h1.carry (Nat.zero_le _) hz (fun _ _ _ _ _ h => h) fun _ _ hr => hr.carry (Nat.zero_le _) hz (Same35.refl _ _ _) (fun _ _ _ _ _ h => h)⟩
set_option maxHeartbeats 2000000 in
set_option maxRecDepth 100000 in
theorem same_any (m n : Nat) (p q : Prg) (dv tv dv' tv' : Value) (w : World) (hD : Dcls 0 w.heap.size w dv p.decls) (hT : Thrs 0 w.heap.size m n w tv p.threads) (hD' : Dcls 0 w.heap.size w dv' q.decls) (hT' : Thrs 0 w.heap.size m n w tv' q.threads) :
    Calls Tryd.prog 6 #[.agg #[dv, tv], .agg #[dv', tv']] w fun e w' => e = .returned (.bool (peqP m n p q)) ∧ Below w.heap.size w w' := by
  have PD : ∀ w', Below w.heap.size w w' → Calls Tryd.prog 12 #[dv, dv', .func (.func 13) #[] #[]] w' fun e w'' => e = .returned (.bool (listEq deqD p.decls q.decls)) ∧ Below w'.heap.size w' w'' := fun w' hb => eqDecls_any _ _ _ _ w' (dcls_later hD hb) (dcls_later hD' hb)
  have PT : ∀ w', Below w.heap.size w w' → Calls Tryd.prog 14 #[tv, tv', .func (.func 15) #[] #[]] w' fun e w'' => e = .returned (.bool (listEq (beqB m n) p.threads q.threads)) ∧ Below w'.heap.size w' w'' := fun w' hb => eqThreads_any m n _ _ _ _ w' (thrs_later hT hb) (thrs_later hT' hb)
  have hbb : ∀ o o', Below w.heap.size w ((w.alloc o).alloc o') := fun o o' => ((Below.refl _ _).alloc (Nat.le_refl _) o).alloc (by rw [alloc_size]; omega) o'
  have HP : Hid (peqP m n p q = (listEq deqD p.decls q.decls && listEq (beqB m n) p.threads q.threads)) := rfl
  rw [HP.out]
  obtain ⟨da, dc, rfl, _⟩ := hD
  obtain ⟨ta, tc, rfl, _⟩ := hT
  obtain ⟨da', dc', rfl, _⟩ := hD'
  obtain ⟨ta', tc', rfl, _⟩ := hT'
  obtain ⟨q1, hq1⟩ : ∃ b, listEq deqD p.decls q.decls = b := ⟨_, rfl⟩
  obtain ⟨q2, hq2⟩ : ∃ b, listEq (beqB m n) p.threads q.threads = b := ⟨_, rfl⟩
  rw [hq1] at PD ⊢
  rw [hq2] at PT ⊢
  clear hq1 hq2 HP
  cases q1 <;> cases q2 <;> (
    go_enter Tryd.func6, Tryd.ntmps6
    go_wp2_with (first
      | (go_at_call 12; refine (PD _ (hbb _ _)).mono ?_; rintro e w1 ⟨rfl, hb1⟩; have hW1 := (hbb _ _).trans (hb1.mono (by simp; omega)); have hc1 := fun b o (h : b < _) => hb1.cell (p := ⟨b, o, none⟩) h; simp only [alloc_size] at hc1)
      | (go_at_call 14; refine (PT _ hW1).mono ?_; rintro e w2 ⟨rfl, hb2⟩; have hW2 := hW1.trans (hb2.mono (by have := hW1.size; omega))))
    go_ret
    first
      | exact ⟨by simp, hW2⟩
      | exact ⟨by simp, hW1⟩)
end Go.Proofs.YtiieghaibcbddaaDoor
/- What numbers make is the same as itself, wherever its parts stand. Plain. -/
namespace Go.Proofs.YtiieghaibcbddaaDoor
set_option linter.unusedVariables false
set_option linter.unusedSimpArgs false

theorem listEq_refl {α : Type} {f : α → α → Bool} {a : List α} (h : ∀ x ∈ a, f x x = true) : listEq f a a = true :=
  listEq_true rfl fun i x y hx hy => by
    rw [hx] at hy; cases hy
    exact h x (List.mem_of_getElem? hx)
theorem teq_refl : ∀ (n : Nat) (t : Tree), wfT n t → teq n t t = true
  | 0, t, h => h.elim
  | n + 1, t, h => by
    have := listEq_refl (f := teq n) (a := t.kids) fun k hk => teq_refl n k (h.2.2.2.2 k hk)
    simp [teq, this]
/-- Well formed statements, so deep. -/
def wfS : Nat → Stm → Prop
  | 0, _ => False
  | n + 1, s => (∀ e ∈ s.exprs, wfT 13 e) ∧ (∀ b ∈ s.body, wfS n b) ∧ ∀ b ∈ s.els, wfS n b
theorem wfS.lift : ∀ {n : Nat} {s : Stm}, wfS n s → wfS (n + 1) s
  | 0, _, h => h.elim
  | n + 1, s, ⟨a, b, c⟩ => ⟨a, fun x hx => (b x hx).lift, fun x hx => (c x hx).lift⟩
theorem seqS_refl : ∀ (n : Nat) (s : Stm), wfS n s → seqS 13 n s s = true
  | 0, s, h => h.elim
  | n + 1, s, h => by
    have h1 := listEq_refl (f := teq 13) (a := s.exprs) fun e he => teq_refl 13 e (h.1 e he)
    have h2 := listEq_refl (f := seqS 13 n) (a := s.body) fun b hb => seqS_refl n b (h.2.1 b hb)
    have h3 := listEq_refl (f := seqS 13 n) (a := s.els) fun b hb => seqS_refl n b (h.2.2 b hb)
    simp [seqS, h1, h2, h3]
/-- .. wherever it stands. -/
theorem seqS_at (n : Nat) (s t : Stm) (a b : Int) : seqS 13 n { s with at_ := a } { t with at_ := b } = seqS 13 n s t := by cases n <;> rfl
theorem deqD_at (d e : Dcl) (a b : Int) : deqD { d with at_ := a } { e with at_ := b } = deqD d e := rfl
theorem deqD_refl (d : Dcl) : deqD d d = true := by simp [deqD]
theorem seqS_name (n : Nat) (s t : Stm) (h : s.name ≠ t.name) : seqS 13 n s t = false := by
  cases n with
  | zero => rfl
  | succ n => simp [seqS, h]
def allS (n : Nat) (ss : List Stm) : Prop := ∀ s ∈ ss, wfS n s
theorem allS_append {n : Nat} {a b : List Stm} (ha : allS n a) (hb : allS n b) : allS n (a ++ b) := fun s hs => by
  rcases List.mem_append.1 hs with h | h
  · exact ha s h
  · exact hb s h
theorem allS_one {n : Nat} {s : Stm} (h : wfS n s) : allS n [s] := fun x hx => by simp only [List.mem_singleton] at hx; subst hx; exact h
theorem wfS_flat {n : Nat} {k : Int} {s : ByteArray} {es : List Tree} (h : ∀ e ∈ es, wfT 13 e) : wfS (n + 1) (stmE k s es) := ⟨h, fun b hb => by simp [stmE] at hb, fun b hb => by simp [stmE] at hb⟩
theorem allS_ite {n : Nat} {c : Prop} [Decidable c] {x y : Mk} (h1 : c → allS n x.1) (h2 : ¬ c → allS n y.1) : allS n (if c then x else y).1 := by
  by_cases h : c
  · rw [if_pos h]; exact h1 h
  · rw [if_neg h]; exact h2 h
theorem loop_allS {st : Bool → Env → List UInt8 → Mk} {inside : Bool} {n : Nat} (hgd : ∀ E ns, goodE E → goodE (st inside E ns).2.1) (h : ∀ E ns, goodE E → allS n (st inside E ns).1) : ∀ (j : Nat) (E : Env) (ns : List UInt8), goodE E → allS n (loopM st inside j E ns).1
  | 0, E, ns, _ => fun s hs => by simp [loopM] at hs
  | j + 1, E, ns, hE => allS_append (loop_allS hgd h j E ns hE) (h _ _ (loop_good hgd j E ns hE))
theorem stmt_wf : ∀ (f : Nat) (inside : Bool) (E : Env) (ns : List UInt8), goodE E → allS f (stmtM f inside E ns).1
  | 0, inside, E, ns, _ => fun s hs => by simp [stmtM] at hs
  | f + 1, inside, E, ns, hE => by
    have hsec : ∀ d ns, wfT 13 (secM E 6 d ns).1 := fun d ns => sec_wf hE 6 d ns
    have hpub : ∀ d ns, wfT 13 (pubM E 6 d ns).1 := fun d ns => pub_wf hE 6 d ns
    have hplace : ∀ ns, wfT 13 (placeM (pubM E 5) E 0 ns).1 := fun ns => (place_wf hE (fun d ns => pub_wf hE 5 d ns) ns).up (by omega)
    have hblk : ∀ ins (E' : Env) (ns : List UInt8), goodE E' → allS f (blockM (stmtM f) ins E' ns).1 := fun ins E' ns h' => loop_allS (fun E ns hE => stmt_good f ins E ns hE) (fun E ns hE => stmt_wf f ins E ns hE) _ { E' with deep := E'.deep + 1 } _ h'
    have one : ∀ k s E' (e : Tree × List UInt8), wfT 13 e.1 → allS (f + 1) (oneM k s E' e).1 := fun k s E' e he => allS_one (wfS_flat fun x hx => by simp only [List.mem_singleton] at hx; subst hx; exact he)
    have sto : ∀ s (i : Tree) (e : Tree × List UInt8), wfT 13 i → wfT 13 e.1 → allS (f + 1) (storeM s E i e).1 := fun s i e hi he => allS_one (wfS_flat fun x hx => by
      simp only [List.mem_cons, List.not_mem_nil, or_false] at hx
      rcases hx with rfl | rfl
      · exact hi
      · exact he)
    have hif : ∀ ins (e : Tree × List UInt8), wfT 13 e.1 → allS (f + 1) (ifM (stmtM f) ins E e).1 := fun ins e he => allS_one ⟨fun x hx => by simp only [List.mem_singleton] at hx; subst hx; exact he, hblk ins E _ hE, hblk ins E _ hE⟩
    show allS (f + 1) (stmtB (stmtM f) inside E ns).1
    unfold stmtB
    refine allS_ite (fun _ => one _ _ _ _ (hsec _ _)) fun _ => allS_ite (fun _ => one _ _ _ _ (hpub _ _)) fun _ => allS_ite (fun _ => one _ _ _ _ (hsec _ _)) fun _ => allS_ite (fun _ => sto _ _ _ (hplace _) (hsec _ _)) fun _ => allS_ite (fun _ => hif _ _ (hsec _ _)) fun _ => allS_ite (fun _ => ?_) fun _ => allS_ite (fun _ => one _ _ _ _ (hsec _ _)) fun _ => allS_ite (fun _ => hif _ _ (hpub _ _)) fun _ => allS_ite (fun _ => sto _ _ _ (hplace _) (hpub _ _)) fun _ => allS_ite (fun _ => ?_) fun _ => allS_ite (fun _ => one _ _ _ _ (hpub _ _)) fun _ => allS_ite (fun _ => one _ _ _ _ (hpub _ _)) fun _ => allS_ite (fun _ => allS_one (wfS_flat fun x hx => by simp at hx)) fun _ => one _ _ _ _ (hpub _ _)
    · exact allS_one ⟨fun x hx => by simp at hx, hblk inside _ _ (good_enter hE _ _), fun x hx => by simp at hx⟩
    · have hl := loop_allS (fun E ns hE => stmt_good f false E ns hE) (fun E ns hE => stmt_wf f false E ns hE) (nxV ns.tail 4 + 1) { E with held := true } ns.tail.tail hE
      have hlE := loop_good (fun E ns hE => stmt_good f false E ns hE) (nxV ns.tail 4 + 1) { E with held := true } ns.tail.tail hE
      refine allS_append (allS_append (allS_one (wfS_flat fun x hx => by simp at hx)) (fun s hs => (hl s hs).lift)) ?_
      exact allS_append (a := [_]) (b := [_]) (allS_one (wfS_flat fun x hx => by simp only [List.mem_singleton] at hx; subst hx; exact pub_wf hlE 6 _ _)) (allS_one (wfS_flat fun x hx => by simp at hx))
theorem made_wf : ∀ (k : Nat) (ns : List UInt8), ∀ ss ∈ (threadsM k ns).2.1, allS 5 ss
  | 0, ns => fun ss hs => by
    have hs' : ss ∈ ([] : List (List Stm)) := hs
    simp at hs'
  | k + 1, ns => fun ss hs => by
    have hs' : ss ∈ (threadsM k ns).2.1 ++ [(blockM (stmtM 5) false ⟨[], [], [], false, k, 0⟩ (threadsM k ns).2.2).1] := hs
    rcases List.mem_append.1 hs' with h | h
    · exact made_wf k ns ss h
    · simp only [List.mem_singleton] at h; subst h
      exact loop_allS (fun E ns hE => stmt_good 5 false E ns hE) (fun E ns hE => stmt_wf 5 false E ns hE) _ ⟨[], [], [], false, k, 1⟩ _ (fun s hs => by simp at hs)
end Go.Proofs.YtiieghaibcbddaaDoor
/- Statements whose places (or one name) are written anew: what they are then, and that tree.Same and tree.Text do not look at places. Conditions: none. -/
namespace Go.Proofs.YtiieghaibcbddaaDoor
open Go.ChangeShapes Go.WideShapes Go.ChangeAt Go.RowKit
set_option linter.unusedVariables false
set_option linter.unusedSimpArgs false

def listR {α : Type} (R : α → α → Prop) (a b : List α) : Prop := a.length = b.length ∧ ∀ (i : Nat) (x y : α), a[i]? = some x → b[i]? = some y → R x y
/-- The same but for places (and, where b is true, names). -/
def eqA (b : Bool) : Nat → Stm → Stm → Prop
  | 0, _, _ => True
  | n + 1, s, t => s.kind = t.kind ∧ (b = true ∨ s.name = t.name) ∧ s.exprs = t.exprs ∧ s.count = t.count ∧ listR (eqA b n) s.body t.body ∧ listR (eqA b n) s.els t.els
theorem listR_refl {α : Type} {R : α → α → Prop} (h : ∀ x, R x x) (a : List α) : listR R a a := ⟨rfl, fun i x y hx hy => by rw [hx] at hy; cases hy; exact h x⟩
theorem listR_trans {α : Type} {R : α → α → Prop} (h : ∀ x y z, R x y → R y z → R x z) {a b c : List α} (h1 : listR R a b) (h2 : listR R b c) : listR R a c := by
  refine ⟨h1.1.trans h2.1, fun i x z hx hz => ?_⟩
  have hi : i < a.length := (List.getElem?_eq_some_iff.1 hx).1
  have hbi : i < b.length := by rw [← h1.1]; exact hi
  have hb : b[i]? = some b[i] := by simp [hbi]
  exact h _ _ _ (h1.2 i x _ hx hb) (h2.2 i _ z hb hz)
theorem eqA_refl (b : Bool) : ∀ (n : Nat) (s : Stm), eqA b n s s
  | 0, _ => trivial
  | n + 1, s => ⟨rfl, .inr rfl, rfl, rfl, listR_refl (eqA_refl b n) _, listR_refl (eqA_refl b n) _⟩
theorem eqA_trans (b : Bool) : ∀ (n : Nat) (s t u : Stm), eqA b n s t → eqA b n t u → eqA b n s u
  | 0, _, _, _, _, _ => trivial
  | n + 1, s, t, u, ⟨a1, a2, a3, a4, a5, a6⟩, ⟨b1, b2, b3, b4, b5, b6⟩ =>
    ⟨a1.trans b1, a2.elim .inl fun x => b2.elim .inl fun y => .inr (x.trans y), a3.trans b3, a4.trans b4, listR_trans (eqA_trans b n) a5 b5, listR_trans (eqA_trans b n) a6 b6⟩
theorem seqS_eqA : ∀ (n : Nat) (s t : Stm), wfS n s → eqA false n s t → seqS 13 n s t = true ∧ seqS 13 n t s = true
  | 0, s, t, h, _ => h.elim
  | n + 1, s, t, h, ⟨a1, a2, a3, a4, a5, a6⟩ => by
    have h1 := listEq_refl (f := teq 13) (a := s.exprs) fun e he => teq_refl 13 e (h.1 e he)
    have hn : s.name = t.name := a2.elim (fun e => by cases e) id
    have hb : listEq (seqS 13 n) s.body t.body = true := listEq_true a5.1 fun i x y hx hy => (seqS_eqA n x y (h.2.1 x (List.mem_of_getElem? hx)) (a5.2 i x y hx hy)).1
    have hb' : listEq (seqS 13 n) t.body s.body = true := listEq_true a5.1.symm fun i x y hx hy => (seqS_eqA n y x (h.2.1 y (List.mem_of_getElem? hy)) (a5.2 i y x hy hx)).2
    have he : listEq (seqS 13 n) s.els t.els = true := listEq_true a6.1 fun i x y hx hy => (seqS_eqA n x y (h.2.2 x (List.mem_of_getElem? hx)) (a6.2 i x y hx hy)).1
    have he' : listEq (seqS 13 n) t.els s.els = true := listEq_true a6.1.symm fun i x y hx hy => (seqS_eqA n y x (h.2.2 y (List.mem_of_getElem? hy)) (a6.2 i y x hy hx)).2
    have h1' : listEq (teq 13) t.exprs s.exprs = true := by rw [← a3]; exact h1
    have h1'' : listEq (teq 13) s.exprs t.exprs = true := by rw [← a3]; exact h1
    simp [seqS, a1, hn, a4, hb, hb', he, he', h1', h1'']
theorem listR_map {α β : Type} {R : α → α → Prop} {f : α → β} (hf : ∀ x y, R x y → f x = f y) {a b : List α} (h : listR R a b) : a.map f = b.map f := by
  apply List.ext_getElem?
  intro i
  simp only [List.getElem?_map]
  by_cases hi : i < a.length
  · have ha : a[i]? = some a[i] := by simp [hi]
    have hb : b[i]? = some (b[i]'(by rw [← h.1]; exact hi)) := by simp [← h.1, hi]
    rw [ha, hb]
    exact congrArg some (hf _ _ (h.2 i _ _ ha hb))
  · rw [List.getElem?_eq_none (by omega), List.getElem?_eq_none (by rw [← h.1]; omega)]
theorem stext_eqA (m : Nat) : ∀ (n d : Nat) (s t : Stm), eqA false n s t → stext m n d s = stext m n d t
  | 0, _, _, _, _ => rfl
  | n + 1, d, s, t, ⟨a1, a2, a3, a4, a5, a6⟩ => by
    have hn : s.name = t.name := a2.elim (fun e => by cases e) id
    have hb : (s.body.map fun x => stext m n (d + 1) x) = t.body.map fun x => stext m n (d + 1) x := listR_map (fun x y h => stext_eqA m n (d + 1) x y h) a5
    have he : (s.els.map fun x => stext m n (d + 1) x) = t.els.map fun x => stext m n (d + 1) x := listR_map (fun x y h => stext_eqA m n (d + 1) x y h) a6
    simp only [stext, a1, hn, a3, a4, hb, he, a6.1]
theorem pick_list {α : Type} {P : Nat → α → Prop} : ∀ (n : Nat), (∀ i, i < n → ∃ x, P i x) → ∃ l : List α, l.length = n ∧ ∀ (i : Nat) (x : α), l[i]? = some x → P i x
  | 0, _ => ⟨[], rfl, fun i x h => by simp at h⟩
  | n + 1, h => by
    obtain ⟨l, hl, hp⟩ := pick_list n fun i hi => h i (by omega)
    obtain ⟨x, hx⟩ := h n (by omega)
    refine ⟨l ++ [x], by simp [hl], fun i y hy => ?_⟩
    by_cases hi : i < l.length
    · rw [List.getElem?_append_left hi] at hy; exact hp i y hy
    · rw [List.getElem?_append_right (by omega)] at hy
      have h0 : i - l.length = 0 := by
        rcases Nat.eq_zero_or_pos (i - l.length) with h | h
        · exact h
        · rw [List.getElem?_eq_none (by simp; omega)] at hy; cases hy
      rw [h0] at hy
      simp at hy
      subst hy
      rw [show i = n by omega]; exact hx
/-- What is written: a place, or (where b is true) a name. -/
def TurnOK (b : Bool) (c : Nat) (u : Value) : Prop := (c % 7 = 6 ∧ ∃ a : Int, u = .int .i64 a) ∨ (b = true ∧ c % 7 = 1 ∧ ∃ x : ByteArray, u = .string x ∧ x.size ≤ 35184372088832)
theorem cell_turn {w : World} {gg c g k : Nat} {u y : Value} (h : w.cell? ⟨g, k, none⟩ = some y) : (w.setCell ⟨gg, c, none⟩ u).cell? ⟨g, k, none⟩ = some (if g = gg ∧ k = c then u else y) := by
  by_cases e : g = gg ∧ k = c
  · obtain ⟨rfl, rfl⟩ := e
    rw [if_pos ⟨rfl, rfl⟩]; exact World.cell?_setCell_same' w _ _ (by rw [h]; rfl)
  · rw [if_neg e, World.cell?_setCell_other]
    · exact h
    · intro e'
      simp only [Addr.mk.injEq] at e'
      exact e ⟨e'.1.symm, e'.2.1.symm⟩
theorem heap_turn {w : World} {gg c g : Nat} {u : Value} {t : TypeId} {fr : Nat × Nat} {cs : Array Value} (h : w.heap[g]? = some (.cells cs t fr)) : ∃ cs', (w.setCell ⟨gg, c, none⟩ u).heap[g]? = some (.cells cs' t fr) := by
  by_cases e : g = gg
  · subst e; exact ⟨_, set_heap h c u⟩
  · exact ⟨cs, (Below.heap_setCell _ _ _ _ e).trans h⟩
theorem stms_turn {b : Bool} {lo B m n gg c : Nat} {w : World} {u : Value} (hu : TurnOK b c u)
    (ih : ∀ (v : Value) (s : Stm), SRep lo B w m n v s → ∃ s', eqA b n s s' ∧ s'.kind = s.kind ∧ s'.name = s.name ∧ s'.at_ = s.at_ ∧ SRep lo B (w.setCell ⟨gg, c, none⟩ u) m n v s') {v : Value} {ss : List Stm} (h : Stms lo B w (fun v' s' => SRep lo B w m n v' s') v ss) :
    ∃ ss', listR (eqA b n) ss ss' ∧ Stms lo B (w.setCell ⟨gg, c, none⟩ u) (fun v' s' => SRep lo B (w.setCell ⟨gg, c, none⟩ u) m n v' s') v ss' := by
  obtain ⟨ao, cap, rfl, hl, hr⟩ := h
  have each : ∀ i, i < ss.length → ∃ s' : Stm, (∀ s, ss[i]? = some s → eqA b n s s') ∧ ∃ g off c0 c1 c2 c3 c4 c5 c6, ao = some ⟨g, off, none⟩ ∧ lo ≤ g ∧ g < B ∧ (∃ cs fr, (w.setCell ⟨gg, c, none⟩ u).heap[g]? = some (.cells cs 36 fr) ∧ fr = (0, 0) ∧ off = 0) ∧
      (w.setCell ⟨gg, c, none⟩ u).cell? ⟨g, off + i * 7, none⟩ = some c0 ∧ (w.setCell ⟨gg, c, none⟩ u).cell? ⟨g, off + i * 7 + 1, none⟩ = some c1 ∧ (w.setCell ⟨gg, c, none⟩ u).cell? ⟨g, off + i * 7 + 2, none⟩ = some c2 ∧ (w.setCell ⟨gg, c, none⟩ u).cell? ⟨g, off + i * 7 + 3, none⟩ = some c3 ∧ (w.setCell ⟨gg, c, none⟩ u).cell? ⟨g, off + i * 7 + 4, none⟩ = some c4 ∧ (w.setCell ⟨gg, c, none⟩ u).cell? ⟨g, off + i * 7 + 5, none⟩ = some c5 ∧ (w.setCell ⟨gg, c, none⟩ u).cell? ⟨g, off + i * 7 + 6, none⟩ = some c6 ∧
      SRep lo B (w.setCell ⟨gg, c, none⟩ u) m n (.agg #[c0, c1, c2, c3, c4, c5, c6]) s' := by
    intro i hi
    obtain ⟨s, hs⟩ : ∃ s, ss[i]? = some s := ⟨ss[i], by simp [hi]⟩
    obtain ⟨g, off, c0, c1, c2, c3, c4, c5, c6, e, hlo, hg, ⟨cs, fr, hcs, hfr, hoff⟩, h0, h1, h2, h3, h4, h5, h6, hS⟩ := hr i s hs
    obtain ⟨s', hq, hk, hnm, hat, hS'⟩ := ih _ _ hS
    subst hoff
    obtain ⟨cs', hcs'⟩ := heap_turn (gg := gg) (c := c) (u := u) hcs
    have k0 := cell_turn (gg := gg) (c := c) (u := u) h0
    have k1 := cell_turn (gg := gg) (c := c) (u := u) h1
    have k2 := cell_turn (gg := gg) (c := c) (u := u) h2
    have k3 := cell_turn (gg := gg) (c := c) (u := u) h3
    have k4 := cell_turn (gg := gg) (c := c) (u := u) h4
    have k5 := cell_turn (gg := gg) (c := c) (u := u) h5
    have k6 := cell_turn (gg := gg) (c := c) (u := u) h6
    cases n with
    | zero => exact hS.elim
    | succ n =>
    rcases hu with ⟨hc6, a, rfl⟩ | ⟨hb, hc1, x, rfl, hx⟩
    · rw [if_neg (by omega)] at k0 k1 k2 k3 k4 k5
      by_cases hm : g = gg ∧ 0 + i * 7 + 6 = c
      · rw [if_pos hm] at k6
        obtain ⟨q1, q2, q3, eao, ecap, bao, bcap, lao, lcap, hv, r1, r2, r3⟩ := hS'
        simp only [Value.agg.injEq, Array.mk.injEq, List.cons.injEq, and_true] at hv
        obtain ⟨rfl, rfl, rfl, rfl, rfl, rfl, rfl⟩ := hv
        refine ⟨{ s' with at_ := a }, fun s2 hs2 => ?_, g, 0, _, _, _, _, _, _, _, e, hlo, hg, ⟨cs', fr, hcs', hfr, rfl⟩, k0, k1, k2, k3, k4, k5, k6, q1, q2, q3, eao, ecap, bao, bcap, lao, lcap, rfl, r1, r2, r3⟩
        rw [hs] at hs2; cases hs2; exact hq
      · rw [if_neg hm] at k6
        exact ⟨s', fun s2 hs2 => by rw [hs] at hs2; cases hs2; exact hq, g, 0, _, _, _, _, _, _, _, e, hlo, hg, ⟨cs', fr, hcs', hfr, rfl⟩, k0, k1, k2, k3, k4, k5, k6, hS'⟩
    · rw [if_neg (by omega)] at k0 k2 k3 k4 k5 k6
      by_cases hm : g = gg ∧ 0 + i * 7 + 1 = c
      · rw [if_pos hm] at k1
        obtain ⟨q1, q2, q3, eao, ecap, bao, bcap, lao, lcap, hv, r1, r2, r3⟩ := hS'
        simp only [Value.agg.injEq, Array.mk.injEq, List.cons.injEq, and_true] at hv
        obtain ⟨rfl, rfl, rfl, rfl, rfl, rfl, rfl⟩ := hv
        refine ⟨{ s' with name := x }, fun s2 hs2 => ?_, g, 0, _, _, _, _, _, _, _, e, hlo, hg, ⟨cs', fr, hcs', hfr, rfl⟩, k0, k1, k2, k3, k4, k5, k6, q1, q2, hx, eao, ecap, bao, bcap, lao, lcap, rfl, r1, r2, r3⟩
        rw [hs] at hs2; cases hs2
        obtain ⟨t1, t2, t3, t4, t5, t6⟩ := hq
        exact ⟨t1, .inl hb, t3, t4, t5, t6⟩
      · rw [if_neg hm] at k1
        exact ⟨s', fun s2 hs2 => by rw [hs] at hs2; cases hs2; exact hq, g, 0, _, _, _, _, _, _, _, e, hlo, hg, ⟨cs', fr, hcs', hfr, rfl⟩, k0, k1, k2, k3, k4, k5, k6, hS'⟩
  obtain ⟨ss', hlen, hp⟩ := pick_list ss.length each
  refine ⟨ss', ⟨hlen.symm, fun i x y hx hy => (hp i y hy).1 x hx⟩, ao, cap, by rw [hlen], by rw [hlen]; exact hl, fun i s hs => (hp i s hs).2⟩
theorem srep_turn {b : Bool} {lo B m gg c : Nat} {w : World} {u : Value} {cs0 : Array Value} {fr0 : Nat × Nat} (hgg : w.heap[gg]? = some (.cells cs0 36 fr0)) (hu : TurnOK b c u) :
    ∀ (n : Nat) (v : Value) (s : Stm), SRep lo B w m n v s → ∃ s', eqA b n s s' ∧ s'.kind = s.kind ∧ s'.name = s.name ∧ s'.at_ = s.at_ ∧ SRep lo B (w.setCell ⟨gg, c, none⟩ u) m n v s'
  | 0, v, s, h => h.elim
  | n + 1, v, s, ⟨h1, h2, hn, eao, ecap, bao, bcap, lao, lcap, h3, h4, h5, h6⟩ => by
    obtain ⟨bs, hb1, hb2⟩ := stms_turn (gg := gg) hu (srep_turn hgg hu n) h5
    obtain ⟨es, he1, he2⟩ := stms_turn (gg := gg) hu (srep_turn hgg hu n) h6
    have h35 : Same35 lo B w (w.setCell ⟨gg, c, none⟩ u) := (TSame.of_set (t := 44) hgg (by decide) c u).s35 lo B
    have h4' := h4.carry (Nat.le_refl _) (Nat.le_refl _) h35 fun _ _ hr => ERep.carry (Nat.le_refl _) (Nat.le_refl _) h35 hr
    refine ⟨{ s with body := bs, els := es }, ⟨rfl, .inr rfl, rfl, rfl, hb1, he1⟩, rfl, rfl, rfl, h1, h2, hn, eao, ecap, bao, bcap, lao, lcap, ?_, h4', ?_, ?_⟩
    · rw [h3, hb1.1, he1.1]
    · rw [← hb1.1]; exact hb2
    · rw [← he1.1]; exact he2
end Go.Proofs.YtiieghaibcbddaaDoor
/- Two programs that numbers make, of which the second's places (and then one name) are written anew. Conditions: none. -/
namespace Go.Proofs.YtiieghaibcbddaaDoor
open Go.ChangeShapes Go.WideShapes Go.ChangeAt Go.RowKit
set_option linter.unusedVariables false
set_option linter.unusedSimpArgs false

/-- A declaration, the same but for its place. -/
def dA (d e : Dcl) : Prop := d.lock = e.lock ∧ d.label = e.label ∧ d.name = e.name ∧ d.size = e.size ∧ d.by_ = e.by_
theorem dA_refl (d : Dcl) : dA d d := ⟨rfl, rfl, rfl, rfl, rfl⟩
theorem dA_trans (a b c : Dcl) (h : dA a b) (k : dA b c) : dA a c := ⟨h.1.trans k.1, h.2.1.trans k.2.1, h.2.2.1.trans k.2.2.1, h.2.2.2.1.trans k.2.2.2.1, h.2.2.2.2.trans k.2.2.2.2⟩
theorem deqD_dA {d e : Dcl} (h : dA d e) : deqD d e = true ∧ deqD e d = true := by
  obtain ⟨h1, h2, h3, h4, h5⟩ := h
  simp [deqD, h1, h2, h3, h4, h5]
theorem dtext_dA {d e : Dcl} (h : dA d e) : dtext d = dtext e := by
  obtain ⟨h1, h2, h3, h4, h5⟩ := h
  simp [dtext, h1, h2, h3, h4, h5]
def tA (b : Bool) : List (List Stm) → List (List Stm) → Prop := listR (listR (eqA b 5))
theorem tA_trans {b : Bool} {x y z : List (List Stm)} (h : tA b x y) (k : tA b y z) : tA b x z := listR_trans (R := listR (eqA b 5)) (fun _ _ _ h k => listR_trans (eqA_trans b 5) h k) h k
theorem eqA_weak : ∀ (n : Nat) (s t : Stm), eqA false n s t → eqA true n s t
  | 0, _, _, _ => trivial
  | n + 1, s, t, ⟨a1, a2, a3, a4, a5, a6⟩ => ⟨a1, .inl rfl, a3, a4, ⟨a5.1, fun i x y hx hy => eqA_weak n x y (a5.2 i x y hx hy)⟩, ⟨a6.1, fun i x y hx hy => eqA_weak n x y (a6.2 i x y hx hy)⟩⟩
theorem tA_weak {x y : List (List Stm)} (h : tA false x y) : tA true x y := ⟨h.1, fun i a b ha hb => ⟨(h.2 i a b ha hb).1, fun j s t hs ht => eqA_weak 5 s t ((h.2 i a b ha hb).2 j s t hs ht)⟩⟩
/-- tree.Same and tree.Text do not look at places. -/
theorem peqP_at {p q : Prg} (hw : ∀ ss ∈ p.threads, allS 5 ss) (hd : listR dA p.decls q.decls) (ht : tA false p.threads q.threads) : peqP 13 5 p q = true ∧ peqP 13 5 q p = true := by
  have h1 : listEq deqD p.decls q.decls = true := listEq_true hd.1 fun i x y hx hy => (deqD_dA (hd.2 i x y hx hy)).1
  have h2 : listEq deqD q.decls p.decls = true := listEq_true hd.1.symm fun i x y hx hy => (deqD_dA (hd.2 i y x hy hx)).2
  have h3 : listEq (beqB 13 5) p.threads q.threads = true := listEq_true ht.1 fun i x y hx hy => by
    have := ht.2 i x y hx hy
    exact listEq_true this.1 fun j s t hs ht' => (seqS_eqA 5 s t (hw x (List.mem_of_getElem? hx) s (List.mem_of_getElem? hs)) (this.2 j s t hs ht')).1
  have h4 : listEq (beqB 13 5) q.threads p.threads = true := listEq_true ht.1.symm fun i x y hx hy => by
    have := ht.2 i y x hy hx
    exact listEq_true this.1.symm fun j s t hs ht' => (seqS_eqA 5 t s (hw y (List.mem_of_getElem? hy) t (List.mem_of_getElem? ht')) (this.2 j t s ht' hs)).2
  unfold peqP
  rw [h1, h2, h3, h4]
  exact ⟨rfl, rfl⟩
theorem ptext_at {p q : Prg} (hd : listR dA p.decls q.decls) (ht : tA false p.threads q.threads) : ptext 13 5 p = ptext 13 5 q := by
  unfold ptext
  rw [listR_map (fun x y h => dtext_dA h) hd, listR_map (f := fun ss => ttext 13 5 ss) (fun x y h => by
    unfold ttext btext
    rw [listR_map (f := fun x => stext 13 5 1 x) (fun s t h => stext_eqA 13 5 1 s t h) h]) ht]
theorem listEq_no {α : Type} {f : α → α → Bool} : ∀ {a b : List α} (i : Nat) (x y : α), a[i]? = some x → b[i]? = some y → f x y = false → listEq f a b = false
  | [], b, i, x, y, hx, _, _ => by simp at hx
  | a :: xs, [], i, x, y, _, hy, _ => by simp at hy
  | a :: xs, b :: ys, 0, x, y, hx, hy, h => by simp at hx hy; subst hx hy; simp [listEq, h]
  | a :: xs, b :: ys, i + 1, x, y, hx, hy, h => by
    have := listEq_no i x y (by simpa using hx) (by simpa using hy) h
    simp [listEq, this]
theorem peqP_name {p q : Prg} {k i : Nat} {a b : List Stm} {s t : Stm} (ha : p.threads[k]? = some a) (hb : q.threads[k]? = some b) (hs : a[i]? = some s) (ht : b[i]? = some t) (hn : s.name ≠ t.name) : peqP 13 5 p q = false := by
  have : listEq (beqB 13 5) p.threads q.threads = false := listEq_no k a b ha hb (listEq_no i s t hs ht (seqS_name 5 s t hn))
  unfold peqP
  rw [this]; simp

theorem thrs_same {lo B m n : Nat} {w w' : World} {v : Value} {ts : List (List Stm)} (h : Thrs lo B m n w v ts) (hT : TSame 32 w w') (hS : TSame 36 w w') (hE : TSame 44 w w') : Thrs lo B m n w' v ts := by
  obtain ⟨ao, cap, rfl, hl, hr⟩ := h
  refine ⟨ao, cap, rfl, hl, fun i ss hs => ?_⟩
  obtain ⟨g, off, tao, tcap, e, hlo, hg, ⟨cs, fr, hc⟩, h0, h1⟩ := hr i ss hs
  have hc' := hT g cs fr hc
  refine ⟨g, off, tao, tcap, e, hlo, hg, ⟨cs, fr, hc'⟩, (World.cell?_of_block (hc'.trans hc.symm)).trans h0, ?_⟩
  exact h1.carry (Nat.le_refl _) (Nat.le_refl _) (hS.s45 lo B) fun _ _ hr => hr.carry (Nat.le_refl _) (Nat.le_refl _) (hE.s35 lo B) (hS.s45 lo B)
theorem dcls_same {lo B : Nat} {w w' : World} {v : Value} {ds : List Dcl} (h : Dcls lo B w v ds) (hD : TSame 31 w w') : Dcls lo B w' v ds := by
  obtain ⟨ao, cap, rfl, hl, hr⟩ := h
  refine ⟨ao, cap, rfl, hl, fun i d hd => ?_⟩
  obtain ⟨hf, g, off, e, hlo, hg, ⟨cs, fr, hc, hz⟩, h0, h1, h2, h3, h4, h5⟩ := hr i d hd
  have hc' := hD g cs fr hc
  have key : ∀ o, w'.cell? ⟨g, o, none⟩ = w.cell? ⟨g, o, none⟩ := fun o => World.cell?_of_block (hc'.trans hc.symm)
  exact ⟨hf, g, off, e, hlo, hg, ⟨cs, fr, hc', hz⟩, (key _).trans h0, (key _).trans h1, (key _).trans h2, (key _).trans h3, (key _).trans h4, (key _).trans h5⟩
theorem thrs_turn {b : Bool} {lo B m gg c : Nat} {w : World} {u : Value} {cs0 : Array Value} {fr0 : Nat × Nat} (hgg : w.heap[gg]? = some (.cells cs0 36 fr0)) (hu : TurnOK b c u) {v : Value} {ts : List (List Stm)} (h : Thrs lo B m 5 w v ts) :
    ∃ ts', tA b ts ts' ∧ Thrs lo B m 5 (w.setCell ⟨gg, c, none⟩ u) v ts' := by
  obtain ⟨ao, cap, rfl, hl, hr⟩ := h
  have hT : TSame 32 w (w.setCell ⟨gg, c, none⟩ u) := TSame.of_set hgg (by decide) c u
  have each : ∀ i, i < ts.length → ∃ ss' : List Stm, (∀ ss, ts[i]? = some ss → listR (eqA b 5) ss ss') ∧ ∃ g off tao tcap, ao = some ⟨g, off, none⟩ ∧ lo ≤ g ∧ g < B ∧ (∃ cs fr, (w.setCell ⟨gg, c, none⟩ u).heap[g]? = some (.cells cs 32 fr)) ∧
      (w.setCell ⟨gg, c, none⟩ u).cell? ⟨g, off + i, none⟩ = some (.slice tao ss'.length tcap) ∧ Stms lo B (w.setCell ⟨gg, c, none⟩ u) (fun v' s' => SRep lo B (w.setCell ⟨gg, c, none⟩ u) m 5 v' s') (.slice tao ss'.length tcap) ss' := by
    intro i hi
    obtain ⟨ss, hs⟩ : ∃ ss, ts[i]? = some ss := ⟨ts[i], by simp [hi]⟩
    obtain ⟨g, off, tao, tcap, e, hlo, hg, ⟨cs, fr, hc⟩, h0, h1⟩ := hr i ss hs
    obtain ⟨ss', hq, hS'⟩ := stms_turn (gg := gg) hu (srep_turn hgg hu 5) h1
    have hc' := hT g cs fr hc
    refine ⟨ss', fun x hx => by rw [hs] at hx; cases hx; exact hq, g, off, tao, tcap, e, hlo, hg, ⟨cs, fr, hc'⟩, ?_, ?_⟩
    · rw [← hq.1]; exact (World.cell?_of_block (hc'.trans hc.symm)).trans h0
    · rw [← hq.1]; exact hS'
  obtain ⟨ts', hlen, hp⟩ := pick_list ts.length each
  exact ⟨ts', ⟨hlen.symm, fun i x y hx hy => (hp i y hy).1 x hx⟩, ao, cap, by rw [hlen], by rw [hlen]; exact hl, fun i ss hs => (hp i ss hs).2⟩
theorem dcls_turn {lo B g off i : Nat} {w : World} {a : Int} {ao : Option Addr} {cap n : Nat} {ds : List Dcl} (hao : ao = some ⟨g, off, none⟩) (h : Dcls lo B w (.slice ao n cap) ds) :
    ∃ ds', listR dA ds ds' ∧ Dcls lo B (w.setCell ⟨g, off + i * 6 + 5, none⟩ (.int .i64 a)) (.slice ao n cap) ds' := by
  obtain ⟨ao', cap', e0, hl, hr⟩ := h
  cases e0
  have each : ∀ j, j < ds.length → ∃ d' : Dcl, (∀ d, ds[j]? = some d → dA d d') ∧ (dfit d' ∧ ∃ g' off', ao = some ⟨g', off', none⟩ ∧ lo ≤ g' ∧ g' < B ∧ (∃ cs fr, (w.setCell ⟨g, off + i * 6 + 5, none⟩ (.int .i64 a)).heap[g']? = some (.cells cs 31 fr) ∧ fr = (0, 0)) ∧
      (w.setCell ⟨g, off + i * 6 + 5, none⟩ (.int .i64 a)).cell? ⟨g', off' + j * 6, none⟩ = some (.bool d'.lock) ∧ (w.setCell ⟨g, off + i * 6 + 5, none⟩ (.int .i64 a)).cell? ⟨g', off' + j * 6 + 1, none⟩ = some (.int .i64 d'.label) ∧ (w.setCell ⟨g, off + i * 6 + 5, none⟩ (.int .i64 a)).cell? ⟨g', off' + j * 6 + 2, none⟩ = some (.string d'.name) ∧ (w.setCell ⟨g, off + i * 6 + 5, none⟩ (.int .i64 a)).cell? ⟨g', off' + j * 6 + 3, none⟩ = some (.int .i64 d'.size) ∧ (w.setCell ⟨g, off + i * 6 + 5, none⟩ (.int .i64 a)).cell? ⟨g', off' + j * 6 + 4, none⟩ = some (.string d'.by_) ∧ (w.setCell ⟨g, off + i * 6 + 5, none⟩ (.int .i64 a)).cell? ⟨g', off' + j * 6 + 5, none⟩ = some (.int .i64 d'.at_)) := by
    intro j hj
    obtain ⟨d, hd⟩ : ∃ d, ds[j]? = some d := ⟨ds[j], by simp [hj]⟩
    obtain ⟨hf, g', off', e, hlo, hg, ⟨cs, fr, hc, hz⟩, h0, h1, h2, h3, h4, h5⟩ := hr j d hd
    rw [hao] at e
    cases e
    obtain ⟨cs', hc'⟩ := heap_turn (gg := g) (c := off + i * 6 + 5) (u := .int .i64 a) hc
    have k0 := cell_turn (gg := g) (c := off + i * 6 + 5) (u := .int .i64 a) h0
    have k1 := cell_turn (gg := g) (c := off + i * 6 + 5) (u := .int .i64 a) h1
    have k2 := cell_turn (gg := g) (c := off + i * 6 + 5) (u := .int .i64 a) h2
    have k3 := cell_turn (gg := g) (c := off + i * 6 + 5) (u := .int .i64 a) h3
    have k4 := cell_turn (gg := g) (c := off + i * 6 + 5) (u := .int .i64 a) h4
    have k5 := cell_turn (gg := g) (c := off + i * 6 + 5) (u := .int .i64 a) h5
    rw [if_neg (by omega)] at k0 k1 k2 k3 k4
    by_cases hm : g = g ∧ off + j * 6 + 5 = off + i * 6 + 5
    · rw [if_pos hm] at k5
      exact ⟨{ d with at_ := a }, fun x hx => by rw [hd] at hx; cases hx; exact dA_refl d, hf, g, off, hao, hlo, hg, ⟨cs', fr, hc', hz⟩, k0, k1, k2, k3, k4, k5⟩
    · rw [if_neg hm] at k5
      exact ⟨d, fun x hx => by rw [hd] at hx; cases hx; exact dA_refl d, hf, g, off, hao, hlo, hg, ⟨cs', fr, hc', hz⟩, k0, k1, k2, k3, k4, k5⟩
  obtain ⟨ds', hlen, hp⟩ := pick_list ds.length each
  exact ⟨ds', ⟨hlen.symm, fun j x y hx hy => (hp j y hy).1 x hx⟩, ao, cap, by rw [hlen], by rw [hlen]; exact hl, fun j d hd => (hp j d hd).2⟩
end Go.Proofs.YtiieghaibcbddaaDoor
/- The names of the statements that numbers make, and that there are some. Plain. -/
namespace Go.Proofs.YtiieghaibcbddaaDoor
set_option linter.unusedVariables false
set_option linter.unusedSimpArgs false

def otherS : ByteArray := ⟨#[111, 116, 104, 101, 114]⟩
def okN (ss : List Stm) : Prop := ∀ s ∈ ss, s.name ≠ otherS
theorem ne_other {s : ByteArray} (h : s.size ≠ 5) : s ≠ otherS := fun e => h (by rw [e]; rfl)
theorem okN_one {s : Stm} (h : s.name ≠ otherS) : okN [s] := fun x hx => by simp only [List.mem_singleton] at hx; subst hx; exact h
theorem okN_append {a b : List Stm} (ha : okN a) (hb : okN b) : okN (a ++ b) := fun s hs => (List.mem_append.1 hs).elim (ha s) (hb s)
theorem okN_ite {c : Prop} [Decidable c] {x y : Mk} (h1 : c → okN x.1) (h2 : ¬ c → okN y.1) : okN (if c then x else y).1 := by
  by_cases h : c
  · rw [if_pos h]; exact h1 h
  · rw [if_neg h]; exact h2 h
theorem loop_okN {st : Bool → Env → List UInt8 → Mk} {inside : Bool} (h : ∀ E ns, okN (st inside E ns).1) : ∀ (j : Nat) (E : Env) (ns : List UInt8), okN (loopM st inside j E ns).1
  | 0, E, ns => fun s hs => by simp [loopM] at hs
  | j + 1, E, ns => okN_append (loop_okN h j E ns) (h _ _)
theorem n_nameX (E : Env) : nameX E ≠ otherS := ne_other (by simp [nameX, ByteArray.size])
theorem n_dig (c : UInt8) (E : Env) : dig c E ≠ otherS := ne_other (by simp [dig, ByteArray.size])
theorem n_door : doorS ≠ otherS := ne_other (by simp [doorS, ByteArray.size])
theorem n_shared : sharedS ≠ otherS := ne_other (by simp [sharedS, ByteArray.size])
theorem n_count : countS ≠ otherS := by decide
theorem n_none : (⟨#[]⟩ : ByteArray) ≠ otherS := ne_other (by simp [ByteArray.size])
theorem stmt_okN : ∀ (f : Nat) (inside : Bool) (E : Env) (ns : List UInt8), okN (stmtM f inside E ns).1
  | 0, inside, E, ns => fun s hs => by simp [stmtM] at hs
  | f + 1, inside, E, ns => by
    show okN (stmtB (stmtM f) inside E ns).1
    unfold stmtB
    refine okN_ite (fun _ => okN_one (n_nameX E)) fun _ => okN_ite (fun _ => okN_one (n_nameX E)) fun _ => okN_ite (fun _ => okN_one (n_dig _ E)) fun _ => okN_ite (fun _ => okN_one (n_dig _ E)) fun _ => okN_ite (fun _ => okN_one n_none) fun _ => okN_ite (fun _ => okN_one (n_nameX E)) fun _ => okN_ite (fun _ => okN_one (n_dig _ E)) fun _ => okN_ite (fun _ => okN_one n_none) fun _ => okN_ite (fun _ => okN_one (n_dig _ E)) fun _ => okN_ite (fun _ => ?_) fun _ => okN_ite (fun _ => okN_one n_count) fun _ => okN_ite (fun _ => okN_one n_none) fun _ => okN_ite (fun _ => okN_one n_none) fun _ => okN_one (n_dig _ E)
    exact okN_append (okN_append (okN_one n_door) (loop_okN (fun E ns => stmt_okN f false E ns) _ _ _)) (okN_append (a := [_]) (b := [_]) (okN_one n_shared) (okN_one n_door))
theorem loop_some {st : Bool → Env → List UInt8 → Mk} {inside : Bool} (hg : ∀ E ns, fullE E → growE E (st inside E ns).2.1) (h : ∀ E ns, fullE E → 1 ≤ (st inside E ns).1.length) (j : Nat) (E : Env) (ns : List UInt8) (hE : fullE E) : 1 ≤ (loopM st inside (j + 1) E ns).1.length := by
  have g := (loop_grow hg j E ns hE).full hE
  have := h _ (loopM st inside j E ns).2.2 g
  show 1 ≤ ((loopM st inside j E ns).1 ++ (st inside (loopM st inside j E ns).2.1 (loopM st inside j E ns).2.2).1).length
  rw [List.length_append]; omega
theorem made_names : ∀ (k : Nat) (ns : List UInt8), ∀ ss ∈ (threadsM k ns).2.1, okN ss ∧ 1 ≤ ss.length
  | 0, ns => fun ss hs => by
    have hs' : ss ∈ ([] : List (List Stm)) := hs
    simp at hs'
  | k + 1, ns => fun ss hs => by
    have hs' : ss ∈ (threadsM k ns).2.1 ++ [(blockM (stmtM 5) false ⟨[], [], [], false, k, 0⟩ (threadsM k ns).2.2).1] := hs
    rcases List.mem_append.1 hs' with h | h
    · exact made_names k ns ss h
    · simp only [List.mem_singleton] at h; subst h
      exact ⟨loop_okN (fun E ns => stmt_okN 5 false E ns) _ _ _, loop_some (fun E ns hE => stmt_grow 5 false E ns hE) (fun E ns hE => (stmt_len 5 false E ns hE (by omega) (by omega)).1) _ ⟨[], [], [], false, k, 1⟩ _ ⟨rfl, rfl⟩⟩
end Go.Proofs.YtiieghaibcbddaaDoor
/- The two programs of TreeSame in memory, from write to write. Conditions: none. -/
namespace Go.Proofs.YtiieghaibcbddaaDoor
open Go.ChangeShapes Go.WideShapes Go.ChangeAt Go.RowKit
set_option linter.unusedVariables false
set_option linter.unusedSimpArgs false

def TS (p : Prg) (b : Bool) (S2 S3 : Nat) (w2 : World) (dv tv dv' tv' : Value) (q : Prg) (w : World) : Prop :=
  Below S2 w2 w ∧ S2 ≤ S3 ∧ S3 + 2 ≤ w.heap.size ∧ w.heap[S3]? = some (.cells #[dv, tv] 27 (0, 0)) ∧ w.heap[S3 + 1]? = some (.cells #[dv', tv'] 27 (0, 0)) ∧ Dcls S2 S3 w dv' q.decls ∧ Thrs S2 S3 13 5 w tv' q.threads ∧ listR dA p.decls q.decls ∧ tA b p.threads q.threads
theorem TS.below {p : Prg} {b : Bool} {S2 S3 : Nat} {w2 : World} {dv tv dv' tv' : Value} {q : Prg} {w w' : World} (h : TS p b S2 S3 w2 dv tv dv' tv' q w) (hb : Below w.heap.size w w') : TS p b S2 S3 w2 dv tv dv' tv' q w' := by
  obtain ⟨a1, a2, a3, a4, a5, a6, a7, a8, a9⟩ := h
  have hz := hb.size
  exact ⟨a1.trans (hb.mono (by omega)), a2, by omega, (hb.block _ (by omega)).trans a4, (hb.block _ (by omega)).trans a5, a6.on (hb.mono (by omega)), a7.on (hb.mono (by omega)), a8, a9⟩
theorem TS.decl {p : Prg} {b : Bool} {S2 S3 : Nat} {w2 : World} {dv tv dv' tv' : Value} {q : Prg} {w : World} (h : TS p b S2 S3 w2 dv tv dv' tv' q w) {i : Nat} (hi : i < q.decls.length) :
    ∃ g off cap x, dv' = .slice (some ⟨g, off, none⟩) q.decls.length cap ∧ w.cell? ⟨g, off + i * 6 + 5, none⟩ = some (.int .i64 x) ∧ w.frozen? ⟨g, off + i * 6 + 5, none⟩ = false ∧ ∀ a, ∃ q', TS p b S2 S3 w2 dv tv dv' tv' q' (w.setCell ⟨g, off + i * 6 + 5, none⟩ (.int .i64 a)) := by
  obtain ⟨a1, a2, a3, a4, a5, a6, a7, a8, a9⟩ := h
  have hD := a6
  obtain ⟨ao, cap, rfl, hl, hr⟩ := a6
  obtain ⟨hf, g, off, rfl, hlo, hg, ⟨cs, fr, hc, hz⟩, h0, h1, h2, h3, h4, h5⟩ := hr i q.decls[i] (by simp [hi])
  subst hz
  refine ⟨g, off, cap, _, rfl, h5, Lib.frozen_of_heap hc _, fun a => ?_⟩
  obtain ⟨ds', d1, d2⟩ := dcls_turn (i := i) (a := a) rfl hD
  have ts : ∀ t : TypeId, t ≠ 31 → TSame t w (w.setCell ⟨g, off + i * 6 + 5, none⟩ (.int .i64 a)) := fun t ht => TSame.of_set hc ht _ _
  have hs : (w.setCell ⟨g, off + i * 6 + 5, none⟩ (.int .i64 a)).heap.size = w.heap.size := by simp [World.setCell]
  exact ⟨⟨ds', q.threads⟩, a1.setCell hlo _, a2, by rw [hs]; exact a3, ts _ (by decide) _ _ _ a4, ts _ (by decide) _ _ _ a5, d2, thrs_same a7 (ts _ (by decide)) (ts _ (by decide)) (ts _ (by decide)), listR_trans dA_trans a8 d1, a9⟩
theorem TS.stmt {p : Prg} {b : Bool} {S2 S3 : Nat} {w2 : World} {dv tv dv' tv' : Value} {q : Prg} {w : World} (h : TS p b S2 S3 w2 dv tv dv' tv' q w) {k i : Nat} {ss : List Stm} (hs : q.threads[k]? = some ss) (hi : i < ss.length) :
    ∃ tg toff tcap0 g tcap x y, tv' = .slice (some ⟨tg, toff, none⟩) q.threads.length tcap0 ∧ w.cell? ⟨tg, toff + k, none⟩ = some (.slice (some ⟨g, 0, none⟩) ss.length tcap) ∧ w.cell? ⟨g, i * 7 + 6, none⟩ = some (.int .i64 x) ∧ w.cell? ⟨g, i * 7 + 1, none⟩ = some (.string y) ∧ w.frozen? ⟨g, i * 7 + 6, none⟩ = false ∧ w.frozen? ⟨g, i * 7 + 1, none⟩ = false ∧
      (∀ a, ∃ q', TS p b S2 S3 w2 dv tv dv' tv' q' (w.setCell ⟨g, i * 7 + 6, none⟩ (.int .i64 a))) ∧
      (b = false → ∃ q', TS p true S2 S3 w2 dv tv dv' tv' q' (w.setCell ⟨g, i * 7 + 1, none⟩ (.string otherS)) ∧ ∃ ss' s', q'.threads[k]? = some ss' ∧ ss'[i]? = some s' ∧ s'.name = otherS) := by
  obtain ⟨a1, a2, a3, a4, a5, a6, a7, a8, a9⟩ := h
  have hT := a7
  obtain ⟨ao, cap, rfl, hl, hr⟩ := a7
  obtain ⟨tg, toff, tao, tcap, rfl, htlo, htg, htc, t0, t1⟩ := hr k ss hs
  have hS := t1
  obtain ⟨ao2, cap2, e2, hl2, hr2⟩ := t1
  obtain ⟨g, off, c0, c1, c2, c3, c4, c5, c6, e, hlo, hg, ⟨cs, fr, hc, hz, hoff⟩, s0, s1, s2, s3, s4, s5, s6, hR⟩ := hr2 i ss[i] (by simp [hi])
  subst hz hoff
  cases e2
  subst e
  obtain ⟨_, _, hnm, eao, ecap, bao, bcap, lao, lcap, hv, _⟩ := hR
  simp only [Value.agg.injEq, Array.mk.injEq, List.cons.injEq, and_true] at hv
  obtain ⟨rfl, rfl, rfl, rfl, rfl, rfl, rfl⟩ := hv
  rw [Nat.zero_add] at s1 s6
  refine ⟨tg, toff, cap, g, tcap, _, _, rfl, t0, s6, s1, Lib.frozen_of_heap hc _, Lib.frozen_of_heap hc _, fun a => ?_, fun hb => ?_⟩
  · obtain ⟨ts', d1, d2⟩ := thrs_turn (b := b) (c := i * 7 + 6) (u := .int .i64 a) hc (.inl ⟨by omega, a, rfl⟩) hT
    have ts : ∀ t : TypeId, t ≠ 36 → TSame t w (w.setCell ⟨g, i * 7 + 6, none⟩ (.int .i64 a)) := fun t ht => TSame.of_set hc ht _ _
    have hs' : (w.setCell ⟨g, i * 7 + 6, none⟩ (.int .i64 a)).heap.size = w.heap.size := by simp [World.setCell]
    exact ⟨⟨q.decls, ts'⟩, a1.setCell hlo _, a2, by rw [hs']; exact a3, ts _ (by decide) _ _ _ a4, ts _ (by decide) _ _ _ a5, dcls_same a6 (ts _ (by decide)), d2, a8, tA_trans a9 d1⟩
  · subst hb
    obtain ⟨ts', d1, d2⟩ := thrs_turn (b := true) (c := i * 7 + 1) (u := .string otherS) hc (.inr ⟨rfl, by omega, otherS, rfl, by simp [otherS, ByteArray.size]⟩) hT
    have ts : ∀ t : TypeId, t ≠ 36 → TSame t w (w.setCell ⟨g, i * 7 + 1, none⟩ (.string otherS)) := fun t ht => TSame.of_set hc ht _ _
    have hs' : (w.setCell ⟨g, i * 7 + 1, none⟩ (.string otherS)).heap.size = w.heap.size := by simp [World.setCell]
    refine ⟨⟨q.decls, ts'⟩, ⟨a1.setCell hlo _, a2, by rw [hs']; exact a3, ts _ (by decide) _ _ _ a4, ts _ (by decide) _ _ _ a5, dcls_same a6 (ts _ (by decide)), d2, a8, tA_trans (tA_weak a9) d1⟩, ?_⟩
    have hk : k < ts'.length := by rw [← d1.1]; exact (List.getElem?_eq_some_iff.1 hs).1
    obtain ⟨ss', hss⟩ : ∃ ss', ts'[k]? = some ss' := ⟨ts'[k], by simp [hk]⟩
    have hR := d1.2 k ss ss' hs hss
    obtain ⟨s', hs2⟩ : ∃ s', ss'[i]? = some s' := ⟨ss'[i]'(by rw [← hR.1]; exact hi), by simp [← hR.1, hi]⟩
    refine ⟨ss', s', hss, hs2, ?_⟩
    obtain ⟨ao3, cap3, e3, _, hr3⟩ := d2
    simp only [Value.slice.injEq] at e3
    obtain ⟨e3a, _, e3c⟩ := e3
    subst e3a e3c
    obtain ⟨tg', toff', tao', tcap', e4, _, _, _, u0, u1⟩ := hr3 k ss' hss
    cases e4
    obtain ⟨csT, frT, hcT⟩ := htc
    have hcT' := ts 32 (by decide) _ _ _ hcT
    rw [World.cell?_of_block (hcT'.trans hcT.symm), t0] at u0
    simp only [Option.some.injEq, Value.slice.injEq] at u0
    obtain ⟨e5, _, _⟩ := u0
    obtain ⟨ao4, cap4, e6, _, hr4⟩ := u1
    cases e6
    obtain ⟨g', off', d0, d1', d2', d3, d4, d5, d6, e7, _, _, ⟨_, _, _, _, hoff'⟩, _, v1, _, _, _, _, _, hR'⟩ := hr4 i s' hs2
    subst hoff'
    rw [← e5] at e7
    cases e7
    rw [Nat.zero_add] at v1
    have hw1 := cell_turn (gg := g) (c := i * 7 + 1) (u := .string otherS) s1
    rw [if_pos ⟨rfl, rfl⟩] at hw1
    rw [hw1] at v1
    simp only [Option.some.injEq] at v1
    subst v1
    obtain ⟨_, _, _, _, _, _, _, _, _, hv', _⟩ := hR'
    simp only [Value.agg.injEq, Array.mk.injEq, List.cons.injEq, and_true, Value.string.injEq] at hv'
    exact hv'.2.1.symm
end Go.Proofs.YtiieghaibcbddaaDoor
