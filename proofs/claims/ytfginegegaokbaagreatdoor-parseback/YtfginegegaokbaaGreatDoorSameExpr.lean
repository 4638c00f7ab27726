/- What tree.sameExpr, and slices.EqualFunc over expressions, answer, when they are called. Conditions: both lie in memory xs their plain data say. -/
import Derived.Test.YtfginegegaokbaaGreatDoorMakeKeep
namespace Go.Proofs.YtfginegegaokbaaGreatDoor
open Go.ChangeShapes Go.WideShapes Go.ChangeAt Go.RowKit
set_option linter.unusedVariables false
set_option linter.unusedSimpArgs false

/-- As long, and the same one by one. -/
def listEq {α : Type} (f : α → α → Bool) : List α → List α → Bool
  | [], [] => true
  | a :: xs, b :: ys => f a b && listEq f xs ys
  | _, _ => false
theorem listEq_len {α : Type} {f : α → α → Bool} : ∀ {a b : List α}, listEq f a b = true → a.length = b.length
  | [], [], _ => rfl
  | a :: xs, b :: ys, h => by
    simp only [listEq, Bool.and_eq_true] at h
    simp [listEq_len h.2]
  | [], b :: ys, h => by simp [listEq] at h
  | a :: xs, [], h => by simp [listEq] at h
theorem listEq_true {α : Type} {f : α → α → Bool} : ∀ {a b : List α}, a.length = b.length → (∀ (i : Nat) (x y : α), a[i]? = some x → b[i]? = some y → f x y = true) → listEq f a b = true
  | [], [], _, _ => rfl
  | a :: xs, b :: ys, h, hf => by
    simp only [listEq, Bool.and_eq_true]
    exact ⟨hf 0 a b rfl rfl, listEq_true (by simpa using h) (fun i x y hx hy => hf (i + 1) x y (by simpa using hx) (by simpa using hy))⟩
  | [], b :: ys, h, _ => by simp at h
  | a :: xs, [], h, _ => by simp at h
theorem listEq_at {α : Type} {f : α → α → Bool} : ∀ {a b : List α}, listEq f a b = true → ∀ (i : Nat) (x y : α), a[i]? = some x → b[i]? = some y → f x y = true
  | [], [], _, i, x, y, hx, _ => by simp at hx
  | a :: xs, b :: ys, h, i, x, y, hx, hy => by
    simp only [listEq, Bool.and_eq_true] at h
    cases i with
    | zero => simp at hx hy; subst hx hy; exact h.1
    | succ i => exact listEq_at h.2 i x y (by simpa using hx) (by simpa using hy)
  | [], b :: ys, h, i, x, y, hx, _ => by simp at hx
  | a :: xs, [], h, i, x, y, _, hy => by simp at hy
theorem listEq_false {α : Type} {f : α → α → Bool} {a b : List α} {i : Nat} {x y : α} (hx : a[i]? = some x) (hy : b[i]? = some y) (h : f x y = false) : listEq f a b = false := by
  cases hl : listEq f a b with
  | false => rfl
  | true => have := listEq_at hl i x y hx hy; rw [h] at this; cases this
theorem listEq_ne {α : Type} {f : α → α → Bool} {a b : List α} (h : a.length ≠ b.length) : listEq f a b = false := by
  cases hl : listEq f a b with
  | false => rfl
  | true => exact absurd (listEq_len hl) h
/-- The same expression but for where it stands. -/
def teq : Nat → Tree → Tree → Bool
  | 0, _, _ => false
  | n + 1, s, t => decide (s.kind = t.kind) && decide (s.op = t.op) && decide (s.name = t.name) && decide (s.value = t.value) && listEq (teq n) s.kids t.kids

def ExprEqC (n : Nat) : Prop := ∀ (v v' : Value) (s t : Tree) (w : World), ERep 0 w.heap.size w n v s → ERep 0 w.heap.size w n v' t →
  Calls Tryz.prog 84 #[v, v'] w fun e w' => e = .returned (.bool (teq n s t)) ∧ Below w.heap.size w w'

set_option maxHeartbeats 2000000 in
set_option maxRecDepth 100000 in
theorem eqExprs_of {n : Nat} (ih : ExprEqC n) (kv kv' : Value) (ks ks' : List Tree) (w : World) (hK : Kids 0 w.heap.size w (fun v' t' => ERep 0 w.heap.size w n v' t') kv ks) (hK' : Kids 0 w.heap.size w (fun v' t' => ERep 0 w.heap.size w n v' t') kv' ks') :
    Calls Tryz.prog 83 #[kv, kv', .func (.func 84) #[] #[]] w fun e w' => e = .returned (.bool (listEq (teq n) ks ks')) ∧ Below w.heap.size w w' := by
  have HK := Lib.hid hK
  have HK' := Lib.hid hK'
  obtain ⟨ao, cap, rfl, hl, _⟩ := hK
  obtain ⟨ao', cap', rfl, hl', _⟩ := hK'
  by_cases hne : ks.length = ks'.length
  · have hneI : ¬ (ks.length : Int) ≠ (ks'.length : Int) := by omega
    go_enter Tryz.func83, Tryz.ntmps83
    go_wp2
    go_loopw [17] (fun i wr => ∃ k : Nat, k ≤ ks.length ∧ i = .int .i64 k ∧ Below w.heap.size w wr ∧ ∀ j x y, j < k → ks[j]? = some x → ks'[j]? = some y → teq n x y = true) (fun i _ => ks.length - (intOf i).toNat)
    case atStart => exact ⟨0, Nat.zero_le _, rfl, Below.refl _ _, fun j x y hj => by omega⟩
    case round =>
      obtain ⟨k, hk, rfl, hbr, hall⟩ := hrel
      have hzr := hbr.size
      by_cases hlt : k < ks.length
      · have hlt' : k < ks'.length := by omega
        obtain ⟨x, hx⟩ : ∃ x, ks[k]? = some x := ⟨ks[k], by simp [hlt]⟩
        obtain ⟨y, hy⟩ : ∃ y, ks'[k]? = some y := ⟨ks'[k], by simp [hlt']⟩
        obtain ⟨_, _, e, _, hKr⟩ := HK.out.on hbr
        cases e
        obtain ⟨_, _, e, _, hKr'⟩ := HK'.out.on hbr
        cases e
        obtain ⟨g, off, c0, c1, c2, c3, c4, c5, rfl, _, hg, _, h0, h1, h2, h3, h4, h5, hr⟩ := hKr k x hx
        obtain ⟨g', off', d0, d1, d2, d3, d4, d5, rfl, _, hg', _, i0, i1, i2, i3, i4, i5, hr'⟩ := hKr' k y hy
        have hgr : g < wr.heap.size := by omega
        have hgr' : g' < wr.heap.size := by omega
        have hR := Lib.hid hr
        have hR' := Lib.hid hr'
        cases n with
        | zero => exact hr.elim
        | succ n =>
        obtain ⟨hv1, kvx, hv, kax, kcx, rfl, _, _⟩ := hr
        simp only [Value.agg.injEq, Array.mk.injEq, List.cons.injEq, and_true] at hv
        obtain ⟨rfl, rfl, rfl, rfl, rfl, rfl⟩ := hv
        obtain ⟨hv1', kvy, hv, kay, kcy, rfl, _, _⟩ := hr'
        simp only [Value.agg.injEq, Array.mk.injEq, List.cons.injEq, and_true] at hv
        obtain ⟨rfl, rfl, rfl, rfl, rfl, rfl⟩ := hv
        have P : ∀ o o', Calls Tryz.prog 84 #[.agg #[.int .i64 x.kind, .int .i64 x.op, .string x.name, .int .u64 x.value, .slice kax x.kids.length kcx, .int .i64 x.at_], .agg #[.int .i64 y.kind, .int .i64 y.op, .string y.name, .int .u64 y.value, .slice kay y.kids.length kcy, .int .i64 y.at_]] ((wr.alloc o).alloc o') _ := fun o o' =>
          ih _ _ x y ((wr.alloc o).alloc o') (hR.out.mono (by rw [alloc_size, alloc_size]; omega) (((Below.refl _ _).alloc (by omega) o).alloc (by rw [alloc_size]; omega) o')) (hR'.out.mono (by rw [alloc_size, alloc_size]; omega) (((Below.refl _ _).alloc (by omega) o).alloc (by rw [alloc_size]; omega) o'))
        have HX := Lib.hid (And.intro hx hy)
        clear hKr hKr' hx hy
        by_cases ht : teq (n + 1) x y = true
        · rw [ht] at P
          have HTQ := Lib.hid ht
          clear ht
          go_wp2_with (go_at_call 84; refine (P _ _).mono ?_; rintro e w1 ⟨rfl, hb1⟩)
          go_roundw
          case rel =>
            refine ⟨k + 1, by omega, by go_num, ?_, fun j x' y' hj hx' hy' => ?_⟩
            · exact ((hbr.alloc hzr _).alloc (by rw [alloc_size]; omega) _).trans (hb1.mono (by rw [alloc_size, alloc_size]; omega))
            · by_cases hjk : j = k
              · subst hjk
                rw [HX.out.1] at hx'
                rw [HX.out.2] at hy'
                cases hx'; cases hy'
                exact HTQ.out
              · exact hall j x' y' (by omega) hx' hy'
          case measure => simp [intOf]; omega
        · have htf : teq (n + 1) x y = false := by simpa using ht
          rw [htf] at P
          have HTQ := Lib.hid htf
          clear ht htf
          go_wp2_with (go_at_call 84; refine (P _ _).mono ?_; rintro e w1 ⟨rfl, hb1⟩)
          go_ret
          refine ⟨by rw [listEq_false HX.out.1 HX.out.2 HTQ.out]; rfl, ?_⟩
          exact ((hbr.alloc hzr _).alloc (by rw [alloc_size]; omega) _).trans (hb1.mono (by rw [alloc_size, alloc_size]; omega))
      · obtain rfl : k = ks.length := by omega
        have hle : listEq (teq n) ks ks' = true := listEq_true hne fun i x y hx hy => hall i x y (by
          have := (List.getElem?_eq_some_iff.1 hx).1; omega) hx hy
        have HL := Lib.hid hle
        clear hle
        go_wp2
        go_ret
        exact ⟨by rw [HL.out]; rfl, hbr⟩
  · have hneI : (ks.length : Int) ≠ (ks'.length : Int) := by omega
    have HL := Lib.hid (listEq_ne (f := teq n) hne)
    clear hne
    go_enter Tryz.func83, Tryz.ntmps83
    go_wp2
    go_ret
    exact ⟨by rw [HL.out]; rfl, Below.refl _ _⟩

theorem kids_later {n : Nat} {w w' : World} {kv : Value} {ks : List Tree} (h : Kids 0 w.heap.size w (fun v' t' => ERep 0 w.heap.size w n v' t') kv ks) (hb : Below w.heap.size w w') : Kids 0 w'.heap.size w' (fun v' t' => ERep 0 w'.heap.size w' n v' t') kv ks :=
  h.carry (Nat.le_refl _) hb.size (Same35.of_below hb) fun _ _ hr => hr.mono hb.size hb
theorem teq_succ (n : Nat) (s t : Tree) (a1 a2 : Int) (a3 : ByteArray) (a4 : Nat) (b1 b2 : Int) (b3 : ByteArray) (b4 : Nat) (h1 : s.kind = a1) (h2 : s.op = a2) (h3 : s.name = a3) (h4 : s.value = a4) (k1 : t.kind = b1) (k2 : t.op = b2) (k3 : t.name = b3) (k4 : t.value = b4) :
    teq (n + 1) s t = (decide (a1 = b1) && decide (a2 = b2) && decide (a3 = b3) && decide (a4 = b4) && listEq (teq n) s.kids t.kids) := by
  subst h1 h2 h3 h4 k1 k2 k3 k4; rfl
theorem str_ne' {a b : ByteArray} (h : ¬ a = b) : (a.toList == b.toList) = false := by
  rw [ByteArray.toList_eq, ByteArray.toList_eq, beq_eq_false_iff_ne]
  exact fun e => h (bys_inj e)
set_option maxHeartbeats 2000000 in
set_option maxRecDepth 100000 in
theorem sameExpr_succ {n : Nat} (ih : ExprEqC n) : ExprEqC (n + 1) := fun v v' s t w hE hE' => by
  obtain ⟨hv, kv, rfl, hK⟩ := hE
  obtain ⟨hv', kv', rfl, hK'⟩ := hE'
  have P : ∀ o o', Calls Tryz.prog 83 #[kv, kv', .func (.func 84) #[] #[]] ((w.alloc o).alloc o') fun e w' => e = .returned (.bool (listEq (teq n) s.kids t.kids)) ∧ Below ((w.alloc o).alloc o').heap.size ((w.alloc o).alloc o') w' := fun o o' => by
    have hb : Below w.heap.size w ((w.alloc o).alloc o') := ((Below.refl _ _).alloc (Nat.le_refl _) o).alloc (by rw [alloc_size]; omega) o'
    exact eqExprs_of ih kv kv' s.kids t.kids _ (kids_later hK hb) (kids_later hK' hb)
  obtain ⟨kao, kcap, rfl, _⟩ := hK
  obtain ⟨kao', kcap', rfl, _⟩ := hK'
  obtain ⟨a1, h1⟩ : ∃ a, s.kind = a := ⟨_, rfl⟩
  obtain ⟨a2, h2⟩ : ∃ a, s.op = a := ⟨_, rfl⟩
  obtain ⟨a3, h3⟩ : ∃ a, s.name = a := ⟨_, rfl⟩
  obtain ⟨a4, h4⟩ : ∃ a, s.value = a := ⟨_, rfl⟩
  obtain ⟨b1, k1⟩ : ∃ a, t.kind = a := ⟨_, rfl⟩
  obtain ⟨b2, k2⟩ : ∃ a, t.op = a := ⟨_, rfl⟩
  obtain ⟨b3, k3⟩ : ∃ a, t.name = a := ⟨_, rfl⟩
  obtain ⟨b4, k4⟩ : ∃ a, t.value = a := ⟨_, rfl⟩
  rw [teq_succ n s t a1 a2 a3 a4 b1 b2 b3 b4 h1 h2 h3 h4 k1 k2 k3 k4, h1, h2, h3, h4, k1, k2, k3, k4]
  rw [h4] at hv
  rw [k4] at hv'
  obtain ⟨q, hq⟩ : ∃ q, listEq (teq n) s.kids t.kids = q := ⟨_, rfl⟩
  rw [hq] at P ⊢
  generalize s.at_ = sa
  generalize t.at_ = ta
  generalize s.kids.length = sl at P ⊢
  generalize t.kids.length = tl at P ⊢
  clear h1 h2 h3 h4 k1 k2 k3 k4 hq
  by_cases e1 : a1 = b1
  · subst e1
    by_cases e2 : a2 = b2
    · subst e2
      by_cases e3 : a3 = b3
      · subst e3
        by_cases e4 : a4 = b4
        · subst e4
          go_enter Tryz.func84, Tryz.ntmps84
          go_wp2_with (go_at_call 83; refine (P _ _).mono ?_; rintro e w1 ⟨rfl, hb1⟩)
          go_ret
          refine ⟨by simp, ?_⟩
          exact (((Below.refl _ _).alloc (Nat.le_refl _) _).alloc (by simp) _).trans (hb1.mono (by simp; omega))
        · have e4' : ¬ (a4 : Int) = (b4 : Int) := by omega
          go_enter Tryz.func84, Tryz.ntmps84
          go_wp2
          go_ret
          exact ⟨by simp [e4], ((Below.refl _ _).alloc (Nat.le_refl _) _).alloc (by simp) _⟩
      · have e3' := str_ne' e3
        go_enter Tryz.func84, Tryz.ntmps84
        go_wp2
        go_ret
        exact ⟨by simp [e3], ((Below.refl _ _).alloc (Nat.le_refl _) _).alloc (by simp) _⟩
    · go_enter Tryz.func84, Tryz.ntmps84
      go_wp2
      go_ret
      exact ⟨by simp [e2], ((Below.refl _ _).alloc (Nat.le_refl _) _).alloc (by simp) _⟩
  · go_enter Tryz.func84, Tryz.ntmps84
    go_wp2
    go_ret
    exact ⟨by simp [e1], ((Below.refl _ _).alloc (Nat.le_refl _) _).alloc (by simp) _⟩
theorem sameExpr_all : ∀ n, ExprEqC n
  | 0 => fun v v' s t w h _ => h.elim
  | n + 1 => sameExpr_succ (sameExpr_all n)
theorem eqExprs_all (n : Nat) (kv kv' : Value) (ks ks' : List Tree) (w : World) (hK : Kids 0 w.heap.size w (fun v' t' => ERep 0 w.heap.size w n v' t') kv ks) (hK' : Kids 0 w.heap.size w (fun v' t' => ERep 0 w.heap.size w n v' t') kv' ks') :
    Calls Tryz.prog 83 #[kv, kv', .func (.func 84) #[] #[]] w fun e w' => e = .returned (.bool (listEq (teq n) ks ks')) ∧ Below w.heap.size w w' := eqExprs_of (sameExpr_all n) kv kv' ks ks' w hK hK'
end Go.Proofs.YtfginegegaokbaaGreatDoor
