/- Own texts laid together: SameExpr, SameStmt, SameDecl, SameAll. Conditions: as each theorem says. -/
import Derived.Test.YtfginegegaokbaaGreatDoorGMakeK
import Derived.Test.YtfginegegaokbaaGreatDoorGTextW
import Derived.Laws.StructEq
set_option linter.unusedVariables false
set_option linter.unusedSimpArgs false
namespace Go.Proofs.YtfginegegaokbaaGreatDoor
open Go.ChangeShapes Go.WideShapes Go.ChangeAt Go.RowKit
def listEq {α : Type} (f : α -> α -> Bool) : List α -> List α -> Bool
  | [], [] => true
  | a :: xs, b :: ys => f a b && listEq f xs ys
  | _, _ => false
theorem listEq_len {α : Type} {f : α -> α -> Bool} : ∀ {a b : List α}, listEq f a b = true -> a.length = b.length
  | [], [], _ => rfl
  | a :: xs, b :: ys, h => by
    simp only [listEq, Bool.and_eq_true] at h
    simp [listEq_len h.2]
  | [], b :: ys, h => by simp [listEq] at h
  | a :: xs, [], h => by simp [listEq] at h
theorem listEq_true {α : Type} {f : α -> α -> Bool} : ∀ {a b : List α}, a.length = b.length -> (∀ (i : Nat) (x y : α), a[i]? = some x -> b[i]? = some y -> f x y = true) -> listEq f a b = true
  | [], [], _, _ => rfl
  | a :: xs, b :: ys, h, hf => by
    simp only [listEq, Bool.and_eq_true]
    exact ⟨hf 0 a b rfl rfl, listEq_true (by simpa using h) (fun i x y hx hy => hf (i + 1) x y (by simpa using hx) (by simpa using hy))⟩
  | [], b :: ys, h, _ => by simp at h
  | a :: xs, [], h, _ => by simp at h
theorem listEq_at {α : Type} {f : α -> α -> Bool} : ∀ {a b : List α}, listEq f a b = true -> ∀ (i : Nat) (x y : α), a[i]? = some x -> b[i]? = some y -> f x y = true
  | [], [], _, i, x, y, hx, _ => by simp at hx
  | a :: xs, b :: ys, h, i, x, y, hx, hy => by
    simp only [listEq, Bool.and_eq_true] at h
    cases i with
    | zero => simp at hx hy; subst hx hy; exact h.1
    | succ i => exact listEq_at h.2 i x y (by simpa using hx) (by simpa using hy)
  | [], b :: ys, h, i, x, y, hx, _ => by simp at hx
  | a :: xs, [], h, i, x, y, _, hy => by simp at hy
theorem listEq_false {α : Type} {f : α -> α -> Bool} {a b : List α} {i : Nat} {x y : α} (hx : a[i]? = some x) (hy : b[i]? = some y) (h : f x y = false) : listEq f a b = false := by
  cases hl : listEq f a b with
  | false => rfl
  | true => have := listEq_at hl i x y hx hy; rw [h] at this; cases this
theorem listEq_ne {α : Type} {f : α -> α -> Bool} {a b : List α} (h : a.length ≠ b.length) : listEq f a b = false := by
  cases hl : listEq f a b with
  | false => rfl
  | true => exact absurd (listEq_len hl) h
def teq : Nat -> Tree -> Tree -> Bool
  | 0, _, _ => false
  | n + 1, s, t => decide (s.kind = t.kind) && decide (s.op = t.op) && decide (s.name = t.name) && decide (s.value = t.value) && listEq (teq n) s.kids t.kids

def ExprEqC (n : Nat) : Prop := ∀ (v v' : Value) (s t : Tree) (w : World), ERep 0 w.heap.size w n v s -> ERep 0 w.heap.size w n v' t ->
  Calls Tryz.prog 84 #[v, v'] w fun e w' => e = .returned (.bool (teq n s t)) /\ Below w.heap.size w w'

set_option maxHeartbeats 2000000 in
set_option maxRecDepth 100000 in
theorem eqExprs_of {n : Nat} (ih : ExprEqC n) (kv kv' : Value) (ks ks' : List Tree) (w : World) (hK : Kids 0 w.heap.size w (fun v' t' => ERep 0 w.heap.size w n v' t') kv ks) (hK' : Kids 0 w.heap.size w (fun v' t' => ERep 0 w.heap.size w n v' t') kv' ks') :
    Calls Tryz.prog 83 #[kv, kv', .func (.func 84) #[] #[]] w fun e w' => e = .returned (.bool (listEq (teq n) ks ks')) /\ Below w.heap.size w w' := by
  have HK := Lib.hid hK
  have HK' := Lib.hid hK'
  obtain ⟨ao, cap, rfl, hl, _⟩ := hK
  obtain ⟨ao', cap', rfl, hl', _⟩ := hK'
  by_cases hne : ks.length = ks'.length
  · have hneI : ¬ (ks.length : Int) ≠ (ks'.length : Int) := by omega
    go_enter Tryz.func83, Tryz.ntmps83
    go_wp2
    go_loopw [17] (fun i wr => ∃ k : Nat, k <= ks.length /\ i = .int .i64 k /\ Below w.heap.size w wr /\ ∀ j x y, j < k -> ks[j]? = some x -> ks'[j]? = some y -> teq n x y = true) (fun i _ => ks.length - (intOf i).toNat)
    case atStart => exact ⟨0, Nat.zero_le _, rfl, Below.refl _ _, fun j x y hj => by omega⟩
    case round =>
      obtain ⟨k, hk, rfl, hbr, hall⟩ := hrel
      have hzr := hbr.size
      by_cases hlt : k < ks.length
      · have hlt' : k < ks'.length := by omega
        obtain ⟨x, hx⟩ : ∃ x, ks[k]? = some x := ⟨ks[k], by simp [hlt]⟩
        obtain ⟨y, hy⟩ : ∃ y, ks'[k]? = some y := ⟨ks'[k], by simp [hlt']⟩
        obtain ⟨_, _, e, _, hKr⟩ := HK.out.on hbr
        cases e
        obtain ⟨_, _, e, _, hKr'⟩ := HK'.out.on hbr
        cases e
        obtain ⟨g, off, c0, c1, c2, c3, c4, c5, rfl, _, hg, _, h0, h1, h2, h3, h4, h5, hr⟩ := hKr k x hx
        obtain ⟨g', off', d0, d1, d2, d3, d4, d5, rfl, _, hg', _, i0, i1, i2, i3, i4, i5, hr'⟩ := hKr' k y hy
        have hgr : g < wr.heap.size := by omega
        have hgr' : g' < wr.heap.size := by omega
        have hR := Lib.hid hr
        have hR' := Lib.hid hr'
        cases n with
        | zero => exact hr.elim
        | succ n =>
        obtain ⟨hv1, kvx, hv, kax, kcx, rfl, _, _⟩ := hr
        simp only [Value.agg.injEq, Array.mk.injEq, List.cons.injEq, and_true] at hv
        obtain ⟨rfl, rfl, rfl, rfl, rfl, rfl⟩ := hv
        obtain ⟨hv1', kvy, hv, kay, kcy, rfl, _, _⟩ := hr'
        simp only [Value.agg.injEq, Array.mk.injEq, List.cons.injEq, and_true] at hv
        obtain ⟨rfl, rfl, rfl, rfl, rfl, rfl⟩ := hv
        have P : ∀ o o', Calls Tryz.prog 84 #[.agg #[.int .i64 x.kind, .int .i64 x.op, .string x.name, .int .u64 x.value, .slice kax x.kids.length kcx, .int .i64 x.at_], .agg #[.int .i64 y.kind, .int .i64 y.op, .string y.name, .int .u64 y.value, .slice kay y.kids.length kcy, .int .i64 y.at_]] ((wr.alloc o).alloc o') _ := fun o o' =>
          ih _ _ x y ((wr.alloc o).alloc o') (hR.out.mono (by rw [alloc_size, alloc_size]; omega) (((Below.refl _ _).alloc (by omega) o).alloc (by rw [alloc_size]; omega) o')) (hR'.out.mono (by rw [alloc_size, alloc_size]; omega) (((Below.refl _ _).alloc (by omega) o).alloc (by rw [alloc_size]; omega) o'))
        have HX := Lib.hid (And.intro hx hy)
        clear hKr hKr' hx hy
        by_cases ht : teq (n + 1) x y = true
        · rw [ht] at P
          have HTQ := Lib.hid ht
          clear ht
          go_wp2_with (go_at_call 84; refine (P _ _).mono ?_; rintro e w1 ⟨rfl, hb1⟩)
          go_roundw
          case rel =>
            refine ⟨k + 1, by omega, by go_num, ?_, fun j x' y' hj hx' hy' => ?_⟩
            · exact ((hbr.alloc hzr _).alloc (by rw [alloc_size]; omega) _).trans (hb1.mono (by rw [alloc_size, alloc_size]; omega))
            · by_cases hjk : j = k
              · subst hjk
                rw [HX.out.1] at hx'
                rw [HX.out.2] at hy'
                cases hx'; cases hy'
                exact HTQ.out
              · exact hall j x' y' (by omega) hx' hy'
          case measure => simp [intOf]; omega
        · have htf : teq (n + 1) x y = false := by simpa using ht
          rw [htf] at P
          have HTQ := Lib.hid htf
          clear ht htf
          go_wp2_with (go_at_call 84; refine (P _ _).mono ?_; rintro e w1 ⟨rfl, hb1⟩)
          go_ret
          refine ⟨by rw [listEq_false HX.out.1 HX.out.2 HTQ.out]; rfl, ?_⟩
          exact ((hbr.alloc hzr _).alloc (by rw [alloc_size]; omega) _).trans (hb1.mono (by rw [alloc_size, alloc_size]; omega))
      · obtain rfl : k = ks.length := by omega
        have hle : listEq (teq n) ks ks' = true := listEq_true hne fun i x y hx hy => hall i x y (by
          have := (List.getElem?_eq_some_iff.1 hx).1; omega) hx hy
        have HL := Lib.hid hle
        clear hle
        go_wp2
        go_ret
        exact ⟨by rw [HL.out]; rfl, hbr⟩
  · have hneI : (ks.length : Int) ≠ (ks'.length : Int) := by omega
    have HL := Lib.hid (listEq_ne (f := teq n) hne)
    clear hne
    go_enter Tryz.func83, Tryz.ntmps83
    go_wp2
    go_ret
    exact ⟨by rw [HL.out]; rfl, Below.refl _ _⟩

theorem kids_later {n : Nat} {w w' : World} {kv : Value} {ks : List Tree} (h : Kids 0 w.heap.size w (fun v' t' => ERep 0 w.heap.size w n v' t') kv ks) (hb : Below w.heap.size w w') : Kids 0 w'.heap.size w' (fun v' t' => ERep 0 w'.heap.size w' n v' t') kv ks :=
  h.carry (Nat.le_refl _) hb.size (Same35.of_below hb) fun _ _ hr => hr.mono hb.size hb
theorem teq_succ (n : Nat) (s t : Tree) (a1 a2 : Int) (a3 : ByteArray) (a4 : Nat) (b1 b2 : Int) (b3 : ByteArray) (b4 : Nat) (h1 : s.kind = a1) (h2 : s.op = a2) (h3 : s.name = a3) (h4 : s.value = a4) (k1 : t.kind = b1) (k2 : t.op = b2) (k3 : t.name = b3) (k4 : t.value = b4) :
    teq (n + 1) s t = (decide (a1 = b1) && decide (a2 = b2) && decide (a3 = b3) && decide (a4 = b4) && listEq (teq n) s.kids t.kids) := by
  subst h1 h2 h3 h4 k1 k2 k3 k4; rfl
theorem str_ne' {a b : ByteArray} (h : ¬ a = b) : (a.toList == b.toList) = false := by
  rw [ByteArray.toList_eq, ByteArray.toList_eq, beq_eq_false_iff_ne]
  exact fun e => h (bys_inj e)
set_option maxHeartbeats 2000000 in
set_option maxRecDepth 100000 in
theorem sameExpr_succ {n : Nat} (ih : ExprEqC n) : ExprEqC (n + 1) := fun v v' s t w hE hE' => by
  obtain ⟨hv, kv, rfl, hK⟩ := hE
  obtain ⟨hv', kv', rfl, hK'⟩ := hE'
  have P : ∀ o o', Calls Tryz.prog 83 #[kv, kv', .func (.func 84) #[] #[]] ((w.alloc o).alloc o') fun e w' => e = .returned (.bool (listEq (teq n) s.kids t.kids)) /\ Below ((w.alloc o).alloc o').heap.size ((w.alloc o).alloc o') w' := fun o o' => by
    have hb : Below w.heap.size w ((w.alloc o).alloc o') := ((Below.refl _ _).alloc (Nat.le_refl _) o).alloc (by rw [alloc_size]; omega) o'
    exact eqExprs_of ih kv kv' s.kids t.kids _ (kids_later hK hb) (kids_later hK' hb)
  obtain ⟨kao, kcap, rfl, _⟩ := hK
  obtain ⟨kao', kcap', rfl, _⟩ := hK'
  obtain ⟨a1, h1⟩ : ∃ a, s.kind = a := ⟨_, rfl⟩
  obtain ⟨a2, h2⟩ : ∃ a, s.op = a := ⟨_, rfl⟩
  obtain ⟨a3, h3⟩ : ∃ a, s.name = a := ⟨_, rfl⟩
  obtain ⟨a4, h4⟩ : ∃ a, s.value = a := ⟨_, rfl⟩
  obtain ⟨b1, k1⟩ : ∃ a, t.kind = a := ⟨_, rfl⟩
  obtain ⟨b2, k2⟩ : ∃ a, t.op = a := ⟨_, rfl⟩
  obtain ⟨b3, k3⟩ : ∃ a, t.name = a := ⟨_, rfl⟩
  obtain ⟨b4, k4⟩ : ∃ a, t.value = a := ⟨_, rfl⟩
  rw [teq_succ n s t a1 a2 a3 a4 b1 b2 b3 b4 h1 h2 h3 h4 k1 k2 k3 k4, h1, h2, h3, h4, k1, k2, k3, k4]
  rw [h4] at hv
  rw [k4] at hv'
  obtain ⟨q, hq⟩ : ∃ q, listEq (teq n) s.kids t.kids = q := ⟨_, rfl⟩
  rw [hq] at P ⊢
  generalize s.at_ = sa
  generalize t.at_ = ta
  generalize s.kids.length = sl at P ⊢
  generalize t.kids.length = tl at P ⊢
  clear h1 h2 h3 h4 k1 k2 k3 k4 hq
  by_cases e1 : a1 = b1
  · subst e1
    by_cases e2 : a2 = b2
    · subst e2
      by_cases e3 : a3 = b3
      · subst e3
        by_cases e4 : a4 = b4
        · subst e4
          go_enter Tryz.func84, Tryz.ntmps84
          go_wp2_with (go_at_call 83; refine (P _ _).mono ?_; rintro e w1 ⟨rfl, hb1⟩)
          go_ret
          refine ⟨by simp, ?_⟩
          exact (((Below.refl _ _).alloc (Nat.le_refl _) _).alloc (by simp) _).trans (hb1.mono (by simp; omega))
        · have e4' : ¬ (a4 : Int) = (b4 : Int) := by omega
          go_enter Tryz.func84, Tryz.ntmps84
          go_wp2
          go_ret
          exact ⟨by simp [e4], ((Below.refl _ _).alloc (Nat.le_refl _) _).alloc (by simp) _⟩
      · have e3' := str_ne' e3
        go_enter Tryz.func84, Tryz.ntmps84
        go_wp2
        go_ret
        exact ⟨by simp [e3], ((Below.refl _ _).alloc (Nat.le_refl _) _).alloc (by simp) _⟩
    · go_enter Tryz.func84, Tryz.ntmps84
      go_wp2
      go_ret
      exact ⟨by simp [e2], ((Below.refl _ _).alloc (Nat.le_refl _) _).alloc (by simp) _⟩
  · go_enter Tryz.func84, Tryz.ntmps84
    go_wp2
    go_ret
    exact ⟨by simp [e1], ((Below.refl _ _).alloc (Nat.le_refl _) _).alloc (by simp) _⟩
theorem sameExpr_all : ∀ n, ExprEqC n
  | 0 => fun v v' s t w h _ => h.elim
  | n + 1 => sameExpr_succ (sameExpr_all n)
theorem eqExprs_all (n : Nat) (kv kv' : Value) (ks ks' : List Tree) (w : World) (hK : Kids 0 w.heap.size w (fun v' t' => ERep 0 w.heap.size w n v' t') kv ks) (hK' : Kids 0 w.heap.size w (fun v' t' => ERep 0 w.heap.size w n v' t') kv' ks') :
    Calls Tryz.prog 83 #[kv, kv', .func (.func 84) #[] #[]] w fun e w' => e = .returned (.bool (listEq (teq n) ks ks')) /\ Below w.heap.size w w' := eqExprs_of (sameExpr_all n) kv kv' ks ks' w hK hK'
def seqS (m : Nat) : Nat -> Stm -> Stm -> Bool
  | 0, _, _ => false
  | n + 1, s, t => decide (s.kind = t.kind) && decide (s.name = t.name) && decide (s.count = t.count) && listEq (teq m) s.exprs t.exprs && listEq (seqS m n) s.body t.body && listEq (seqS m n) s.els t.els
def StmtEqC (m n : Nat) : Prop := ∀ (v v' : Value) (s t : Stm) (w : World), SRep 0 w.heap.size w m n v s -> SRep 0 w.heap.size w m n v' t ->
  Calls Tryz.prog 54 #[v, v'] w fun e w' => e = .returned (.bool (seqS m n s t)) /\ Below w.heap.size w w'
theorem srep_later {m n : Nat} {w w' : World} {v : Value} {s : Stm} (h : SRep 0 w.heap.size w m n v s) (hb : Below w.heap.size w w') : SRep 0 w'.heap.size w' m n v s :=
  h.carry (Nat.le_refl _) hb.size (Same35.of_below hb) (Same45.of_below hb)
theorem stms_later {m n : Nat} {w w' : World} {v : Value} {ss : List Stm} (h : Stms 0 w.heap.size w (fun v' s' => SRep 0 w.heap.size w m n v' s') v ss) (hb : Below w.heap.size w w') : Stms 0 w'.heap.size w' (fun v' s' => SRep 0 w'.heap.size w' m n v' s') v ss :=
  h.carry (Nat.le_refl _) hb.size (Same45.of_below hb) fun _ _ hr => srep_later hr hb

set_option maxHeartbeats 2000000 in
set_option maxRecDepth 100000 in
theorem eqStmts_of {m n : Nat} (ih : StmtEqC m n) (kv kv' : Value) (ks ks' : List Stm) (w : World) (hK : Stms 0 w.heap.size w (fun v' t' => SRep 0 w.heap.size w m n v' t') kv ks) (hK' : Stms 0 w.heap.size w (fun v' t' => SRep 0 w.heap.size w m n v' t') kv' ks') :
    Calls Tryz.prog 53 #[kv, kv', .func (.func 54) #[] #[]] w fun e w' => e = .returned (.bool (listEq (seqS m n) ks ks')) /\ Below w.heap.size w w' := by
  have HK := Lib.hid hK
  have HK' := Lib.hid hK'
  obtain ⟨ao, cap, rfl, hl, _⟩ := hK
  obtain ⟨ao', cap', rfl, hl', _⟩ := hK'
  by_cases hne : ks.length = ks'.length
  · have hneI : ¬ (ks.length : Int) ≠ (ks'.length : Int) := by omega
    go_enter Tryz.func53, Tryz.ntmps53
    go_wp2
    go_loopw [17] (fun i wr => ∃ k : Nat, k <= ks.length /\ i = .int .i64 k /\ Below w.heap.size w wr /\ ∀ j x y, j < k -> ks[j]? = some x -> ks'[j]? = some y -> seqS m n x y = true) (fun i _ => ks.length - (intOf i).toNat)
    case atStart => exact ⟨0, Nat.zero_le _, rfl, Below.refl _ _, fun j x y hj => by omega⟩
    case round =>
      obtain ⟨k, hk, rfl, hbr, hall⟩ := hrel
      have hzr := hbr.size
      by_cases hlt : k < ks.length
      · have hlt' : k < ks'.length := by omega
        obtain ⟨x, hx⟩ : ∃ x, ks[k]? = some x := ⟨ks[k], by simp [hlt]⟩
        obtain ⟨y, hy⟩ : ∃ y, ks'[k]? = some y := ⟨ks'[k], by simp [hlt']⟩
        obtain ⟨_, _, e, _, hKr⟩ := HK.out.on hbr
        cases e
        obtain ⟨_, _, e, _, hKr'⟩ := HK'.out.on hbr
        cases e
        obtain ⟨g, off, c0, c1, c2, c3, c4, c5, c6, rfl, _, hg, _, h0, h1, h2, h3, h4, h5, h6, hr⟩ := hKr k x hx
        obtain ⟨g', off', d0, d1, d2, d3, d4, d5, d6, rfl, _, hg', _, i0, i1, i2, i3, i4, i5, i6, hr'⟩ := hKr' k y hy
        have hgr : g < wr.heap.size := by omega
        have hgr' : g' < wr.heap.size := by omega
        have hR := Lib.hid hr
        have hR' := Lib.hid hr'
        cases n with
        | zero => exact hr.elim
        | succ n =>
        obtain ⟨_, _, _, ea, ec, ba, bc, la, lc, hv, _⟩ := hr
        simp only [Value.agg.injEq, Array.mk.injEq, List.cons.injEq, and_true] at hv
        obtain ⟨rfl, rfl, rfl, rfl, rfl, rfl, rfl⟩ := hv
        obtain ⟨_, _, _, ea', ec', ba', bc', la', lc', hv, _⟩ := hr'
        simp only [Value.agg.injEq, Array.mk.injEq, List.cons.injEq, and_true] at hv
        obtain ⟨rfl, rfl, rfl, rfl, rfl, rfl, rfl⟩ := hv
        have P : ∀ o o', Calls Tryz.prog 54 #[.agg #[.int .i64 x.kind, .string x.name, .slice ea x.exprs.length ec, .int .i64 x.count, .slice ba x.body.length bc, .slice la x.els.length lc, .int .i64 x.at_], .agg #[.int .i64 y.kind, .string y.name, .slice ea' y.exprs.length ec', .int .i64 y.count, .slice ba' y.body.length bc', .slice la' y.els.length lc', .int .i64 y.at_]] ((wr.alloc o).alloc o') _ := fun o o' =>
          ih _ _ x y ((wr.alloc o).alloc o') (hR.out.carry (Nat.le_refl _) (by rw [alloc_size, alloc_size]; omega) (Same35.of_below (((Below.refl _ _).alloc (by omega) o).alloc (by rw [alloc_size]; omega) o')) (Same45.of_below (((Below.refl _ _).alloc (by omega) o).alloc (by rw [alloc_size]; omega) o'))) (hR'.out.carry (Nat.le_refl _) (by rw [alloc_size, alloc_size]; omega) (Same35.of_below (((Below.refl _ _).alloc (by omega) o).alloc (by rw [alloc_size]; omega) o')) (Same45.of_below (((Below.refl _ _).alloc (by omega) o).alloc (by rw [alloc_size]; omega) o')))
        have HX := Lib.hid (And.intro hx hy)
        clear hKr hKr' hx hy
        by_cases ht : seqS m (n + 1) x y = true
        · rw [ht] at P
          have HTQ := Lib.hid ht
          clear ht
          go_wp2_with (go_at_call 54; refine (P _ _).mono ?_; rintro e w1 ⟨rfl, hb1⟩)
          go_roundw
          case rel =>
            refine ⟨k + 1, by omega, by go_num, ?_, fun j x' y' hj hx' hy' => ?_⟩
            · exact ((hbr.alloc hzr _).alloc (by rw [alloc_size]; omega) _).trans (hb1.mono (by rw [alloc_size, alloc_size]; omega))
            · by_cases hjk : j = k
              · subst hjk
                rw [HX.out.1] at hx'
                rw [HX.out.2] at hy'
                cases hx'; cases hy'
                exact HTQ.out
              · exact hall j x' y' (by omega) hx' hy'
          case measure => simp [intOf]; omega
        · have htf : seqS m (n + 1) x y = false := by simpa using ht
          rw [htf] at P
          have HTQ := Lib.hid htf
          clear ht htf
          go_wp2_with (go_at_call 54; refine (P _ _).mono ?_; rintro e w1 ⟨rfl, hb1⟩)
          go_ret
          refine ⟨by rw [listEq_false HX.out.1 HX.out.2 HTQ.out]; rfl, ?_⟩
          exact ((hbr.alloc hzr _).alloc (by rw [alloc_size]; omega) _).trans (hb1.mono (by rw [alloc_size, alloc_size]; omega))
      · obtain rfl : k = ks.length := by omega
        have hle : listEq (seqS m n) ks ks' = true := listEq_true hne fun i x y hx hy => hall i x y (by
          have := (List.getElem?_eq_some_iff.1 hx).1; omega) hx hy
        have HL := Lib.hid hle
        clear hle
        go_wp2
        go_ret
        exact ⟨by rw [HL.out]; rfl, hbr⟩
  · have hneI : (ks.length : Int) ≠ (ks'.length : Int) := by omega
    have HL := Lib.hid (listEq_ne (f := seqS m n) hne)
    clear hne
    go_enter Tryz.func53, Tryz.ntmps53
    go_wp2
    go_ret
    exact ⟨by rw [HL.out]; rfl, Below.refl _ _⟩
theorem sameBlock_of {m n : Nat} (ih : StmtEqC m n) (kv kv' : Value) (ks ks' : List Stm) (w : World) (hK : Stms 0 w.heap.size w (fun v' t' => SRep 0 w.heap.size w m n v' t') kv ks) (hK' : Stms 0 w.heap.size w (fun v' t' => SRep 0 w.heap.size w m n v' t') kv' ks') :
    Calls Tryz.prog 34 #[kv, kv'] w fun e w' => e = .returned (.bool (listEq (seqS m n) ks ks')) /\ Below w.heap.size w w' := by
  have P := eqStmts_of ih kv kv' ks ks' w hK hK'
  clear hK hK'
  go_enter Tryz.func34, Tryz.ntmps34
  go_wp2_with (go_at_call 53; refine P.mono ?_; rintro e w1 ⟨rfl, hb1⟩)
  go_ret
  exact ⟨rfl, hb1⟩
theorem seqS_succ (m n : Nat) (s t : Stm) (a1 : Int) (a2 : ByteArray) (a3 : Int) (b1 : Int) (b2 : ByteArray) (b3 : Int) (h1 : s.kind = a1) (h2 : s.name = a2) (h3 : s.count = a3) (k1 : t.kind = b1) (k2 : t.name = b2) (k3 : t.count = b3) :
    seqS m (n + 1) s t = (decide (a1 = b1) && decide (a2 = b2) && decide (a3 = b3) && listEq (teq m) s.exprs t.exprs && listEq (seqS m n) s.body t.body && listEq (seqS m n) s.els t.els) := by
  subst h1 h2 h3 k1 k2 k3; rfl
set_option maxHeartbeats 4000000 in
set_option maxRecDepth 100000 in
theorem sameStmt_succ {m n : Nat} (ih : StmtEqC m n) : StmtEqC m (n + 1) := fun v v' s t w hE hE' => by
  obtain ⟨_, _, _, ea, ec, ba, bc, la, lc, rfl, hX, hB, hL⟩ := hE
  obtain ⟨_, _, _, ea', ec', ba', bc', la', lc', rfl, hX', hB', hL'⟩ := hE'
  have PE : ∀ w', Below w.heap.size w w' -> Calls Tryz.prog 83 #[.slice ea s.exprs.length ec, .slice ea' t.exprs.length ec', .func (.func 84) #[] #[]] w' fun e w'' => e = .returned (.bool (listEq (teq m) s.exprs t.exprs)) /\ Below w'.heap.size w' w'' := fun w' hb => eqExprs_all m _ _ _ _ w' (kids_later hX hb) (kids_later hX' hb)
  have PB : ∀ w', Below w.heap.size w w' -> Calls Tryz.prog 34 #[.slice ba s.body.length bc, .slice ba' t.body.length bc'] w' fun e w'' => e = .returned (.bool (listEq (seqS m n) s.body t.body)) /\ Below w'.heap.size w' w'' := fun w' hb => sameBlock_of ih _ _ _ _ w' (stms_later hB hb) (stms_later hB' hb)
  have PL : ∀ w', Below w.heap.size w w' -> Calls Tryz.prog 34 #[.slice la s.els.length lc, .slice la' t.els.length lc'] w' fun e w'' => e = .returned (.bool (listEq (seqS m n) s.els t.els)) /\ Below w'.heap.size w' w'' := fun w' hb => sameBlock_of ih _ _ _ _ w' (stms_later hL hb) (stms_later hL' hb)
  have hbb : ∀ o o', Below w.heap.size w ((w.alloc o).alloc o') := fun o o' => ((Below.refl _ _).alloc (Nat.le_refl _) o).alloc (by rw [alloc_size]; omega) o'
  obtain ⟨a1, h1⟩ : ∃ a, s.kind = a := ⟨_, rfl⟩
  obtain ⟨a2, h2⟩ : ∃ a, s.name = a := ⟨_, rfl⟩
  obtain ⟨a3, h3⟩ : ∃ a, s.count = a := ⟨_, rfl⟩
  obtain ⟨b1, k1⟩ : ∃ a, t.kind = a := ⟨_, rfl⟩
  obtain ⟨b2, k2⟩ : ∃ a, t.name = a := ⟨_, rfl⟩
  obtain ⟨b3, k3⟩ : ∃ a, t.count = a := ⟨_, rfl⟩
  rw [seqS_succ m n s t a1 a2 a3 b1 b2 b3 h1 h2 h3 k1 k2 k3, h1, h2, h3, k1, k2, k3]
  obtain ⟨q1, hq1⟩ : ∃ q, listEq (teq m) s.exprs t.exprs = q := ⟨_, rfl⟩
  obtain ⟨q2, hq2⟩ : ∃ q, listEq (seqS m n) s.body t.body = q := ⟨_, rfl⟩
  obtain ⟨q3, hq3⟩ : ∃ q, listEq (seqS m n) s.els t.els = q := ⟨_, rfl⟩
  rw [hq1] at PE ⊢
  rw [hq2] at PB ⊢
  rw [hq3] at PL ⊢
  clear hX hX' hB hB' hL hL' h1 h2 h3 k1 k2 k3 hq1 hq2 hq3
  generalize s.at_ = sa
  generalize t.at_ = ta
  generalize s.exprs.length = n1 at PE ⊢
  generalize t.exprs.length = n2 at PE ⊢
  generalize s.body.length = n3 at PB ⊢
  generalize t.body.length = n4 at PB ⊢
  generalize s.els.length = n5 at PL ⊢
  generalize t.els.length = n6 at PL ⊢
  by_cases e1 : a1 = b1
  · subst e1
    by_cases e2 : a2 = b2
    · subst e2
      by_cases e3 : a3 = b3
      · subst e3
        cases q1 <;> cases q2 <;> cases q3 <;> (
          go_enter Tryz.func54, Tryz.ntmps54
          go_wp2_with (first
            | (go_at_call 83; refine (PE _ (hbb _ _)).mono ?_; rintro e w1 ⟨rfl, hb1⟩; have hW1 := (hbb _ _).trans (hb1.mono (by simp; omega)); have hc1 := fun b o (h : b < _) => hb1.cell (p := ⟨b, o, none⟩) h; simp only [alloc_size] at hc1)
            | (go_at_call 34; refine (PL _ hW2).mono ?_; rintro e w3 ⟨rfl, hb3⟩; have hW3 := hW2.trans (hb3.mono (by have := hW2.size; omega)))
            | (go_at_call 34; refine (PB _ hW1).mono ?_; rintro e w2 ⟨rfl, hb2⟩; have hz1 := hb1.size; simp only [alloc_size] at hz1; have hz1a : w.heap.size < w1.heap.size := (by omega); have hz1b : w.heap.size + 1 < w1.heap.size := (by omega); have hW2 := hW1.trans (hb2.mono (by have := hW1.size; omega)); have hc2 := fun b o (h : b < _) => hb2.cell (p := ⟨b, o, none⟩) h))
          go_ret
          first
            | exact ⟨by simp, hW3⟩
            | exact ⟨by simp, hW2⟩
            | exact ⟨by simp, hW1⟩)
      · go_enter Tryz.func54, Tryz.ntmps54
        go_wp2
        go_ret
        exact ⟨by simp [e3], hbb _ _⟩
    · have e2' := str_ne' e2
      go_enter Tryz.func54, Tryz.ntmps54
      go_wp2
      go_ret
      exact ⟨by simp [e2], hbb _ _⟩
  · go_enter Tryz.func54, Tryz.ntmps54
    go_wp2
    go_ret
    exact ⟨by simp [e1], hbb _ _⟩
theorem sameStmt_all (m : Nat) : ∀ n, StmtEqC m n
  | 0 => fun v v' s t w h _ => h.elim
  | n + 1 => sameStmt_succ (sameStmt_all m n)
theorem dclU : Tryz.prog.underlying 68 = some (.struct (Tryz.prog.fieldsOf 68)) := by kernel_rfl
theorem dclH : Tryz.prog.stoodInHeld 68 = false := by kernel_rfl
theorem dclG : Tryz.prog.eqGuardType Tryz.prog.depth 68 = false := by kernel_rfl
theorem dclF : (Tryz.prog.fieldsOf 68).toList.map (fun f => (f.name, f.type, f.offset)) = [("Lock", 4, 0), ("Label", 66, 1), ("Name", 9, 2), ("Size", 3, 3), ("By", 9, 4), ("At", 3, 5)] := by kernel_rfl
def deqD (d e : Dcl) : Bool := decide (d.lock = e.lock) && decide (d.label = e.label) && decide (d.name = e.name) && decide (d.size = e.size) && decide (d.by_ = e.by_)
theorem bq_true (a : ByteArray) : (a.toList == a.toList) = true := by simp
theorem decl_eq (a0 b0 : Bool) (a1 b1 a3 b3 : Int) (a2 b2 a4 b4 : ByteArray) (w : World) : (Op.equalIn 10000 68 (.agg #[.bool a0, .int .i64 a1, .string a2, .int .i64 a3, .string a4, .int .i64 0]) (.agg #[.bool b0, .int .i64 b1, .string b2, .int .i64 b3, .string b4, .int .i64 0])).run Tryz.prog w = .ok (decide (a0 = b0) && decide (a1 = b1) && decide (a2 = b2) && decide (a3 = b3) && decide (a4 = b4)) w := by
  rw [run_equalIn_agg w 9999 68 _ _ dclU dclH]
  have hF := dclF
  generalize (Tryz.prog.fieldsOf 68).toList = fs at hF
  obtain ⟨f0, r0, rfl, h0, hF⟩ := List.map_eq_cons_iff.1 hF
  obtain ⟨f1, r1, rfl, h1, hF⟩ := List.map_eq_cons_iff.1 hF
  obtain ⟨f2, r2, rfl, h2, hF⟩ := List.map_eq_cons_iff.1 hF
  obtain ⟨f3, r3, rfl, h3, hF⟩ := List.map_eq_cons_iff.1 hF
  obtain ⟨f4, r4, rfl, h4, hF⟩ := List.map_eq_cons_iff.1 hF
  obtain ⟨f5, r5, rfl, h5, hF⟩ := List.map_eq_cons_iff.1 hF
  obtain rfl := List.map_eq_nil_iff.1 hF
  simp only [Prod.mk.injEq] at h0 h1 h2 h3 h4 h5
  obtain ⟨n0, t0, o0⟩ := h0
  obtain ⟨n1, t1, o1⟩ := h1
  obtain ⟨n2, t2, o2⟩ := h2
  obtain ⟨n3, t3, o3⟩ := h3
  obtain ⟨n4, t4, o4⟩ := h4
  obtain ⟨n5, t5, o5⟩ := h5
  by_cases e0 : a0 = b0
  · subst e0
    by_cases e1 : a1 = b1
    · subst e1
      by_cases e2 : a2 = b2
      · subst e2
        by_cases e3 : a3 = b3
        · subst e3
          by_cases e4 : a4 = b4
          · subst e4
            simp [Op.eqFields, n0, t0, o0, n1, t1, o1, n2, t2, o2, n3, t3, o3, n4, t4, o4, n5, t5, o5, go_sem]
          · have q := str_ne' e4
            simp [Op.eqFields, n0, t0, o0, n1, t1, o1, n2, t2, o2, n3, t3, o3, n4, t4, o4, n5, t5, o5, go_sem, e4, q]
        · simp [Op.eqFields, n0, t0, o0, n1, t1, o1, n2, t2, o2, n3, t3, o3, n4, t4, o4, n5, t5, o5, go_sem, e3]
      · have q := str_ne' e2
        simp [Op.eqFields, n0, t0, o0, n1, t1, o1, n2, t2, o2, n3, t3, o3, n4, t4, o4, n5, t5, o5, go_sem, e2, q]
    · simp [Op.eqFields, n0, t0, o0, n1, t1, o1, n2, t2, o2, n3, t3, o3, n4, t4, o4, n5, t5, o5, go_sem, e1]
  · simp [Op.eqFields, n0, t0, o0, n1, t1, o1, n2, t2, o2, n3, t3, o3, n4, t4, o4, n5, t5, o5, go_sem, e0]
set_option maxHeartbeats 1000000 in
set_option maxRecDepth 100000 in
theorem sameDecl_any (d e : Dcl) (w : World) :
    Calls Tryz.prog 32 #[.agg #[.bool d.lock, .int .i64 d.label, .string d.name, .int .i64 d.size, .string d.by_, .int .i64 d.at_], .agg #[.bool e.lock, .int .i64 e.label, .string e.name, .int .i64 e.size, .string e.by_, .int .i64 e.at_]] w fun x w' => x = .returned (.bool (deqD d e)) /\ Below w.heap.size w w' := by
  have hq := fun w => decl_eq d.lock e.lock d.label e.label d.size e.size d.name e.name d.by_ e.by_ w
  have HD : Hid (deqD d e = (decide (d.lock = e.lock) && decide (d.label = e.label) && decide (d.name = e.name) && decide (d.size = e.size) && decide (d.by_ = e.by_))) := rfl
  have hG := dclG
  go_enter Tryz.func32, Tryz.ntmps32
  go_wp2
  go_ret
  refine ⟨by rw [HD.out]; simp, ?_⟩
  repeat (first | exact Below.refl _ _ | refine Below.setCell ?_ (by simp) _ | refine Below.alloc ?_ (by simp) _)
set_option maxHeartbeats 2000000 in
set_option maxRecDepth 100000 in
theorem eqDecls_any (kv kv' : Value) (ks ks' : List Dcl) (w : World) (hK : Dcls 0 w.heap.size w kv ks) (hK' : Dcls 0 w.heap.size w kv' ks') :
    Calls Tryz.prog 31 #[kv, kv', .func (.func 32) #[] #[]] w fun e w' => e = .returned (.bool (listEq deqD ks ks')) /\ Below w.heap.size w w' := by
  have HK := Lib.hid hK
  have HK' := Lib.hid hK'
  obtain ⟨ao, cap, rfl, hl, _⟩ := hK
  obtain ⟨ao', cap', rfl, hl', _⟩ := hK'
  by_cases hne : ks.length = ks'.length
  · have hneI : ¬ (ks.length : Int) ≠ (ks'.length : Int) := by omega
    have HNE := Lib.hid hne
    go_enter Tryz.func31, Tryz.ntmps31
    go_wp2
    clear hne hneI
    go_loopw [17] (fun i wr => ∃ k : Nat, k <= ks.length /\ i = .int .i64 k /\ Below w.heap.size w wr /\ ∀ j x y, j < k -> ks[j]? = some x -> ks'[j]? = some y -> deqD x y = true) (fun i _ => ks.length - (intOf i).toNat)
    case atStart => exact ⟨0, Nat.zero_le _, rfl, Below.refl _ _, fun j x y hj => by omega⟩
    case round =>
      obtain ⟨k, hk, rfl, hbr, hall⟩ := hrel
      have hzr := hbr.size
      by_cases hlt : k < ks.length
      · have hlt' : k < ks'.length := by have := HNE.out; omega
        obtain ⟨x, hx⟩ : ∃ x, ks[k]? = some x := ⟨ks[k], by simp [hlt]⟩
        obtain ⟨y, hy⟩ : ∃ y, ks'[k]? = some y := ⟨ks'[k], by simp [hlt']⟩
        obtain ⟨_, _, e, _, hKr⟩ := HK.out.on hbr
        cases e
        obtain ⟨_, _, e, _, hKr'⟩ := HK'.out.on hbr
        cases e
        obtain ⟨_, g, off, rfl, _, hg, _, h0, h1, h2, h3, h4, h5⟩ := hKr k x hx
        obtain ⟨_, g', off', rfl, _, hg', _, i0, i1, i2, i3, i4, i5⟩ := hKr' k y hy
        have hgr : g < wr.heap.size := by omega
        have hgr' : g' < wr.heap.size := by omega
        have P := fun w => sameDecl_any x y w
        have HX := Lib.hid (And.intro hx hy)
        clear hKr hKr' hx hy
        by_cases ht : deqD x y = true
        · rw [ht] at P
          have HTQ := Lib.hid ht
          clear ht
          go_wp2_with (go_at_call 32; refine (P _).mono ?_; rintro e w1 ⟨rfl, hb1⟩)
          go_roundw
          case rel =>
            refine ⟨k + 1, by omega, by go_num, ?_, fun j x' y' hj hx' hy' => ?_⟩
            · exact ((hbr.alloc hzr _).alloc (by rw [alloc_size]; omega) _).trans (hb1.mono (by rw [alloc_size, alloc_size]; omega))
            · by_cases hjk : j = k
              · subst hjk
                rw [HX.out.1] at hx'
                rw [HX.out.2] at hy'
                cases hx'; cases hy'
                exact HTQ.out
              · exact hall j x' y' (by omega) hx' hy'
          case measure => simp [intOf]; omega
        · have htf : deqD x y = false := by simpa using ht
          rw [htf] at P
          have HTQ := Lib.hid htf
          clear ht htf
          go_wp2_with (go_at_call 32; refine (P _).mono ?_; rintro e w1 ⟨rfl, hb1⟩)
          go_ret
          refine ⟨by rw [listEq_false HX.out.1 HX.out.2 HTQ.out]; rfl, ?_⟩
          exact ((hbr.alloc hzr _).alloc (by rw [alloc_size]; omega) _).trans (hb1.mono (by rw [alloc_size, alloc_size]; omega))
      · obtain rfl : k = ks.length := by omega
        have hle : listEq deqD ks ks' = true := listEq_true HNE.out fun i x y hx hy => hall i x y (by
          have := (List.getElem?_eq_some_iff.1 hx).1; omega) hx hy
        have HL := Lib.hid hle
        have hend : ¬ (ks.length : Int) < (ks'.length : Int) := by have := HNE.out; omega
        clear hle
        go_wp2
        go_ret
        exact ⟨by rw [HL.out]; rfl, hbr⟩
  · have hneI : (ks.length : Int) ≠ (ks'.length : Int) := by omega
    have HL := Lib.hid (listEq_ne (f := deqD) hne)
    clear hne
    go_enter Tryz.func31, Tryz.ntmps31
    go_wp2
    go_ret
    exact ⟨by rw [HL.out]; rfl, Below.refl _ _⟩
def beqB (m n : Nat) (a b : List Stm) : Bool := listEq (seqS m n) a b
set_option maxHeartbeats 2000000 in
set_option maxRecDepth 100000 in
theorem eqThreads_any (m n : Nat) (kv kv' : Value) (ks ks' : List (List Stm)) (w : World) (hK : Thrs 0 w.heap.size m n w kv ks) (hK' : Thrs 0 w.heap.size m n w kv' ks') :
    Calls Tryz.prog 33 #[kv, kv', .func (.func 34) #[] #[]] w fun e w' => e = .returned (.bool (listEq (beqB m n) ks ks')) /\ Below w.heap.size w w' := by
  have HK := Lib.hid hK
  have HK' := Lib.hid hK'
  obtain ⟨ao, cap, rfl, hl, _⟩ := hK
  obtain ⟨ao', cap', rfl, hl', _⟩ := hK'
  by_cases hne : ks.length = ks'.length
  · have hneI : ¬ (ks.length : Int) ≠ (ks'.length : Int) := by omega
    have HNE := Lib.hid hne
    go_enter Tryz.func33, Tryz.ntmps33
    go_wp2
    clear hne hneI
    go_loopw [17] (fun i wr => ∃ k : Nat, k <= ks.length /\ i = .int .i64 k /\ Below w.heap.size w wr /\ ∀ j x y, j < k -> ks[j]? = some x -> ks'[j]? = some y -> beqB m n x y = true) (fun i _ => ks.length - (intOf i).toNat)
    case atStart => exact ⟨0, Nat.zero_le _, rfl, Below.refl _ _, fun j x y hj => by omega⟩
    case round =>
      obtain ⟨k, hk, rfl, hbr, hall⟩ := hrel
      have hzr := hbr.size
      by_cases hlt : k < ks.length
      · have hlt' : k < ks'.length := by have := HNE.out; omega
        obtain ⟨x, hx⟩ : ∃ x, ks[k]? = some x := ⟨ks[k], by simp [hlt]⟩
        obtain ⟨y, hy⟩ : ∃ y, ks'[k]? = some y := ⟨ks'[k], by simp [hlt']⟩
        obtain ⟨_, _, e, _, hKr⟩ := HK.out.on hbr
        cases e
        obtain ⟨_, _, e, _, hKr'⟩ := HK'.out.on hbr
        cases e
        obtain ⟨g, off, ta, tc, rfl, _, hg, _, h0, hS⟩ := hKr k x hx
        obtain ⟨g', off', ta', tc', rfl, _, hg', _, i0, hS'⟩ := hKr' k y hy
        have P := sameBlock_of (sameStmt_all m n) _ _ _ _ wr (hS.carry (Nat.le_refl _) hzr (fun _ _ _ _ _ h => h) fun _ _ hr => hr.carry (Nat.le_refl _) hzr (Same35.refl _ _ _) (fun _ _ _ _ _ h => h)) (hS'.carry (Nat.le_refl _) hzr (fun _ _ _ _ _ h => h) fun _ _ hr => hr.carry (Nat.le_refl _) hzr (Same35.refl _ _ _) (fun _ _ _ _ _ h => h))
        have HX := Lib.hid (And.intro hx hy)
        clear hKr hKr' hx hy hS hS'
        by_cases ht : listEq (seqS m n) x y = true
        · rw [ht] at P
          have HTQ : Hid (beqB m n x y = true) := ht
          clear ht
          go_wp2_with (go_at_call 34; refine P.mono ?_; rintro e w1 ⟨rfl, hb1⟩)
          go_roundw
          case rel =>
            refine ⟨k + 1, by omega, by go_num, hbr.trans (hb1.mono hzr), fun j x' y' hj hx' hy' => ?_⟩
            by_cases hjk : j = k
            · subst hjk
              rw [HX.out.1] at hx'
              rw [HX.out.2] at hy'
              cases hx'; cases hy'
              exact HTQ.out
            · exact hall j x' y' (by omega) hx' hy'
          case measure => simp [intOf]; omega
        · have htf : listEq (seqS m n) x y = false := by simpa using ht
          rw [htf] at P
          have HTQ : Hid (beqB m n x y = false) := htf
          clear ht htf
          go_wp2_with (go_at_call 34; refine P.mono ?_; rintro e w1 ⟨rfl, hb1⟩)
          go_ret
          exact ⟨by rw [listEq_false HX.out.1 HX.out.2 HTQ.out]; rfl, hbr.trans (hb1.mono hzr)⟩
      · obtain rfl : k = ks.length := by omega
        have hle : listEq (beqB m n) ks ks' = true := listEq_true HNE.out fun i x y hx hy => hall i x y (by
          have := (List.getElem?_eq_some_iff.1 hx).1; omega) hx hy
        have HL := Lib.hid hle
        have hend : ¬ (ks.length : Int) < (ks'.length : Int) := by have := HNE.out; omega
        clear hle
        go_wp2
        go_ret
        exact ⟨by rw [HL.out]; rfl, hbr⟩
  · have hneI : (ks.length : Int) ≠ (ks'.length : Int) := by omega
    have HL := Lib.hid (listEq_ne (f := beqB m n) hne)
    clear hne
    go_enter Tryz.func33, Tryz.ntmps33
    go_wp2
    go_ret
    exact ⟨by rw [HL.out]; rfl, Below.refl _ _⟩
def peqP (m n : Nat) (p q : Prg) : Bool := listEq deqD p.decls q.decls && listEq (beqB m n) p.threads q.threads
theorem dcls_later {w w' : World} {v : Value} {ds : List Dcl} (h : Dcls 0 w.heap.size w v ds) (hb : Below w.heap.size w w') : Dcls 0 w'.heap.size w' v ds := by
  have hz := hb.size
  obtain ⟨ao, cap, rfl, hl, h⟩ := h.on hb
  refine ⟨ao, cap, rfl, hl, fun i d hd => ?_⟩
  obtain ⟨hf, g, off, e, hlo, hg, r⟩ := h i d hd
  exact ⟨hf, g, off, e, Nat.zero_le _, by omega, r⟩
theorem thrs_later {m n : Nat} {w w' : World} {v : Value} {ts : List (List Stm)} (h : Thrs 0 w.heap.size m n w v ts) (hb : Below w.heap.size w w') : Thrs 0 w'.heap.size m n w' v ts := by
  have hz := hb.size
  obtain ⟨ao, cap, rfl, hl, h⟩ := h.on hb
  refine ⟨ao, cap, rfl, hl, fun i ss hs => ?_⟩
  obtain ⟨g, off, tao, tcap, e, hlo, hg, hc, h0, h1⟩ := h i ss hs
  exact ⟨g, off, tao, tcap, e, Nat.zero_le _, by omega, hc, h0, h1.carry (Nat.zero_le _) hz (fun _ _ _ _ _ h => h) fun _ _ hr => hr.carry (Nat.zero_le _) hz (Same35.refl _ _ _) (fun _ _ _ _ _ h => h)⟩
set_option maxHeartbeats 2000000 in
set_option maxRecDepth 100000 in
theorem same_any (m n : Nat) (p q : Prg) (dv tv dv' tv' : Value) (w : World) (hD : Dcls 0 w.heap.size w dv p.decls) (hT : Thrs 0 w.heap.size m n w tv p.threads) (hD' : Dcls 0 w.heap.size w dv' q.decls) (hT' : Thrs 0 w.heap.size m n w tv' q.threads) :
    Calls Tryz.prog 14 #[.agg #[dv, tv], .agg #[dv', tv']] w fun e w' => e = .returned (.bool (peqP m n p q)) /\ Below w.heap.size w w' := by
  have PD : ∀ w', Below w.heap.size w w' -> Calls Tryz.prog 31 #[dv, dv', .func (.func 32) #[] #[]] w' fun e w'' => e = .returned (.bool (listEq deqD p.decls q.decls)) /\ Below w'.heap.size w' w'' := fun w' hb => eqDecls_any _ _ _ _ w' (dcls_later hD hb) (dcls_later hD' hb)
  have PT : ∀ w', Below w.heap.size w w' -> Calls Tryz.prog 33 #[tv, tv', .func (.func 34) #[] #[]] w' fun e w'' => e = .returned (.bool (listEq (beqB m n) p.threads q.threads)) /\ Below w'.heap.size w' w'' := fun w' hb => eqThreads_any m n _ _ _ _ w' (thrs_later hT hb) (thrs_later hT' hb)
  have hbb : ∀ o o', Below w.heap.size w ((w.alloc o).alloc o') := fun o o' => ((Below.refl _ _).alloc (Nat.le_refl _) o).alloc (by rw [alloc_size]; omega) o'
  have HP : Hid (peqP m n p q = (listEq deqD p.decls q.decls && listEq (beqB m n) p.threads q.threads)) := rfl
  rw [HP.out]
  obtain ⟨da, dc, rfl, _⟩ := hD
  obtain ⟨ta, tc, rfl, _⟩ := hT
  obtain ⟨da', dc', rfl, _⟩ := hD'
  obtain ⟨ta', tc', rfl, _⟩ := hT'
  obtain ⟨q1, hq1⟩ : ∃ b, listEq deqD p.decls q.decls = b := ⟨_, rfl⟩
  obtain ⟨q2, hq2⟩ : ∃ b, listEq (beqB m n) p.threads q.threads = b := ⟨_, rfl⟩
  rw [hq1] at PD ⊢
  rw [hq2] at PT ⊢
  clear hq1 hq2 HP
  cases q1 <;> cases q2 <;> (
    go_enter Tryz.func14, Tryz.ntmps14
    go_wp2_with (first
      | (go_at_call 31; refine (PD _ (hbb _ _)).mono ?_; rintro e w1 ⟨rfl, hb1⟩; have hW1 := (hbb _ _).trans (hb1.mono (by simp; omega)); have hc1 := fun b o (h : b < _) => hb1.cell (p := ⟨b, o, none⟩) h; simp only [alloc_size] at hc1)
      | (go_at_call 33; refine (PT _ hW1).mono ?_; rintro e w2 ⟨rfl, hb2⟩; have hW2 := hW1.trans (hb2.mono (by have := hW1.size; omega))))
    go_ret
    first
      | exact ⟨by simp, hW2⟩
      | exact ⟨by simp, hW1⟩)
end Go.Proofs.YtfginegegaokbaaGreatDoor
