/- What tree.sameStmt, tree.sameBlock and slices.EqualFunc over statements answer, when they are called. Conditions: both lie in memory as their plain data say. -/
import Derived.Test.YtfginegegaokbaaGreatDoorSameExpr
namespace Go.Proofs.YtfginegegaokbaaGreatDoor
open Go.ChangeShapes Go.WideShapes Go.ChangeAt Go.RowKit
set_option linter.unusedVariables false
set_option linter.unusedSimpArgs false

/-- The same statement but for where it stands. -/
def seqS (m : Nat) : Nat → Stm → Stm → Bool
  | 0, _, _ => false
  | n + 1, s, t => decide (s.kind = t.kind) && decide (s.name = t.name) && decide (s.count = t.count) && listEq (teq m) s.exprs t.exprs && listEq (seqS m n) s.body t.body && listEq (seqS m n) s.els t.els
def StmtEqC (m n : Nat) : Prop := ∀ (v v' : Value) (s t : Stm) (w : World), SRep 0 w.heap.size w m n v s → SRep 0 w.heap.size w m n v' t →
  Calls Tryz.prog 54 #[v, v'] w fun e w' => e = .returned (.bool (seqS m n s t)) ∧ Below w.heap.size w w'
theorem srep_later {m n : Nat} {w w' : World} {v : Value} {s : Stm} (h : SRep 0 w.heap.size w m n v s) (hb : Below w.heap.size w w') : SRep 0 w'.heap.size w' m n v s :=
  h.carry (Nat.le_refl _) hb.size (Same35.of_below hb) (Same45.of_below hb)
theorem stms_later {m n : Nat} {w w' : World} {v : Value} {ss : List Stm} (h : Stms 0 w.heap.size w (fun v' s' => SRep 0 w.heap.size w m n v' s') v ss) (hb : Below w.heap.size w w') : Stms 0 w'.heap.size w' (fun v' s' => SRep 0 w'.heap.size w' m n v' s') v ss :=
  h.carry (Nat.le_refl _) hb.size (Same45.of_below hb) fun _ _ hr => srep_later hr hb

set_option maxHeartbeats 2000000 in
set_option maxRecDepth 100000 in
theorem eqStmts_of {m n : Nat} (ih : StmtEqC m n) (kv kv' : Value) (ks ks' : List Stm) (w : World) (hK : Stms 0 w.heap.size w (fun v' t' => SRep 0 w.heap.size w m n v' t') kv ks) (hK' : Stms 0 w.heap.size w (fun v' t' => SRep 0 w.heap.size w m n v' t') kv' ks') :
    Calls Tryz.prog 53 #[kv, kv', .func (.func 54) #[] #[]] w fun e w' => e = .returned (.bool (listEq (seqS m n) ks ks')) ∧ Below w.heap.size w w' := by
  have HK := Lib.hid hK
  have HK' := Lib.hid hK'
  obtain ⟨ao, cap, rfl, hl, _⟩ := hK
  obtain ⟨ao', cap', rfl, hl', _⟩ := hK'
  by_cases hne : ks.length = ks'.length
  · have hneI : ¬ (ks.length : Int) ≠ (ks'.length : Int) := by omega
    go_enter Tryz.func53, Tryz.ntmps53
    go_wp2
    go_loopw [17] (fun i wr => ∃ k : Nat, k ≤ ks.length ∧ i = .int .i64 k ∧ Below w.heap.size w wr ∧ ∀ j x y, j < k → ks[j]? = some x → ks'[j]? = some y → seqS m n x y = true) (fun i _ => ks.length - (intOf i).toNat)
    case atStart => exact ⟨0, Nat.zero_le _, rfl, Below.refl _ _, fun j x y hj => by omega⟩
    case round =>
      obtain ⟨k, hk, rfl, hbr, hall⟩ := hrel
      have hzr := hbr.size
      by_cases hlt : k < ks.length
      · have hlt' : k < ks'.length := by omega
        obtain ⟨x, hx⟩ : ∃ x, ks[k]? = some x := ⟨ks[k], by simp [hlt]⟩
        obtain ⟨y, hy⟩ : ∃ y, ks'[k]? = some y := ⟨ks'[k], by simp [hlt']⟩
        obtain ⟨_, _, e, _, hKr⟩ := HK.out.on hbr
        cases e
        obtain ⟨_, _, e, _, hKr'⟩ := HK'.out.on hbr
        cases e
        obtain ⟨g, off, c0, c1, c2, c3, c4, c5, c6, rfl, _, hg, _, h0, h1, h2, h3, h4, h5, h6, hr⟩ := hKr k x hx
        obtain ⟨g', off', d0, d1, d2, d3, d4, d5, d6, rfl, _, hg', _, i0, i1, i2, i3, i4, i5, i6, hr'⟩ := hKr' k y hy
        have hgr : g < wr.heap.size := by omega
        have hgr' : g' < wr.heap.size := by omega
        have hR := Lib.hid hr
        have hR' := Lib.hid hr'
        cases n with
        | zero => exact hr.elim
        | succ n =>
        obtain ⟨_, _, _, ea, ec, ba, bc, la, lc, hv, _⟩ := hr
        simp only [Value.agg.injEq, Array.mk.injEq, List.cons.injEq, and_true] at hv
        obtain ⟨rfl, rfl, rfl, rfl, rfl, rfl, rfl⟩ := hv
        obtain ⟨_, _, _, ea', ec', ba', bc', la', lc', hv, _⟩ := hr'
        simp only [Value.agg.injEq, Array.mk.injEq, List.cons.injEq, and_true] at hv
        obtain ⟨rfl, rfl, rfl, rfl, rfl, rfl, rfl⟩ := hv
        have P : ∀ o o', Calls Tryz.prog 54 #[.agg #[.int .i64 x.kind, .string x.name, .slice ea x.exprs.length ec, .int .i64 x.count, .slice ba x.body.length bc, .slice la x.els.length lc, .int .i64 x.at_], .agg #[.int .i64 y.kind, .string y.name, .slice ea' y.exprs.length ec', .int .i64 y.count, .slice ba' y.body.length bc', .slice la' y.els.length lc', .int .i64 y.at_]] ((wr.alloc o).alloc o') _ := fun o o' =>
          ih _ _ x y ((wr.alloc o).alloc o') (hR.out.carry (Nat.le_refl _) (by rw [alloc_size, alloc_size]; omega) (Same35.of_below (((Below.refl _ _).alloc (by omega) o).alloc (by rw [alloc_size]; omega) o')) (Same45.of_below (((Below.refl _ _).alloc (by omega) o).alloc (by rw [alloc_size]; omega) o'))) (hR'.out.carry (Nat.le_refl _) (by rw [alloc_size, alloc_size]; omega) (Same35.of_below (((Below.refl _ _).alloc (by omega) o).alloc (by rw [alloc_size]; omega) o')) (Same45.of_below (((Below.refl _ _).alloc (by omega) o).alloc (by rw [alloc_size]; omega) o')))
        have HX := Lib.hid (And.intro hx hy)
        clear hKr hKr' hx hy
        by_cases ht : seqS m (n + 1) x y = true
        · rw [ht] at P
          have HTQ := Lib.hid ht
          clear ht
          go_wp2_with (go_at_call 54; refine (P _ _).mono ?_; rintro e w1 ⟨rfl, hb1⟩)
          go_roundw
          case rel =>
            refine ⟨k + 1, by omega, by go_num, ?_, fun j x' y' hj hx' hy' => ?_⟩
            · exact ((hbr.alloc hzr _).alloc (by rw [alloc_size]; omega) _).trans (hb1.mono (by rw [alloc_size, alloc_size]; omega))
            · by_cases hjk : j = k
              · subst hjk
                rw [HX.out.1] at hx'
                rw [HX.out.2] at hy'
                cases hx'; cases hy'
                exact HTQ.out
              · exact hall j x' y' (by omega) hx' hy'
          case measure => simp [intOf]; omega
        · have htf : seqS m (n + 1) x y = false := by simpa using ht
          rw [htf] at P
          have HTQ := Lib.hid htf
          clear ht htf
          go_wp2_with (go_at_call 54; refine (P _ _).mono ?_; rintro e w1 ⟨rfl, hb1⟩)
          go_ret
          refine ⟨by rw [listEq_false HX.out.1 HX.out.2 HTQ.out]; rfl, ?_⟩
          exact ((hbr.alloc hzr _).alloc (by rw [alloc_size]; omega) _).trans (hb1.mono (by rw [alloc_size, alloc_size]; omega))
      · obtain rfl : k = ks.length := by omega
        have hle : listEq (seqS m n) ks ks' = true := listEq_true hne fun i x y hx hy => hall i x y (by
          have := (List.getElem?_eq_some_iff.1 hx).1; omega) hx hy
        have HL := Lib.hid hle
        clear hle
        go_wp2
        go_ret
        exact ⟨by rw [HL.out]; rfl, hbr⟩
  · have hneI : (ks.length : Int) ≠ (ks'.length : Int) := by omega
    have HL := Lib.hid (listEq_ne (f := seqS m n) hne)
    clear hne
    go_enter Tryz.func53, Tryz.ntmps53
    go_wp2
    go_ret
    exact ⟨by rw [HL.out]; rfl, Below.refl _ _⟩
theorem sameBlock_of {m n : Nat} (ih : StmtEqC m n) (kv kv' : Value) (ks ks' : List Stm) (w : World) (hK : Stms 0 w.heap.size w (fun v' t' => SRep 0 w.heap.size w m n v' t') kv ks) (hK' : Stms 0 w.heap.size w (fun v' t' => SRep 0 w.heap.size w m n v' t') kv' ks') :
    Calls Tryz.prog 34 #[kv, kv'] w fun e w' => e = .returned (.bool (listEq (seqS m n) ks ks')) ∧ Below w.heap.size w w' := by
  have P := eqStmts_of ih kv kv' ks ks' w hK hK'
  clear hK hK'
  go_enter Tryz.func34, Tryz.ntmps34
  go_wp2_with (go_at_call 53; refine P.mono ?_; rintro e w1 ⟨rfl, hb1⟩)
  go_ret
  exact ⟨rfl, hb1⟩
theorem seqS_succ (m n : Nat) (s t : Stm) (a1 : Int) (a2 : ByteArray) (a3 : Int) (b1 : Int) (b2 : ByteArray) (b3 : Int) (h1 : s.kind = a1) (h2 : s.name = a2) (h3 : s.count = a3) (k1 : t.kind = b1) (k2 : t.name = b2) (k3 : t.count = b3) :
    seqS m (n + 1) s t = (decide (a1 = b1) && decide (a2 = b2) && decide (a3 = b3) && listEq (teq m) s.exprs t.exprs && listEq (seqS m n) s.body t.body && listEq (seqS m n) s.els t.els) := by
  subst h1 h2 h3 k1 k2 k3; rfl
set_option maxHeartbeats 4000000 in
set_option maxRecDepth 100000 in
theorem sameStmt_succ {m n : Nat} (ih : StmtEqC m n) : StmtEqC m (n + 1) := fun v v' s t w hE hE' => by
  obtain ⟨_, _, _, ea, ec, ba, bc, la, lc, rfl, hX, hB, hL⟩ := hE
  obtain ⟨_, _, _, ea', ec', ba', bc', la', lc', rfl, hX', hB', hL'⟩ := hE'
  have PE : ∀ w', Below w.heap.size w w' → Calls Tryz.prog 83 #[.slice ea s.exprs.length ec, .slice ea' t.exprs.length ec', .func (.func 84) #[] #[]] w' fun e w'' => e = .returned (.bool (listEq (teq m) s.exprs t.exprs)) ∧ Below w'.heap.size w' w'' := fun w' hb => eqExprs_all m _ _ _ _ w' (kids_later hX hb) (kids_later hX' hb)
  have PB : ∀ w', Below w.heap.size w w' → Calls Tryz.prog 34 #[.slice ba s.body.length bc, .slice ba' t.body.length bc'] w' fun e w'' => e = .returned (.bool (listEq (seqS m n) s.body t.body)) ∧ Below w'.heap.size w' w'' := fun w' hb => sameBlock_of ih _ _ _ _ w' (stms_later hB hb) (stms_later hB' hb)
  have PL : ∀ w', Below w.heap.size w w' → Calls Tryz.prog 34 #[.slice la s.els.length lc, .slice la' t.els.length lc'] w' fun e w'' => e = .returned (.bool (listEq (seqS m n) s.els t.els)) ∧ Below w'.heap.size w' w'' := fun w' hb => sameBlock_of ih _ _ _ _ w' (stms_later hL hb) (stms_later hL' hb)
  have hbb : ∀ o o', Below w.heap.size w ((w.alloc o).alloc o') := fun o o' => ((Below.refl _ _).alloc (Nat.le_refl _) o).alloc (by rw [alloc_size]; omega) o'
  obtain ⟨a1, h1⟩ : ∃ a, s.kind = a := ⟨_, rfl⟩
  obtain ⟨a2, h2⟩ : ∃ a, s.name = a := ⟨_, rfl⟩
  obtain ⟨a3, h3⟩ : ∃ a, s.count = a := ⟨_, rfl⟩
  obtain ⟨b1, k1⟩ : ∃ a, t.kind = a := ⟨_, rfl⟩
  obtain ⟨b2, k2⟩ : ∃ a, t.name = a := ⟨_, rfl⟩
  obtain ⟨b3, k3⟩ : ∃ a, t.count = a := ⟨_, rfl⟩
  rw [seqS_succ m n s t a1 a2 a3 b1 b2 b3 h1 h2 h3 k1 k2 k3, h1, h2, h3, k1, k2, k3]
  obtain ⟨q1, hq1⟩ : ∃ q, listEq (teq m) s.exprs t.exprs = q := ⟨_, rfl⟩
  obtain ⟨q2, hq2⟩ : ∃ q, listEq (seqS m n) s.body t.body = q := ⟨_, rfl⟩
  obtain ⟨q3, hq3⟩ : ∃ q, listEq (seqS m n) s.els t.els = q := ⟨_, rfl⟩
  rw [hq1] at PE ⊢
  rw [hq2] at PB ⊢
  rw [hq3] at PL ⊢
  clear hX hX' hB hB' hL hL' h1 h2 h3 k1 k2 k3 hq1 hq2 hq3
  generalize s.at_ = sa
  generalize t.at_ = ta
  generalize s.exprs.length = n1 at PE ⊢
  generalize t.exprs.length = n2 at PE ⊢
  generalize s.body.length = n3 at PB ⊢
  generalize t.body.length = n4 at PB ⊢
  generalize s.els.length = n5 at PL ⊢
  generalize t.els.length = n6 at PL ⊢
  by_cases e1 : a1 = b1
  · subst e1
    by_cases e2 : a2 = b2
    · subst e2
      by_cases e3 : a3 = b3
      · subst e3
        cases q1 <;> cases q2 <;> cases q3 <;> (
          go_enter Tryz.func54, Tryz.ntmps54
          go_wp2_with (first
            | (go_at_call 83; refine (PE _ (hbb _ _)).mono ?_; rintro e w1 ⟨rfl, hb1⟩; have hW1 := (hbb _ _).trans (hb1.mono (by simp; omega)); have hc1 := fun b o (h : b < _) => hb1.cell (p := ⟨b, o, none⟩) h; simp only [alloc_size] at hc1)
            | (go_at_call 34; refine (PL _ hW2).mono ?_; rintro e w3 ⟨rfl, hb3⟩; have hW3 := hW2.trans (hb3.mono (by have := hW2.size; omega)))
            | (go_at_call 34; refine (PB _ hW1).mono ?_; rintro e w2 ⟨rfl, hb2⟩; have hz1 := hb1.size; simp only [alloc_size] at hz1; have hz1a : w.heap.size < w1.heap.size := (by omega); have hz1b : w.heap.size + 1 < w1.heap.size := (by omega); have hW2 := hW1.trans (hb2.mono (by have := hW1.size; omega)); have hc2 := fun b o (h : b < _) => hb2.cell (p := ⟨b, o, none⟩) h))
          go_ret
          first
            | exact ⟨by simp, hW3⟩
            | exact ⟨by simp, hW2⟩
            | exact ⟨by simp, hW1⟩)
      · go_enter Tryz.func54, Tryz.ntmps54
        go_wp2
        go_ret
        exact ⟨by simp [e3], hbb _ _⟩
    · have e2' := str_ne' e2
      go_enter Tryz.func54, Tryz.ntmps54
      go_wp2
      go_ret
      exact ⟨by simp [e2], hbb _ _⟩
  · go_enter Tryz.func54, Tryz.ntmps54
    go_wp2
    go_ret
    exact ⟨by simp [e1], hbb _ _⟩
theorem sameStmt_all (m : Nat) : ∀ n, StmtEqC m n
  | 0 => fun v v' s t w h _ => h.elim
  | n + 1 => sameStmt_succ (sameStmt_all m n)
end Go.Proofs.YtfginegegaokbaaGreatDoor
