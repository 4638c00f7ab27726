/- What the maker's cellOf answers, when it is called. Conditions: the maker lies in a block of its own. -/
import Derived.Test.YtfginegegaokbaaGreatDoorMakeBin
namespace Go.Proofs.YtfginegegaokbaaGreatDoor
open Go.ChangeShapes Go.WideShapes Go.ChangeAt Go.RowKit
set_option linter.unusedVariables false
set_option linter.unusedSimpArgs false

def MadeT (B bm : Nat) (E : Env) (n : Nat) (w : World) (tn : Tree × List UInt8) (arr : ByteArray) (e : Ending) (w' : World) : Prop :=
  ∃ v, e = .returned (.tuple #[.string arr, v]) ∧ ERep w.heap.size w'.heap.size w' n v tn.1 ∧ MakerAt B bm E tn.2 w' ∧ w.grownBy w' (some bm)
theorem made_tuple {B bm : Nat} {E : Env} {n : Nat} {w w' : World} {tn : Tree × List UInt8} {v : Value} (arr : ByteArray) (h : Made B bm E n w tn (.returned v) w') : MadeT B bm E n w tn arr (.returned (.tuple #[.string arr, v])) w' := by
  obtain ⟨v', e, h⟩ := h
  cases e
  exact ⟨v, rfl, h⟩
def zeroM (E : Env) (ns : List UInt8) : Tree × List UInt8 := match counterUpto E E.loc.length with | some s => (nameT s, ns.tail) | none => (litT (nxV ns.tail 4), ns.tail.tail)
def CellC (E : Env) (f : Nat) : Prop := ∀ (B bm : Nat) (ns : List UInt8) (deep : Nat) (arr : ByteArray) (w : World), 4 ≤ deep + f → deep ≤ 99 → MakerAt B bm E ns w →
  Calls Tryz.prog 72 #[.pointer (some ⟨bm, 0, none⟩), .string arr, .int .i64 deep] w (MadeT B bm E (2 * f + 2) w (placeM (pubM E f) E deep ns) arr)
set_option maxHeartbeats 400000 in
set_option maxRecDepth 100000 in
theorem cellOf_two (B bm : Nat) (E : Env) (n deep : Nat) (arr : ByteArray) (ns : List UInt8) (w : World) (hM : MakerAt B bm E ns w) (hd : deep ≤ 99) (hcase : nxV ns 3 = 2) :
    Calls Tryz.prog 72 #[.pointer (some ⟨bm, 0, none⟩), .string arr, .int .i64 deep] w (MadeT B bm E (n + 1) w (litT (nxV ns.tail 4), ns.tail.tail) arr) := by
  have hB := hM.base
  have hbm := hM.lt
  have hMA := hM.alloc zeroE
  have H1 := next_any B bm E ns 3 _ hMA (by omega) (by omega)
  have HR := Lib.hid (zeroE_at w)
  have HM := Lib.hid hM
  have HMA := Lib.hid hMA
  have H4 := fun w' h => next_any B bm E ns.tail 4 w' h (by omega) (by omega)
  have hlt := nxV_lt ns.tail 4 (by omega)
  obtain ⟨q, hq⟩ : ∃ q, q = nxV ns.tail 4 := ⟨_, rfl⟩
  rw [← hq] at H4 hlt ⊢
  rw [hcase] at H1
  clear hcase hq hM hMA
  go_enter Tryz.func72, Tryz.ntmps72
  go_wp2_with (first
    | (go_at_call 94; refine (literal_any bm q (by omega) w2).mono ?_; rintro e w3 ⟨rfl, hb3⟩; have hr3 := (hb3.block _ (heap_lt hr2)).trans hr2; obtain ⟨c0, c1, c2, c3, c4, c5⟩ := box_cells hr3; obtain ⟨d0, d1, d2, d3, d4, d5⟩ := box_free hr3; have hz3 := heap_lt hr3)
    | (go_at_call 21; refine (H4 w1 hM1.out).mono ?_; rintro e w2 ⟨rfl, hM2, hg2⟩; have hr2 := heap_grown hM1.out hg2 hr1; replace hM2 := Lib.hid hM2)
    | (go_at_call 21; refine H1.mono ?_; rintro e w1 ⟨rfl, hM1, hg1⟩; have hr1 := heap_grown HMA.out hg1 HR.out; replace hM1 := Lib.hid hM1))
  have hW := put6_heap hr3 (.int .i64 0) (.int .i64 0) (.string ⟨#[]⟩) (.int .u64 (q : Int)) (.slice none 0 0) (.int .i64 0)
  obtain ⟨e0, e1, e2, e3, e4, e5⟩ := box_cells hW
  exact bodyPost_ret (v := .tuple #[.string arr, .agg #[.int .i64 0, .int .i64 0, .string ⟨#[]⟩, .int .u64 (q : Int), .slice none 0 0, .int .i64 0]]) (by simp [results, Tryz.results72, go_sem, e0, e1, e2, e3, e4, e5]) rfl (made_tuple arr (made_end hB (grownBy_trans (grownBy_trans hg1 hg2) (grownBy_below hb3)) (hM2.out.below hb3) hr3 (erep_lit (by omega))))

set_option maxHeartbeats 400000 in
set_option maxRecDepth 100000 in
theorem cellOf_one (B bm : Nat) (E : Env) (f deep : Nat) (arr : ByteArray) (ns : List UInt8) (w : World) (hM : MakerAt B bm E ns w) (hd : deep ≤ 99) (ih : PubC E f) (hf : 4 ≤ deep + f) (hcase : nxV ns 3 = 1) :
    Calls Tryz.prog 72 #[.pointer (some ⟨bm, 0, none⟩), .string arr, .int .i64 deep] w (MadeT B bm E (2 * f + 2) w (binT 3 (pubM E f (deep + 1) ns.tail).1 (litT 3), (pubM E f (deep + 1) ns.tail).2) arr) := by
  have hB := hM.base
  have hbm := hM.lt
  have hMA := hM.alloc zeroE
  have H1 := next_any B bm E ns 3 _ hMA (by omega) (by omega)
  have HR := Lib.hid (zeroE_at w)
  have HM := Lib.hid hM
  have HMA := Lib.hid hMA
  rw [hcase] at H1
  obtain ⟨t1, n1, hp1⟩ : ∃ t n, pubM E f (deep + 1) ns.tail = (t, n) := ⟨_, _, rfl⟩
  have P1 := ih.at B bm deep _ _ _ (by omega) (by omega) hp1
  rw [hp1]
  clear hcase hp1 hM hMA
  go_enter Tryz.func72, Tryz.ntmps72
  go_wp2_with (first
    | (go_at_call 94; refine (literal_any bm 3 (by omega) w2).mono ?_; rintro e w3 ⟨rfl, hb3⟩; have hr3 := (hb3.block _ (heap_lt hr2)).trans hr2; obtain ⟨c0, c1, c2, c3, c4, c5⟩ := box_cells hr3; obtain ⟨d0, d1, d2, d3, d4, d5⟩ := box_free hr3; have hz3 := heap_lt hr3)
    | (go_at_call 71; refine (P1 w1 hM1.out).mono ?_; rintro e w2 ⟨v2, rfl, hE2, hM2, hg2⟩; have hr2 := heap_grown hM1.out hg2 hr1; replace hM2 := Lib.hid hM2; obtain ⟨_, kv2, rfl, _⟩ := id hE2; replace hE2 := Lib.hid hE2)
    | (go_at_call 21; refine H1.mono ?_; rintro e w1 ⟨rfl, hM1, hg1⟩; have hr1 := heap_grown HMA.out hg1 HR.out; replace hM1 := Lib.hid hM1))
  have hs1 := hg1.size
  rw [alloc_size] at hs1
  have hs2 := hg2.size
  have hs3 := hb3.size
  have hW := (Lib.alloc_old _ (.cells #[.int .i64 t1.kind, .int .i64 t1.op, .string t1.name, .int .u64 t1.value, kv2, .int .i64 t1.at_, .int .i64 0, .int .i64 0, .string ⟨#[]⟩, .int .u64 3, .slice none 0 0, .int .i64 0] 57) _ (heap_lt (put6_heap hr3 (.int .i64 3) (.int .i64 3) (.string ⟨#[]⟩) (.int .u64 0) (.slice (some ⟨w3.heap.size, 0, none⟩) 2 2) (.int .i64 0)))).trans (put6_heap hr3 (.int .i64 3) (.int .i64 3) (.string ⟨#[]⟩) (.int .u64 0) (.slice (some ⟨w3.heap.size, 0, none⟩) 2 2) (.int .i64 0))
  obtain ⟨e0, e1, e2, e3, e4, e5⟩ := box_cells hW
  exact bodyPost_ret (v := .tuple #[.string arr, .agg #[.int .i64 3, .int .i64 3, .string ⟨#[]⟩, .int .u64 0, .slice (some ⟨w3.heap.size, 0, none⟩) 2 2, .int .i64 0]]) (by simp [results, Tryz.results72, go_sem, e0, e1, e2, e3, e4, e5]) rfl (made_tuple arr (made_end_alloc hB (grownBy_trans (grownBy_trans hg1 hg2) (grownBy_below hb3)) (hM2.out.below hb3) hr3 ⟨by simp [binT], _, rfl, kids2 (heap_alloc_new w3 _) (by omega) (by rw [alloc_size]; omega) (carry_alloc (hE2.out.mono hb3.size hb3) _ (by omega) (by omega)) (erep_lit (n := 2 * f) (v := 3) (by omega))⟩))

set_option maxHeartbeats 400000 in
set_option maxRecDepth 100000 in
theorem cellOf_zero (B bm : Nat) (E : Env) (n deep : Nat) (arr : ByteArray) (ns : List UInt8) (w : World) (hM : MakerAt B bm E ns w) (hd : deep ≤ 99) (hcase : nxV ns 3 = 0) (tn : Tree × List UInt8) (ht : Hid (tn = zeroM E ns)) :
    Calls Tryz.prog 72 #[.pointer (some ⟨bm, 0, none⟩), .string arr, .int .i64 deep] w (MadeT B bm E (n + 1) w tn arr) := by
  have hB := hM.base
  have hbm := hM.lt
  have hMA := hM.alloc zeroE
  have H1 := next_any B bm E ns 3 _ hMA (by omega) (by omega)
  have HR := Lib.hid (zeroE_at w)
  have HM := Lib.hid hM
  have HMA := Lib.hid hMA
  have H4 := fun w' h => next_any B bm E ns.tail 4 w' h (by omega) (by omega)
  have hlt := nxV_lt ns.tail 4 (by omega)
  obtain ⟨q, hq⟩ : ∃ q, q = nxV ns.tail 4 := ⟨_, rfl⟩
  rw [← hq] at H4 hlt
  rw [hcase] at H1
  have hll := loc_le hM
  have Hq := Lib.hid hq
  clear hcase hq hM hMA
  go_enter Tryz.func72, Tryz.ntmps72
  go_wp2_with (first
    | (go_at_call 21; refine H1.mono ?_; rintro e w1 ⟨rfl, hM1, hg1⟩; have hr1 := heap_grown HMA.out hg1 HR.out; replace hM1 := Lib.hid hM1; obtain ⟨lao, lcap, hlc, hli⟩ := locals_cell hM1.out; obtain ⟨cao, ccap, hcc, hci⟩ := count_cell hM1.out; replace hli := Lib.hid hli; replace hci := Lib.hid hci; generalize hL : E.loc.length = L at *; replace hL := Lib.hid hL))
  go_loop [8] (fun i => ∃ j : Nat, j ≤ L ∧ i = .int .i64 ((j : Int) - 1) ∧ Hid (counterUpto E L = counterUpto E j)) (fun i => (intOf i + 1).toNat)
  case atStart => exact ⟨L, Nat.le_refl _, rfl, rfl⟩
  case round =>
    obtain ⟨j, hj, rfl, hcu⟩ := hrel
    cases j with
    | zero =>
      have hnone : counterUpto E L = none := hcu.out
      obtain rfl : tn = (litT q, ns.tail.tail) := by rw [ht.out, zeroM, hL.out, hnone, Hq.out]
      clear hnone ht
      go_wp2_with (first
        | (go_at_call 94; refine (literal_any bm q (by omega) w2).mono ?_; rintro e w3 ⟨rfl, hb3⟩; have hr3 := (hb3.block _ (heap_lt hr2)).trans hr2; obtain ⟨c0, c1, c2, c3, c4, c5⟩ := box_cells hr3; obtain ⟨d0, d1, d2, d3, d4, d5⟩ := box_free hr3; have hz3 := heap_lt hr3)
        | (go_at_call 21; refine (H4 w1 hM1.out).mono ?_; rintro e w2 ⟨rfl, hM2, hg2⟩; have hr2 := heap_grown hM1.out hg2 hr1; replace hM2 := Lib.hid hM2))
      have hW := put6_heap hr3 (.int .i64 0) (.int .i64 0) (.string ⟨#[]⟩) (.int .u64 (q : Int)) (.slice none 0 0) (.int .i64 0)
      obtain ⟨e0, e1, e2, e3, e4, e5⟩ := box_cells hW
      exact bodyPost_ret (v := .tuple #[.string arr, .agg #[.int .i64 0, .int .i64 0, .string ⟨#[]⟩, .int .u64 (q : Int), .slice none 0 0, .int .i64 0]]) (by simp [results, Tryz.results72, go_sem, e0, e1, e2, e3, e4, e5]) rfl (made_tuple arr (made_end hB (grownBy_trans (grownBy_trans hg1 hg2) (grownBy_below hb3)) (hM2.out.below hb3) hr3 (erep_lit (by omega))))
    | succ j =>
      obtain ⟨cg, rfl, hcv⟩ := hci.out j (by omega)
      obtain ⟨lg, rfl, hlv⟩ := hli.out j (by omega)
      have hstep : Hid (counterUpto E (j + 1) = if 0 < E.cnt.getD j 0 ∧ E.cnt.getD j 0 ≤ 4 then some (E.loc.getD j ⟨#[]⟩) else counterUpto E j) := rfl
      generalize E.cnt.getD j 0 = c at *
      generalize E.loc.getD j ⟨#[]⟩ = s at *
      have ej : (((j + 1 : Nat) : Int) - 1) = (j : Int) := by omega
      rw [ej]
      by_cases hc : 0 < c
      · by_cases hc4 : c ≤ 4
        · have hsome : counterUpto E L = some s := by rw [hcu.out, hstep.out, if_pos ⟨hc, hc4⟩]
          obtain rfl : tn = (nameT s, ns.tail) := by rw [ht.out, zeroM, hL.out, hsome]
          clear hsome ht
          go_wp2_with (first
            | (go_at_call 93; refine (name_any _ w1).mono ?_; rintro e w3 ⟨rfl, hb3⟩; have hr3 := (hb3.block _ (heap_lt hr1)).trans hr1; obtain ⟨c0, c1, c2, c3, c4, c5⟩ := box_cells hr3; obtain ⟨d0, d1, d2, d3, d4, d5⟩ := box_free hr3; have hz3 := heap_lt hr3))
          have hW := put6_heap hr3 (.int .i64 1) (.int .i64 0) (.string (s)) (.int .u64 0) (.slice none 0 0) (.int .i64 0)
          obtain ⟨e0, e1, e2, e3, e4, e5⟩ := box_cells hW
          exact bodyPost_ret (v := .tuple #[.string arr, .agg #[.int .i64 1, .int .i64 0, .string (s), .int .u64 0, .slice none 0 0, .int .i64 0]]) (by simp [results, Tryz.results72, go_sem, e0, e1, e2, e3, e4, e5]) rfl (made_tuple arr (made_end hB (grownBy_trans hg1 (grownBy_below hb3)) (hM1.out.below hb3) hr3 (erep_name _)))
        · have hcu2 : Hid (counterUpto E L = counterUpto E j) := by show _ = _; rw [hcu.out, hstep.out, if_neg (by omega)]
          go_wp2
          go_round
          case rel => exact ⟨j, by omega, by go_num, hcu2⟩
          case measure => simp [intOf]
      · have hcu2 : Hid (counterUpto E L = counterUpto E j) := by show _ = _; rw [hcu.out, hstep.out, if_neg (by omega)]
        go_wp2
        go_round
        case rel => exact ⟨j, by omega, by go_num, hcu2⟩
        case measure => simp [intOf]


theorem cellOf_all {E : Env} {f : Nat} (ih : PubC E f) : CellC E f := fun B bm ns deep arr w hf hd hM => by
  have hlt := nxV_lt ns 3 (by omega)
  by_cases h0 : nxV ns 3 = 0
  · have e : placeM (pubM E f) E deep ns = zeroM E ns := by unfold placeM zeroM; rw [if_pos h0]; rfl
    rw [e]
    exact cellOf_zero B bm E (2 * f + 1) deep arr ns w hM hd h0 _ rfl
  · by_cases h1 : nxV ns 3 = 1
    · have e : placeM (pubM E f) E deep ns = (binT 3 (pubM E f (deep + 1) ns.tail).1 (litT 3), (pubM E f (deep + 1) ns.tail).2) := by unfold placeM; rw [if_neg h0, if_pos h1]
      rw [e]
      exact cellOf_one B bm E f deep arr ns w hM hd ih hf h1
    · have e : placeM (pubM E f) E deep ns = (litT (nxV ns.tail 4), ns.tail.tail) := by unfold placeM; rw [if_neg h0, if_neg h1]
      rw [e]
      exact cellOf_two B bm E (2 * f + 1) deep arr ns w hM hd (by omega)
end Go.Proofs.YtfginegegaokbaaGreatDoor
