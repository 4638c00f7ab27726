/- What the maker's public answers, all ways. Conditions: the maker lies in a block of its own. -/
import Derived.Test.YtfginegegaokbaaGreatDoorMakeCell
namespace Go.Proofs.YtfginegegaokbaaGreatDoor
open Go.ChangeShapes Go.WideShapes Go.ChangeAt Go.RowKit
set_option linter.unusedVariables false
set_option linter.unusedSimpArgs false

theorem put6_alloc {w : World} {r : Nat} {u0 u1 u2 u3 u4 u5 : Value} {o : Obj} (hr : r < w.heap.size) : put6 (w.alloc o) r u0 u1 u2 u3 u4 u5 = (put6 w r u0 u1 u2 u3 u4 u5).alloc o := by
  have key : ∀ (w : World) (j : Nat) (u : Value), r < w.heap.size → (w.alloc o).setCell ⟨r, j, none⟩ u = (w.setCell ⟨r, j, none⟩ u).alloc o ∧ r < (w.setCell ⟨r, j, none⟩ u).heap.size := fun w j u h => ⟨World.setCell_alloc_past o r j u h, by simpa [World.setCell] using h⟩
  obtain ⟨a0, b0⟩ := key w 0 u0 hr
  obtain ⟨a1, b1⟩ := key _ 1 u1 b0
  obtain ⟨a2, b2⟩ := key _ 2 u2 b1
  obtain ⟨a3, b3⟩ := key _ 3 u3 b2
  obtain ⟨a4, b4⟩ := key _ 4 u4 b3
  obtain ⟨a5, b5⟩ := key _ 5 u5 b4
  rw [put6, put6, a0, a1, a2, a3, a4, a5]

set_option maxHeartbeats 400000 in
set_option maxRecDepth 100000 in
theorem public_cell (B bm : Nat) (E : Env) (f deep : Nat) (ns : List UInt8) (w : World) (hM : MakerAt B bm E ns w) (hd : deep ≤ 100) (ih : PubC E f) (hf : 5 ≤ deep + (f + 1)) (h3 : ¬ 3 < deep) (hcase : nxV ns 8 = 3) :
    Calls Tryz.prog 71 #[.pointer (some ⟨bm, 0, none⟩), .int .i64 deep] w (Made B bm E (2 * (f + 1) + 1) w (cellT (dig 113 E) (placeM (pubM E f) E deep ns.tail).1, (placeM (pubM E f) E deep ns.tail).2)) := by
  have hB := hM.base
  have hbm := hM.lt
  have hMA := hM.alloc zeroE
  have hth := thread_cell hM
  have htl := thread_le hM
  have H1 := next_any B bm E ns 8 _ hMA (by omega) (by omega)
  have HR := Lib.hid (zeroE_at w)
  have HM := Lib.hid hM
  have HMA := Lib.hid hMA
  have hcat := cat2 113 (digitB E.thread)
  obtain ⟨t1, n1, hp1⟩ : ∃ t n, placeM (pubM E f) E deep ns.tail = (t, n) := ⟨_, _, rfl⟩
  have C1 := fun w' h => cellOf_all ih B bm ns.tail deep ⟨#[113, digitB E.thread]⟩ w' (by omega) (by omega) h
  rw [hp1] at C1 ⊢
  unfold dig
  rw [hcase] at H1
  clear hcase hp1 hM hMA
  go_enter Tryz.func71, Tryz.ntmps71
  go_wp2_with (first
    | (go_at_call 22; refine (digit_any E.thread htl _).mono ?_; rintro e w' ⟨rfl, rfl⟩)
    | (go_at_call 72; refine (C1 w1 hM1.out).mono ?_; rintro e w2 ⟨v2, rfl, hE2, hM2, hg2⟩; have hr2 := heap_grown hM1.out hg2 hr1; replace hM2 := Lib.hid hM2; obtain ⟨_, kv2, rfl, kao2, kcap2, rfl, _, _⟩ := id hE2; replace hE2 := Lib.hid hE2; obtain ⟨c0, c1, c2, c3, c4, c5⟩ := box_cells hr2; obtain ⟨d0, d1, d2, d3, d4, d5⟩ := box_free hr2; have hz2 := heap_lt hr2)
    | (go_at_call 21; refine H1.mono ?_; rintro e w1 ⟨rfl, hM1, hg1⟩; have hr1 := heap_grown HMA.out hg1 HR.out; replace hM1 := Lib.hid hM1))
  have hs1 := hg1.size
  rw [alloc_size] at hs1
  have hs2 := hg2.size
  have hW0 := put6_heap hr2 (.int .i64 2) (.int .i64 0) (.string ⟨#[113, digitB E.thread]⟩) (.int .u64 0) (.slice (some ⟨w2.heap.size + 1, 0, none⟩) 1 1) (.int .i64 0)
  have hW1 := (Lib.alloc_old _ (.cells #[.int .i64 t1.kind, .int .i64 t1.op, .string t1.name, .int .u64 t1.value, .slice kao2 t1.kids.length kcap2, .int .i64 t1.at_] 57) _ (heap_lt hW0)).trans hW0
  have hW := (Lib.alloc_old _ (.cells #[.int .i64 t1.kind, .int .i64 t1.op, .string t1.name, .int .u64 t1.value, .slice kao2 t1.kids.length kcap2, .int .i64 t1.at_] 57) _ (heap_lt hW1)).trans hW1
  obtain ⟨e0, e1, e2, e3, e4, e5⟩ := box_cells hW
  have hMade : Made B bm E (2 * (f + 1) + 1) w (cellT ⟨#[113, digitB E.thread]⟩ t1, n1) (.returned (.agg #[.int .i64 2, .int .i64 0, .string ⟨#[113, digitB E.thread]⟩, .int .u64 0, .slice (some ⟨w2.heap.size + 1, 0, none⟩) 1 1, .int .i64 0])) (((put6 w2 w.heap.size (.int .i64 2) (.int .i64 0) (.string ⟨#[113, digitB E.thread]⟩) (.int .u64 0) (.slice (some ⟨w2.heap.size + 1, 0, none⟩) 1 1) (.int .i64 0)).alloc (.cells #[.int .i64 t1.kind, .int .i64 t1.op, .string t1.name, .int .u64 t1.value, .slice kao2 t1.kids.length kcap2, .int .i64 t1.at_] 57)).alloc (.cells #[.int .i64 t1.kind, .int .i64 t1.op, .string t1.name, .int .u64 t1.value, .slice kao2 t1.kids.length kcap2, .int .i64 t1.at_] 57)) := by
    rw [← put6_alloc hz2]
    exact made_end_alloc hB (grownBy_trans (grownBy_trans hg1 hg2) (World.grownBy_alloc w2 _ _)) (hM2.out.alloc _) ((Lib.alloc_old _ _ _ hz2).trans hr2) ⟨by simp [cellT], _, rfl, kids1 (by have := heap_alloc_new (w2.alloc (.cells #[.int .i64 t1.kind, .int .i64 t1.op, .string t1.name, .int .u64 t1.value, .slice kao2 t1.kids.length kcap2, .int .i64 t1.at_] 57)) (.cells #[.int .i64 t1.kind, .int .i64 t1.op, .string t1.name, .int .u64 t1.value, .slice kao2 t1.kids.length kcap2, .int .i64 t1.at_] 57); rwa [alloc_size] at this) (by omega) (by rw [alloc_size, alloc_size]; omega) (carry_alloc (hE2.out.mono (by rw [alloc_size]; omega) ((Below.refl _ _).alloc (Nat.le_refl _) _)) _ (by omega) (by omega))⟩
  exact bodyPost_ret (v := .agg #[.int .i64 2, .int .i64 0, .string ⟨#[113, digitB E.thread]⟩, .int .u64 0, .slice (some ⟨w2.heap.size + 1, 0, none⟩) 1 1, .int .i64 0]) (by simp [results, Tryz.results71, go_sem, e0, e1, e2, e3, e4, e5]) rfl hMade

set_option maxHeartbeats 400000 in
set_option maxRecDepth 100000 in
theorem public_not (B bm : Nat) (E : Env) (f deep : Nat) (ns : List UInt8) (w : World) (hM : MakerAt B bm E ns w) (hd : deep ≤ 100) (ih : PubC E f) (hf : 5 ≤ deep + (f + 1)) (h3 : ¬ 3 < deep) (hcase : nxV ns 8 = 5) :
    Calls Tryz.prog 71 #[.pointer (some ⟨bm, 0, none⟩), .int .i64 deep] w (Made B bm E (2 * (f + 1) + 1) w (notT (pubM E f (deep + 1) ns.tail).1, (pubM E f (deep + 1) ns.tail).2)) := by
  have hB := hM.base
  have hbm := hM.lt
  have hMA := hM.alloc zeroE
  have hth := thread_cell hM
  have htl := thread_le hM
  have H1 := next_any B bm E ns 8 _ hMA (by omega) (by omega)
  have HR := Lib.hid (zeroE_at w)
  have HM := Lib.hid hM
  have HMA := Lib.hid hMA
  obtain ⟨t1, n1, hp1⟩ : ∃ t n, pubM E f (deep + 1) ns.tail = (t, n) := ⟨_, _, rfl⟩
  have P1 := ih.at B bm deep _ _ _ (by omega) (by omega) hp1
  rw [hp1]
  rw [hcase] at H1
  clear hcase hp1 hM hMA
  go_enter Tryz.func71, Tryz.ntmps71
  go_wp2_with (first
    | (go_at_call 22; refine (digit_any E.thread htl _).mono ?_; rintro e w' ⟨rfl, rfl⟩)
    | (go_at_call 71; refine (P1 w1 hM1.out).mono ?_; rintro e w2 ⟨v2, rfl, hE2, hM2, hg2⟩; have hr2 := heap_grown hM1.out hg2 hr1; replace hM2 := Lib.hid hM2; obtain ⟨_, kv2, rfl, _⟩ := id hE2; replace hE2 := Lib.hid hE2; obtain ⟨c0, c1, c2, c3, c4, c5⟩ := box_cells hr2; obtain ⟨d0, d1, d2, d3, d4, d5⟩ := box_free hr2; have hz2 := heap_lt hr2)
    | (go_at_call 21; refine H1.mono ?_; rintro e w1 ⟨rfl, hM1, hg1⟩; have hr1 := heap_grown HMA.out hg1 HR.out; replace hM1 := Lib.hid hM1))
  have hs1 := hg1.size
  rw [alloc_size] at hs1
  have hs2 := hg2.size
  have hW := (Lib.alloc_old _ (.cells #[.int .i64 t1.kind, .int .i64 t1.op, .string t1.name, .int .u64 t1.value, kv2, .int .i64 t1.at_] 57) _ (heap_lt (put6_heap hr2 (.int .i64 4) (.int .i64 0) (.string ⟨#[]⟩) (.int .u64 0) (.slice (some ⟨w2.heap.size, 0, none⟩) 1 1) (.int .i64 0)))).trans (put6_heap hr2 (.int .i64 4) (.int .i64 0) (.string ⟨#[]⟩) (.int .u64 0) (.slice (some ⟨w2.heap.size, 0, none⟩) 1 1) (.int .i64 0))
  obtain ⟨e0, e1, e2, e3, e4, e5⟩ := box_cells hW
  exact bodyPost_ret (v := .agg #[.int .i64 4, .int .i64 0, .string ⟨#[]⟩, .int .u64 0, .slice (some ⟨w2.heap.size, 0, none⟩) 1 1, .int .i64 0]) (by simp [results, Tryz.results71, go_sem, e0, e1, e2, e3, e4, e5]) rfl (made_end_alloc hB (grownBy_trans hg1 hg2) hM2.out hr2 ⟨by simp [notT], _, rfl, kids1 (heap_alloc_new w2 _) (by omega) (by rw [alloc_size]; omega) (carry_alloc hE2.out _ (by omega) (by omega))⟩)

set_option maxHeartbeats 400000 in
set_option maxRecDepth 100000 in
theorem public_local (B bm : Nat) (E : Env) (n deep : Nat) (ns : List UInt8) (w : World) (hM : MakerAt B bm E ns w) (hd : deep ≤ 100) (h3 : ¬ 3 < deep) (hcase : nxV ns 8 = 4) (hl0 : 0 < E.loc.length) (hsec : E.sec.getD (nxV ns.tail E.loc.length) false = false) :
    Calls Tryz.prog 71 #[.pointer (some ⟨bm, 0, none⟩), .int .i64 deep] w (Made B bm E (n + 1) w (nameT (E.loc.getD (nxV ns.tail E.loc.length) ⟨#[]⟩), ns.tail.tail)) := by
  have hB := hM.base
  have hbm := hM.lt
  have hMA := hM.alloc zeroE
  have hth := thread_cell hM
  have htl := thread_le hM
  have H1 := next_any B bm E ns 8 _ hMA (by omega) (by omega)
  have HR := Lib.hid (zeroE_at w)
  have HM := Lib.hid hM
  have HMA := Lib.hid hMA
  have hll := loc_le hM
  have HL := fun w' h => next_any B bm E ns.tail E.loc.length w' h hl0 (by omega)
  obtain ⟨j, hj0⟩ : ∃ j, j = nxV ns.tail E.loc.length := ⟨_, rfl⟩
  have hj := nxV_lt ns.tail E.loc.length hl0
  rw [← hj0] at HL hj hsec ⊢
  rw [hcase] at H1
  generalize hs : E.loc.getD j ⟨#[]⟩ = s
  have Hs := Lib.hid hs
  clear hcase hj0 hM hMA hs
  go_enter Tryz.func71, Tryz.ntmps71
  go_wp2_with (first
    | (go_at_call 22; refine (digit_any E.thread htl _).mono ?_; rintro e w' ⟨rfl, rfl⟩)
    | (go_at_call 93; refine (name_any _ w2).mono ?_; rintro e w3 ⟨rfl, hb3⟩; have hr3 := (hb3.block _ (heap_lt hr2)).trans hr2; obtain ⟨c0, c1, c2, c3, c4, c5⟩ := box_cells hr3; obtain ⟨d0, d1, d2, d3, d4, d5⟩ := box_free hr3; have hz3 := heap_lt hr3)
    | (go_at_call 21; refine (HL w1 hM1.out).mono ?_; rintro e w2 ⟨rfl, hM2, hg2⟩; have hr2 := heap_grown hM1.out hg2 hr1; replace hM2 := Lib.hid hM2; obtain ⟨sao, scap, hsc, hsi⟩ := secret_cell hM2.out; obtain ⟨sg, rfl, hsv⟩ := hsi j hj; rw [hsec] at hsv; obtain ⟨lao, lcap, hlc, hli⟩ := locals_cell hM2.out; obtain ⟨lg, rfl, hlv⟩ := hli j hj; rw [Hs.out] at hlv; clear hsi hli)
    | (go_at_call 21; refine H1.mono ?_; rintro e w1 ⟨rfl, hM1, hg1⟩; have hr1 := heap_grown HMA.out hg1 HR.out; replace hM1 := Lib.hid hM1; obtain ⟨lao1, lcap1, hlc1, _⟩ := locals_cell hM1.out))
  have hW := put6_heap hr3 (.int .i64 1) (.int .i64 0) (.string (s)) (.int .u64 0) (.slice none 0 0) (.int .i64 0)
  obtain ⟨e0, e1, e2, e3, e4, e5⟩ := box_cells hW
  exact bodyPost_ret (v := .agg #[.int .i64 1, .int .i64 0, .string (s), .int .u64 0, .slice none 0 0, .int .i64 0]) (by simp [results, Tryz.results71, go_sem, e0, e1, e2, e3, e4, e5]) rfl (made_end hB (grownBy_trans (grownBy_trans hg1 hg2) (grownBy_below hb3)) (hM2.out.below hb3) hr3 (erep_name _))

set_option maxHeartbeats 400000 in
set_option maxRecDepth 100000 in
theorem public_locbin (B bm : Nat) (E : Env) (f deep : Nat) (ns : List UInt8) (w : World) (hM : MakerAt B bm E ns w) (hd : deep ≤ 100) (ih : PubC E f) (hf : 5 ≤ deep + (f + 1)) (h3 : ¬ 3 < deep) (hcase : nxV ns 8 = 4) (hl0 : 0 < E.loc.length) (hsec : E.sec.getD (nxV ns.tail E.loc.length) false = true) :
    Calls Tryz.prog 71 #[.pointer (some ⟨bm, 0, none⟩), .int .i64 deep] w (Made B bm E (2 * (f + 1) + 1) w (binM (pubM E f) deep ns.tail.tail)) := by
  have hB := hM.base
  have hbm := hM.lt
  have hMA := hM.alloc zeroE
  have hth := thread_cell hM
  have htl := thread_le hM
  have H1 := next_any B bm E ns 8 _ hMA (by omega) (by omega)
  have HR := Lib.hid (zeroE_at w)
  have HM := Lib.hid hM
  have HMA := Lib.hid hMA
  have hll := loc_le hM
  have HL := fun w' h => next_any B bm E ns.tail E.loc.length w' h hl0 (by omega)
  obtain ⟨j, hj0⟩ : ∃ j, j = nxV ns.tail E.loc.length := ⟨_, rfl⟩
  have hj := nxV_lt ns.tail E.loc.length hl0
  rw [← hj0] at HL hj hsec
  rw [hcase] at H1
  clear hcase hj0
  have H10 := fun w' h => next_any B bm E (ns.tail.tail) 10 w' h (by omega) (by omega)
  obtain ⟨t1, n1, hp1⟩ : ∃ t n, pubM E f (deep + 1) (ns.tail.tail).tail = (t, n) := ⟨_, _, rfl⟩
  obtain ⟨t2, n2, hp2⟩ : ∃ t n, pubM E f (deep + 1) n1 = (t, n) := ⟨_, _, rfl⟩
  have P1 := ih.at B bm deep _ _ _ (by omega) (by omega) hp1
  have P2 := ih.at B bm deep _ _ _ (by omega) (by omega) hp2
  have hbin : binM (pubM E f) deep (ns.tail.tail) = (binT (nxV (ns.tail.tail) 10) t1 t2, n2) := by simp only [binM, hp1, hp2]
  rw [hbin]
  obtain ⟨q, hq⟩ : ∃ q, q = nxV (ns.tail.tail) 10 := ⟨_, rfl⟩
  rw [← hq] at H10 ⊢
  clear hbin hp1 hp2 hq hM hMA
  go_enter Tryz.func71, Tryz.ntmps71
  go_wp2_with (first
    | (go_at_call 22; refine (digit_any E.thread htl _).mono ?_; rintro e w' ⟨rfl, rfl⟩)
    | (go_at_call 71; refine (P2 w4 hM4.out).mono ?_; rintro e w5 ⟨v5, rfl, hE5, hM5, hg5⟩; have hr5 := heap_grown hM4.out hg5 hr4; replace hM5 := Lib.hid hM5; obtain ⟨_, kv5, rfl, _⟩ := id hE5; replace hE5 := Lib.hid hE5; obtain ⟨c0, c1, c2, c3, c4, c5⟩ := box_cells hr5; obtain ⟨d0, d1, d2, d3, d4, d5⟩ := box_free hr5; have hz5 := heap_lt hr5)
    | (go_at_call 71; refine (P1 w3 hM3.out).mono ?_; rintro e w4 ⟨v4, rfl, hE4, hM4, hg4⟩; have hr4 := heap_grown hM3.out hg4 hr3; replace hM4 := Lib.hid hM4; obtain ⟨_, kv4, rfl, _⟩ := id hE4; replace hE4 := Lib.hid hE4)
    | (go_at_call 21; refine (H10 w2 hM2.out).mono ?_; rintro e w3 ⟨rfl, hM3, hg3⟩; have hr3 := heap_grown hM2.out hg3 hr2; replace hM3 := Lib.hid hM3)
    | (go_at_call 21; refine (HL w1 hM1.out).mono ?_; rintro e w2 ⟨rfl, hM2, hg2⟩; have hr2 := heap_grown hM1.out hg2 hr1; replace hM2 := Lib.hid hM2; obtain ⟨sao, scap, hsc, hsi⟩ := secret_cell hM2.out; obtain ⟨sg, rfl, hsv⟩ := hsi j hj; rw [hsec] at hsv)
    | (go_at_call 21; refine H1.mono ?_; rintro e w1 ⟨rfl, hM1, hg1⟩; have hr1 := heap_grown HMA.out hg1 HR.out; replace hM1 := Lib.hid hM1; obtain ⟨lao1, lcap1, hlc1, _⟩ := locals_cell hM1.out))
  have hs1 := hg1.size
  rw [alloc_size] at hs1
  have hs2 := hg2.size
  have hs3 := hg3.size
  have hs4 := hg4.size
  have hs5 := hg5.size
  have hW := (Lib.alloc_old _ (.cells #[.int .i64 t1.kind, .int .i64 t1.op, .string t1.name, .int .u64 t1.value, kv4, .int .i64 t1.at_, .int .i64 t2.kind, .int .i64 t2.op, .string t2.name, .int .u64 t2.value, kv5, .int .i64 t2.at_] 57) _ (heap_lt (put6_heap hr5 (.int .i64 3) (.int .i64 (q : Int)) (.string ⟨#[]⟩) (.int .u64 0) (.slice (some ⟨w5.heap.size, 0, none⟩) 2 2) (.int .i64 0)))).trans (put6_heap hr5 (.int .i64 3) (.int .i64 (q : Int)) (.string ⟨#[]⟩) (.int .u64 0) (.slice (some ⟨w5.heap.size, 0, none⟩) 2 2) (.int .i64 0))
  obtain ⟨e0, e1, e2, e3, e4, e5⟩ := box_cells hW
  exact bodyPost_ret (v := .agg #[.int .i64 3, .int .i64 (q : Int), .string ⟨#[]⟩, .int .u64 0, .slice (some ⟨w5.heap.size, 0, none⟩) 2 2, .int .i64 0]) (by simp [results, Tryz.results71, go_sem, e0, e1, e2, e3, e4, e5]) rfl (made_end_alloc hB (grownBy_trans (grownBy_trans (grownBy_trans (grownBy_trans hg1 hg2) hg3) hg4) hg5) hM5.out hr5 ⟨by simp [binT], _, rfl, kids2 (heap_alloc_new w5 _) (by omega) (by rw [alloc_size]; omega) (carry_grown hE4.out hM4.out hg5 _ (by omega) (by omega)) (carry_alloc hE5.out _ (by omega) (by omega))⟩)


theorem public_all (E : Env) : ∀ f, PubC E f
  | 0 => fun B bm ns deep w hf hd hM => by
    exact public_lit B bm E 0 deep ns w hM hd (.inl (by omega))
  | f + 1 => fun B bm ns deep w hf hd hM => by
    have ih := public_all E f
    have h8 := nxV_lt ns 8 (by omega)
    by_cases c0 : 3 < deep ∨ nxV ns 8 = 0
    · have e : pubM E (f + 1) deep ns = (litT (nxV ns.tail 256), ns.tail.tail) := by simp only [pubM]; rw [if_pos c0]
      rw [e]
      exact public_lit B bm E (2 * (f + 1)) deep ns w hM hd c0
    · have c3 : ¬ 3 < deep := fun h => c0 (.inl h)
      have ck : nxV ns 8 ≠ 0 := fun h => c0 (.inr h)
      by_cases c1 : nxV ns 8 = 1
      · have e : pubM E (f + 1) deep ns = (nameT (dig 112 E), ns.tail) := by simp only [pubM]; rw [if_neg c0, if_pos c1]
        rw [e]
        exact public_own B bm E (2 * (f + 1)) deep ns w hM hd c3 c1
      · by_cases c2 : nxV ns 8 = 2 ∧ E.held = true
        · have e : pubM E (f + 1) deep ns = (nameT sharedS, ns.tail) := by simp only [pubM]; rw [if_neg c0, if_neg c1, if_pos c2]
          rw [e]
          exact public_shared B bm E (2 * (f + 1)) deep ns w hM hd c3 c2.1 c2.2
        · by_cases ck3 : nxV ns 8 = 3
          · have e : pubM E (f + 1) deep ns = (cellT (dig 113 E) (placeM (pubM E f) E deep ns.tail).1, (placeM (pubM E f) E deep ns.tail).2) := by simp only [pubM]; rw [if_neg c0, if_neg c1, if_neg c2, if_pos ck3]
            rw [e]
            exact public_cell B bm E f deep ns w hM hd ih hf c3 ck3
          · by_cases c4 : nxV ns 8 = 4 ∧ 0 < E.loc.length
            · cases hs : E.sec.getD (nxV ns.tail E.loc.length) false with
              | false =>
                have e : pubM E (f + 1) deep ns = (nameT (E.loc.getD (nxV ns.tail E.loc.length) ⟨#[]⟩), ns.tail.tail) := by simp only [pubM]; rw [if_neg c0, if_neg c1, if_neg c2, if_neg ck3, if_pos c4, if_pos hs]
                rw [e]
                exact public_local B bm E (2 * (f + 1)) deep ns w hM hd c3 c4.1 c4.2 hs
              | true =>
                have e : pubM E (f + 1) deep ns = binM (pubM E f) deep ns.tail.tail := by simp only [pubM]; rw [if_neg c0, if_neg c1, if_neg c2, if_neg ck3, if_pos c4, if_neg (by rw [hs]; simp)]
                rw [e]
                exact public_locbin B bm E f deep ns w hM hd ih hf c3 c4.1 c4.2 hs
            · by_cases c5 : nxV ns 8 = 5
              · have e : pubM E (f + 1) deep ns = (notT (pubM E f (deep + 1) ns.tail).1, (pubM E f (deep + 1) ns.tail).2) := by simp only [pubM]; rw [if_neg c0, if_neg c1, if_neg c2, if_neg ck3, if_neg c4, if_pos c5]
                rw [e]
                exact public_not B bm E f deep ns w hM hd ih hf c3 c5
              · have e : pubM E (f + 1) deep ns = binM (pubM E f) deep ns.tail := by simp only [pubM]; rw [if_neg c0, if_neg c1, if_neg c2, if_neg ck3, if_neg c4, if_neg c5]
                rw [e]
                refine public_bin B bm E f deep ns w hM hd ih hf c3 ?_
                by_cases d2 : nxV ns 8 = 2
                · exact .inr (.inr (.inl ⟨d2, by cases hh : E.held with | false => rfl | true => exact absurd ⟨d2, hh⟩ c2⟩))
                · by_cases d4 : nxV ns 8 = 4
                  · exact .inr (.inr (.inr ⟨d4, by rcases Nat.eq_zero_or_pos E.loc.length with h | h; exact h; exact absurd ⟨d4, h⟩ c4⟩))
                  · omega
end Go.Proofs.YtfginegegaokbaaGreatDoor
