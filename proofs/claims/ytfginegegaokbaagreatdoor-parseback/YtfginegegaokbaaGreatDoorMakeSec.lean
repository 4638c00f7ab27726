/- What the maker's secretly answers. Conditions: the maker lies in a block of its own. -/
import Derived.Test.YtfginegegaokbaaGreatDoorMakePubAll
import Derived.Deep.RegionWith
import Derived.BigRegion
namespace Go.Proofs.YtfginegegaokbaaGreatDoor
open Go.ChangeShapes Go.WideShapes Go.ChangeAt Go.RowKit
set_option linter.unusedVariables false
set_option linter.unusedSimpArgs false

theorem locals_block {B bm : Nat} {E : Env} {ns : List UInt8} {w : World} (h : MakerAt B bm E ns w) (i : Nat) (hi : i < E.loc.length) : ∃ g cap, w.cell? ⟨bm, 1, none⟩ = some (.slice (some ⟨g, 0, none⟩) E.loc.length cap) ∧ g ≠ bm ∧ w.cell? ⟨g, i, none⟩ = some (.string (E.loc.getD i ⟨#[]⟩)) := by
  obtain ⟨_, nv, lv, sv, cv, h2, h3, h4, h5, h6, h7, _⟩ := h
  rcases h4.2 with ⟨_, h0⟩ | ⟨g, cap, cur, rfl, _, hgg, _⟩
  · omega
  · refine ⟨g, cap, (seven_cells h2).2.1, fun e => by subst e; rw [h2] at hgg; simp at hgg, ?_⟩
    have := h4.cells (g := g) rfl i (.string (E.loc.getD i ⟨#[]⟩)) (by simp [hi])
    rwa [Lib.add_plain, Nat.zero_add] at this
theorem made_drew {B bm : Nat} {E : Env} {ns : List UInt8} {w : World} (h : MakerAt B bm E ns w) : MakerAt B bm E ns w.drew := h
theorem grown_drew {w w' : World} {r : Option Nat} (h : w.drew.grownBy w' r) : w.grownBy w' r := ⟨h.os, h.tape, h.output, h.size, h.block⟩

set_option maxHeartbeats 400000 in
set_option maxRecDepth 100000 in
theorem secretly_pub (B bm : Nat) (E : Env) (deep : Nat) (ns : List UInt8) (w : World) (hM : MakerAt B bm E ns w) (hd : deep ≤ 100) (m f : Nat) (hm : 2 * f + 1 ≤ m) (hf : 4 ≤ deep + f) (hd9 : deep ≤ 99) (hcase : 3 < deep ∨ nxV ns 8 = 0) :
    Calls Tryz.prog 69 #[.pointer (some ⟨bm, 0, none⟩), .int .i64 deep] w (Made B bm E m w (pubM E f (deep + 1) ns.tail)) := by
  have hB := hM.base
  have hbm := hM.lt
  have hMA := hM.alloc zeroE
  have hth := thread_cell hM
  have htl := thread_le hM
  have H1 := next_any B bm E ns 8 _ hMA (by omega) (by omega)
  have HR := Lib.hid (zeroE_at w)
  have HM := Lib.hid hM
  have HMA := Lib.hid hMA
  obtain ⟨t1, n1, hp1⟩ : ∃ t n, pubM E f (deep + 1) ns.tail = (t, n) := ⟨_, _, rfl⟩
  have P1 := (public_all E f).at B bm deep _ _ _ (by omega) (by omega) hp1
  rw [hp1]
  obtain ⟨k, hk⟩ : ∃ k, k = nxV ns 8 := ⟨_, rfl⟩
  rw [← hk] at H1 hcase
  clear hp1 hk hM hMA
  by_cases h3 : 3 < deep
  · clear hcase
    go_enter Tryz.func69, Tryz.ntmps69
    go_wp2_with (first
      | (go_at_call 22; refine (digit_any E.thread htl _).mono ?_; rintro e w' ⟨rfl, rfl⟩)
      | (go_at_call 71; refine (P1 w1 hM1.out).mono ?_; rintro e w2 ⟨v2, rfl, hE2, hM2, hg2⟩; have hr2 := heap_grown hM1.out hg2 hr1; replace hM2 := Lib.hid hM2; obtain ⟨_, kv2, rfl, kao2, kcap2, rfl, _, _⟩ := id hE2; replace hE2 := Lib.hid hE2; obtain ⟨c0, c1, c2, c3, c4, c5⟩ := box_cells hr2; obtain ⟨d0, d1, d2, d3, d4, d5⟩ := box_free hr2; have hz2 := heap_lt hr2)
      | (go_at_call 21; refine H1.mono ?_; rintro e w1 ⟨rfl, hM1, hg1⟩; have hr1 := heap_grown HMA.out hg1 HR.out; replace hM1 := Lib.hid hM1))
    have hs1 := hg1.size
    rw [alloc_size] at hs1
    have hW := put6_heap hr2 (.int .i64 t1.kind) (.int .i64 t1.op) (.string t1.name) (.int .u64 t1.value) (.slice kao2 t1.kids.length kcap2) (.int .i64 t1.at_)
    obtain ⟨e0, e1, e2, e3, e4, e5⟩ := box_cells hW
    exact bodyPost_ret (v := .agg #[.int .i64 t1.kind, .int .i64 t1.op, .string t1.name, .int .u64 t1.value, .slice kao2 t1.kids.length kcap2, .int .i64 t1.at_]) (by simp [results, Tryz.results69, go_sem, e0, e1, e2, e3, e4, e5]) rfl (made_end hB (grownBy_trans hg1 hg2) hM2.out hr2 ((hE2.out.carry (by omega) (Nat.le_refl _) (Same35.refl _ _ _)).up hm))
  · obtain rfl : k = 0 := by omega
    clear hcase
    go_enter Tryz.func69, Tryz.ntmps69
    go_wp2_with (first
      | (go_at_call 22; refine (digit_any E.thread htl _).mono ?_; rintro e w' ⟨rfl, rfl⟩)
      | (go_at_call 71; refine (P1 w1 hM1.out).mono ?_; rintro e w2 ⟨v2, rfl, hE2, hM2, hg2⟩; have hr2 := heap_grown hM1.out hg2 hr1; replace hM2 := Lib.hid hM2; obtain ⟨_, kv2, rfl, kao2, kcap2, rfl, _, _⟩ := id hE2; replace hE2 := Lib.hid hE2; obtain ⟨c0, c1, c2, c3, c4, c5⟩ := box_cells hr2; obtain ⟨d0, d1, d2, d3, d4, d5⟩ := box_free hr2; have hz2 := heap_lt hr2)
      | (go_at_call 21; refine H1.mono ?_; rintro e w1 ⟨rfl, hM1, hg1⟩; have hr1 := heap_grown HMA.out hg1 HR.out; replace hM1 := Lib.hid hM1))
    have hs1 := hg1.size
    rw [alloc_size] at hs1
    have hW := put6_heap hr2 (.int .i64 t1.kind) (.int .i64 t1.op) (.string t1.name) (.int .u64 t1.value) (.slice kao2 t1.kids.length kcap2) (.int .i64 t1.at_)
    obtain ⟨e0, e1, e2, e3, e4, e5⟩ := box_cells hW
    exact bodyPost_ret (v := .agg #[.int .i64 t1.kind, .int .i64 t1.op, .string t1.name, .int .u64 t1.value, .slice kao2 t1.kids.length kcap2, .int .i64 t1.at_]) (by simp [results, Tryz.results69, go_sem, e0, e1, e2, e3, e4, e5]) rfl (made_end hB (grownBy_trans hg1 hg2) hM2.out hr2 ((hE2.out.carry (by omega) (Nat.le_refl _) (Same35.refl _ _ _)).up hm))

set_option maxHeartbeats 400000 in
set_option maxRecDepth 100000 in
theorem secretly_own (B bm : Nat) (E : Env) (n deep : Nat) (ns : List UInt8) (w : World) (hM : MakerAt B bm E ns w) (hd : deep ≤ 100) (h3 : ¬ 3 < deep) (hcase : nxV ns 8 = 1) :
    Calls Tryz.prog 69 #[.pointer (some ⟨bm, 0, none⟩), .int .i64 deep] w (Made B bm E (n + 1) w (nameT (dig 115 E), ns.tail)) := by
  have hB := hM.base
  have hbm := hM.lt
  have hMA := hM.alloc zeroE
  have hth := thread_cell hM
  have htl := thread_le hM
  have H1 := next_any B bm E ns 8 _ hMA (by omega) (by omega)
  have HR := Lib.hid (zeroE_at w)
  have HM := Lib.hid hM
  have HMA := Lib.hid hMA
  have hcat := cat2 115 (digitB E.thread)
  unfold dig
  rw [hcase] at H1
  clear hcase hM hMA
  go_enter Tryz.func69, Tryz.ntmps69
  go_wp2_with (first
    | (go_at_call 22; refine (digit_any E.thread htl _).mono ?_; rintro e w' ⟨rfl, rfl⟩)
    | (go_at_call 93; refine (name_any _ w1).mono ?_; rintro e w3 ⟨rfl, hb3⟩; have hr3 := (hb3.block _ (heap_lt hr1)).trans hr1; obtain ⟨c0, c1, c2, c3, c4, c5⟩ := box_cells hr3; obtain ⟨d0, d1, d2, d3, d4, d5⟩ := box_free hr3; have hz3 := heap_lt hr3)
    | (go_at_call 21; refine H1.mono ?_; rintro e w1 ⟨rfl, hM1, hg1⟩; have hr1 := heap_grown HMA.out hg1 HR.out; replace hM1 := Lib.hid hM1))
  have hW := put6_heap hr3 (.int .i64 1) (.int .i64 0) (.string (⟨#[115, digitB E.thread]⟩)) (.int .u64 0) (.slice none 0 0) (.int .i64 0)
  obtain ⟨e0, e1, e2, e3, e4, e5⟩ := box_cells hW
  exact bodyPost_ret (v := .agg #[.int .i64 1, .int .i64 0, .string (⟨#[115, digitB E.thread]⟩), .int .u64 0, .slice none 0 0, .int .i64 0]) (by simp [results, Tryz.results69, go_sem, e0, e1, e2, e3, e4, e5]) rfl (made_end hB (grownBy_trans hg1 (grownBy_below hb3)) (hM1.out.below hb3) hr3 (erep_name _))

set_option maxHeartbeats 400000 in
set_option maxRecDepth 100000 in
theorem secretly_hidden (B bm : Nat) (E : Env) (n deep : Nat) (ns : List UInt8) (w : World) (hM : MakerAt B bm E ns w) (hd : deep ≤ 100) (h3 : ¬ 3 < deep) (hcase : nxV ns 8 = 3) (hh : E.held = true) :
    Calls Tryz.prog 69 #[.pointer (some ⟨bm, 0, none⟩), .int .i64 deep] w (Made B bm E (n + 1) w (nameT hiddenS, ns.tail)) := by
  have hB := hM.base
  have hbm := hM.lt
  have hMA := hM.alloc zeroE
  have hth := thread_cell hM
  have htl := thread_le hM
  have H1 := next_any B bm E ns 8 _ hMA (by omega) (by omega)
  have HR := Lib.hid (zeroE_at w)
  have HM := Lib.hid hM
  have HMA := Lib.hid hMA
  rw [hcase] at H1
  clear hcase hM hMA
  go_enter Tryz.func69, Tryz.ntmps69
  go_wp2_with (first
    | (go_at_call 22; refine (digit_any E.thread htl _).mono ?_; rintro e w' ⟨rfl, rfl⟩)
    | (go_at_call 93; refine (name_any _ w1).mono ?_; rintro e w3 ⟨rfl, hb3⟩; have hr3 := (hb3.block _ (heap_lt hr1)).trans hr1; obtain ⟨c0, c1, c2, c3, c4, c5⟩ := box_cells hr3; obtain ⟨d0, d1, d2, d3, d4, d5⟩ := box_free hr3; have hz3 := heap_lt hr3)
    | (go_at_call 21; refine H1.mono ?_; rintro e w1 ⟨rfl, hM1, hg1⟩; have hr1 := heap_grown HMA.out hg1 HR.out; replace hM1 := Lib.hid hM1; have hhe := held_cell hM1.out; rw [hh] at hhe))
  have hW := put6_heap hr3 (.int .i64 1) (.int .i64 0) (.string (⟨#[104, 105, 100, 100, 101, 110]⟩)) (.int .u64 0) (.slice none 0 0) (.int .i64 0)
  obtain ⟨e0, e1, e2, e3, e4, e5⟩ := box_cells hW
  exact bodyPost_ret (v := .agg #[.int .i64 1, .int .i64 0, .string (⟨#[104, 105, 100, 100, 101, 110]⟩), .int .u64 0, .slice none 0 0, .int .i64 0]) (by simp [results, Tryz.results69, go_sem, e0, e1, e2, e3, e4, e5]) rfl (made_end hB (grownBy_trans hg1 (grownBy_below hb3)) (hM1.out.below hb3) hr3 (erep_name _))

set_option maxHeartbeats 400000 in
set_option maxRecDepth 100000 in
theorem secretly_cell (B bm : Nat) (E : Env) (f deep : Nat) (ns : List UInt8) (w : World) (hM : MakerAt B bm E ns w) (hd : deep ≤ 100) (ih : PubC E f) (hf : 6 ≤ deep + (f + 1)) (h3 : ¬ 3 < deep) (hcase : nxV ns 8 = 2) :
    Calls Tryz.prog 69 #[.pointer (some ⟨bm, 0, none⟩), .int .i64 deep] w (Made B bm E (2 * (f + 1) + 1) w (cellT (dig 116 E) (placeM (pubM E f) E deep ns.tail).1, (placeM (pubM E f) E deep ns.tail).2)) := by
  have hB := hM.base
  have hbm := hM.lt
  have hMA := hM.alloc zeroE
  have hth := thread_cell hM
  have htl := thread_le hM
  have H1 := next_any B bm E ns 8 _ hMA (by omega) (by omega)
  have HR := Lib.hid (zeroE_at w)
  have HM := Lib.hid hM
  have HMA := Lib.hid hMA
  have hcat := cat2 116 (digitB E.thread)
  obtain ⟨t1, n1, hp1⟩ : ∃ t n, placeM (pubM E f) E deep ns.tail = (t, n) := ⟨_, _, rfl⟩
  have C1 := fun w' h => cellOf_all ih B bm ns.tail deep ⟨#[116, digitB E.thread]⟩ w' (by omega) (by omega) h
  rw [hp1] at C1 ⊢
  unfold dig
  rw [hcase] at H1
  clear hcase hp1 hM hMA
  go_enter Tryz.func69, Tryz.ntmps69
  go_wp2_with (first
    | (go_at_call 22; refine (digit_any E.thread htl _).mono ?_; rintro e w' ⟨rfl, rfl⟩)
    | (go_at_call 72; refine (C1 w1 hM1.out).mono ?_; rintro e w2 ⟨v2, rfl, hE2, hM2, hg2⟩; have hr2 := heap_grown hM1.out hg2 hr1; replace hM2 := Lib.hid hM2; obtain ⟨_, kv2, rfl, kao2, kcap2, rfl, _, _⟩ := id hE2; replace hE2 := Lib.hid hE2; obtain ⟨c0, c1, c2, c3, c4, c5⟩ := box_cells hr2; obtain ⟨d0, d1, d2, d3, d4, d5⟩ := box_free hr2; have hz2 := heap_lt hr2)
    | (go_at_call 21; refine H1.mono ?_; rintro e w1 ⟨rfl, hM1, hg1⟩; have hr1 := heap_grown HMA.out hg1 HR.out; replace hM1 := Lib.hid hM1))
  have hs1 := hg1.size
  rw [alloc_size] at hs1
  have hs2 := hg2.size
  have hW0 := put6_heap hr2 (.int .i64 2) (.int .i64 0) (.string ⟨#[116, digitB E.thread]⟩) (.int .u64 0) (.slice (some ⟨w2.heap.size + 1, 0, none⟩) 1 1) (.int .i64 0)
  have hW1 := (Lib.alloc_old _ (.cells #[.int .i64 t1.kind, .int .i64 t1.op, .string t1.name, .int .u64 t1.value, .slice kao2 t1.kids.length kcap2, .int .i64 t1.at_] 57) _ (heap_lt hW0)).trans hW0
  have hW := (Lib.alloc_old _ (.cells #[.int .i64 t1.kind, .int .i64 t1.op, .string t1.name, .int .u64 t1.value, .slice kao2 t1.kids.length kcap2, .int .i64 t1.at_] 57) _ (heap_lt hW1)).trans hW1
  obtain ⟨e0, e1, e2, e3, e4, e5⟩ := box_cells hW
  have hMade : Made B bm E (2 * (f + 1) + 1) w (cellT ⟨#[116, digitB E.thread]⟩ t1, n1) (.returned (.agg #[.int .i64 2, .int .i64 0, .string ⟨#[116, digitB E.thread]⟩, .int .u64 0, .slice (some ⟨w2.heap.size + 1, 0, none⟩) 1 1, .int .i64 0])) (((put6 w2 w.heap.size (.int .i64 2) (.int .i64 0) (.string ⟨#[116, digitB E.thread]⟩) (.int .u64 0) (.slice (some ⟨w2.heap.size + 1, 0, none⟩) 1 1) (.int .i64 0)).alloc (.cells #[.int .i64 t1.kind, .int .i64 t1.op, .string t1.name, .int .u64 t1.value, .slice kao2 t1.kids.length kcap2, .int .i64 t1.at_] 57)).alloc (.cells #[.int .i64 t1.kind, .int .i64 t1.op, .string t1.name, .int .u64 t1.value, .slice kao2 t1.kids.length kcap2, .int .i64 t1.at_] 57)) := by
    rw [← put6_alloc hz2]
    exact made_end_alloc hB (grownBy_trans (grownBy_trans hg1 hg2) (World.grownBy_alloc w2 _ _)) (hM2.out.alloc _) ((Lib.alloc_old _ _ _ hz2).trans hr2) ⟨by simp [cellT], _, rfl, kids1 (by have := heap_alloc_new (w2.alloc (.cells #[.int .i64 t1.kind, .int .i64 t1.op, .string t1.name, .int .u64 t1.value, .slice kao2 t1.kids.length kcap2, .int .i64 t1.at_] 57)) (.cells #[.int .i64 t1.kind, .int .i64 t1.op, .string t1.name, .int .u64 t1.value, .slice kao2 t1.kids.length kcap2, .int .i64 t1.at_] 57); rwa [alloc_size] at this) (by omega) (by rw [alloc_size, alloc_size]; omega) (carry_alloc (hE2.out.mono (by rw [alloc_size]; omega) ((Below.refl _ _).alloc (Nat.le_refl _) _)) _ (by omega) (by omega))⟩
  exact bodyPost_ret (v := .agg #[.int .i64 2, .int .i64 0, .string ⟨#[116, digitB E.thread]⟩, .int .u64 0, .slice (some ⟨w2.heap.size + 1, 0, none⟩) 1 1, .int .i64 0]) (by simp [results, Tryz.results69, go_sem, e0, e1, e2, e3, e4, e5]) rfl hMade

set_option maxHeartbeats 400000 in
set_option maxRecDepth 100000 in
theorem secretly_bin (B bm : Nat) (E : Env) (f deep : Nat) (ns : List UInt8) (w : World) (hM : MakerAt B bm E ns w) (hd : deep ≤ 100) (ih : SecC E f) (hf : 6 ≤ deep + (f + 1)) (h3 : ¬ 3 < deep) (hcase : nxV ns 8 = 6 ∨ nxV ns 8 = 7 ∨ (nxV ns 8 = 3 ∧ E.held = false) ∨ (nxV ns 8 = 4 ∧ E.loc.length = 0)) :
    Calls Tryz.prog 69 #[.pointer (some ⟨bm, 0, none⟩), .int .i64 deep] w (Made B bm E (2 * (f + 1) + 1) w (binM (secM E f) deep ns.tail)) := by
  have hB := hM.base
  have hbm := hM.lt
  have hMA := hM.alloc zeroE
  have hth := thread_cell hM
  have htl := thread_le hM
  have H1 := next_any B bm E ns 8 _ hMA (by omega) (by omega)
  have HR := Lib.hid (zeroE_at w)
  have HM := Lib.hid hM
  have HMA := Lib.hid hMA
  have H10 := fun w' h => next_any B bm E (ns.tail) 10 w' h (by omega) (by omega)
  obtain ⟨t1, n1, hp1⟩ : ∃ t n, secM E f (deep + 1) (ns.tail).tail = (t, n) := ⟨_, _, rfl⟩
  obtain ⟨t2, n2, hp2⟩ : ∃ t n, secM E f (deep + 1) n1 = (t, n) := ⟨_, _, rfl⟩
  have P1 := ih.at B bm deep _ _ _ (by omega) (by omega) hp1
  have P2 := ih.at B bm deep _ _ _ (by omega) (by omega) hp2
  have hbin : binM (secM E f) deep (ns.tail) = (binT (nxV (ns.tail) 10) t1 t2, n2) := by simp only [binM, hp1, hp2]
  rw [hbin]
  obtain ⟨q, hq⟩ : ∃ q, q = nxV (ns.tail) 10 := ⟨_, rfl⟩
  rw [← hq] at H10 ⊢
  clear hbin hp1 hp2 hq hM hMA
  rcases hcase with hk | hk | ⟨hk, hh⟩ | ⟨hk, hl⟩
  · rw [hk] at H1
    clear hk
    go_enter Tryz.func69, Tryz.ntmps69
    go_wp2_with (first
      | (go_at_call 22; refine (digit_any E.thread htl _).mono ?_; rintro e w' ⟨rfl, rfl⟩)
      | (go_at_call 69; refine (P2 w3 hM3.out).mono ?_; rintro e w4 ⟨v4, rfl, hE4, hM4, hg4⟩; have hr4 := heap_grown hM3.out hg4 hr3; replace hM4 := Lib.hid hM4; obtain ⟨_, kv4, rfl, _⟩ := id hE4; replace hE4 := Lib.hid hE4; obtain ⟨c0, c1, c2, c3, c4, c5⟩ := box_cells hr4; obtain ⟨d0, d1, d2, d3, d4, d5⟩ := box_free hr4; have hz4 := heap_lt hr4)
      | (go_at_call 69; refine (P1 w2 hM2.out).mono ?_; rintro e w3 ⟨v3, rfl, hE3, hM3, hg3⟩; have hr3 := heap_grown hM2.out hg3 hr2; replace hM3 := Lib.hid hM3; obtain ⟨_, kv3, rfl, _⟩ := id hE3; replace hE3 := Lib.hid hE3)
      | (go_at_call 21; refine (H10 w1 hM1.out).mono ?_; rintro e w2 ⟨rfl, hM2, hg2⟩; have hr2 := heap_grown hM1.out hg2 hr1; replace hM2 := Lib.hid hM2)
      | (go_at_call 21; refine H1.mono ?_; rintro e w1 ⟨rfl, hM1, hg1⟩; have hr1 := heap_grown HMA.out hg1 HR.out; replace hM1 := Lib.hid hM1; have hhe := held_cell hM1.out; obtain ⟨lao, lcap, hlo, _⟩ := locals_cell hM1.out))
    have hs1 := hg1.size
    rw [alloc_size] at hs1
    have hs2 := hg2.size
    have hs3 := hg3.size
    have hs4 := hg4.size
    have hW := (Lib.alloc_old _ (.cells #[.int .i64 t1.kind, .int .i64 t1.op, .string t1.name, .int .u64 t1.value, kv3, .int .i64 t1.at_, .int .i64 t2.kind, .int .i64 t2.op, .string t2.name, .int .u64 t2.value, kv4, .int .i64 t2.at_] 57) _ (heap_lt (put6_heap hr4 (.int .i64 3) (.int .i64 (q : Int)) (.string ⟨#[]⟩) (.int .u64 0) (.slice (some ⟨w4.heap.size, 0, none⟩) 2 2) (.int .i64 0)))).trans (put6_heap hr4 (.int .i64 3) (.int .i64 (q : Int)) (.string ⟨#[]⟩) (.int .u64 0) (.slice (some ⟨w4.heap.size, 0, none⟩) 2 2) (.int .i64 0))
    obtain ⟨e0, e1, e2, e3, e4, e5⟩ := box_cells hW
    exact bodyPost_ret (v := .agg #[.int .i64 3, .int .i64 (q : Int), .string ⟨#[]⟩, .int .u64 0, .slice (some ⟨w4.heap.size, 0, none⟩) 2 2, .int .i64 0]) (by simp [results, Tryz.results69, go_sem, e0, e1, e2, e3, e4, e5]) rfl (made_end_alloc hB (grownBy_trans (grownBy_trans (grownBy_trans hg1 hg2) hg3) hg4) hM4.out hr4 ⟨by simp [binT], _, rfl, kids2 (heap_alloc_new w4 _) (by omega) (by rw [alloc_size]; omega) (carry_grown hE3.out hM3.out hg4 _ (by omega) (by omega)) (carry_alloc hE4.out _ (by omega) (by omega))⟩)
  · rw [hk] at H1
    clear hk
    go_enter Tryz.func69, Tryz.ntmps69
    go_wp2_with (first
      | (go_at_call 22; refine (digit_any E.thread htl _).mono ?_; rintro e w' ⟨rfl, rfl⟩)
      | (go_at_call 69; refine (P2 w3 hM3.out).mono ?_; rintro e w4 ⟨v4, rfl, hE4, hM4, hg4⟩; have hr4 := heap_grown hM3.out hg4 hr3; replace hM4 := Lib.hid hM4; obtain ⟨_, kv4, rfl, _⟩ := id hE4; replace hE4 := Lib.hid hE4; obtain ⟨c0, c1, c2, c3, c4, c5⟩ := box_cells hr4; obtain ⟨d0, d1, d2, d3, d4, d5⟩ := box_free hr4; have hz4 := heap_lt hr4)
      | (go_at_call 69; refine (P1 w2 hM2.out).mono ?_; rintro e w3 ⟨v3, rfl, hE3, hM3, hg3⟩; have hr3 := heap_grown hM2.out hg3 hr2; replace hM3 := Lib.hid hM3; obtain ⟨_, kv3, rfl, _⟩ := id hE3; replace hE3 := Lib.hid hE3)
      | (go_at_call 21; refine (H10 w1 hM1.out).mono ?_; rintro e w2 ⟨rfl, hM2, hg2⟩; have hr2 := heap_grown hM1.out hg2 hr1; replace hM2 := Lib.hid hM2)
      | (go_at_call 21; refine H1.mono ?_; rintro e w1 ⟨rfl, hM1, hg1⟩; have hr1 := heap_grown HMA.out hg1 HR.out; replace hM1 := Lib.hid hM1; have hhe := held_cell hM1.out; obtain ⟨lao, lcap, hlo, _⟩ := locals_cell hM1.out))
    have hs1 := hg1.size
    rw [alloc_size] at hs1
    have hs2 := hg2.size
    have hs3 := hg3.size
    have hs4 := hg4.size
    have hW := (Lib.alloc_old _ (.cells #[.int .i64 t1.kind, .int .i64 t1.op, .string t1.name, .int .u64 t1.value, kv3, .int .i64 t1.at_, .int .i64 t2.kind, .int .i64 t2.op, .string t2.name, .int .u64 t2.value, kv4, .int .i64 t2.at_] 57) _ (heap_lt (put6_heap hr4 (.int .i64 3) (.int .i64 (q : Int)) (.string ⟨#[]⟩) (.int .u64 0) (.slice (some ⟨w4.heap.size, 0, none⟩) 2 2) (.int .i64 0)))).trans (put6_heap hr4 (.int .i64 3) (.int .i64 (q : Int)) (.string ⟨#[]⟩) (.int .u64 0) (.slice (some ⟨w4.heap.size, 0, none⟩) 2 2) (.int .i64 0))
    obtain ⟨e0, e1, e2, e3, e4, e5⟩ := box_cells hW
    exact bodyPost_ret (v := .agg #[.int .i64 3, .int .i64 (q : Int), .string ⟨#[]⟩, .int .u64 0, .slice (some ⟨w4.heap.size, 0, none⟩) 2 2, .int .i64 0]) (by simp [results, Tryz.results69, go_sem, e0, e1, e2, e3, e4, e5]) rfl (made_end_alloc hB (grownBy_trans (grownBy_trans (grownBy_trans hg1 hg2) hg3) hg4) hM4.out hr4 ⟨by simp [binT], _, rfl, kids2 (heap_alloc_new w4 _) (by omega) (by rw [alloc_size]; omega) (carry_grown hE3.out hM3.out hg4 _ (by omega) (by omega)) (carry_alloc hE4.out _ (by omega) (by omega))⟩)
  · rw [hk] at H1
    clear hk
    go_enter Tryz.func69, Tryz.ntmps69
    go_wp2_with (first
      | (go_at_call 22; refine (digit_any E.thread htl _).mono ?_; rintro e w' ⟨rfl, rfl⟩)
      | (go_at_call 69; refine (P2 w3 hM3.out).mono ?_; rintro e w4 ⟨v4, rfl, hE4, hM4, hg4⟩; have hr4 := heap_grown hM3.out hg4 hr3; replace hM4 := Lib.hid hM4; obtain ⟨_, kv4, rfl, _⟩ := id hE4; replace hE4 := Lib.hid hE4; obtain ⟨c0, c1, c2, c3, c4, c5⟩ := box_cells hr4; obtain ⟨d0, d1, d2, d3, d4, d5⟩ := box_free hr4; have hz4 := heap_lt hr4)
      | (go_at_call 69; refine (P1 w2 hM2.out).mono ?_; rintro e w3 ⟨v3, rfl, hE3, hM3, hg3⟩; have hr3 := heap_grown hM2.out hg3 hr2; replace hM3 := Lib.hid hM3; obtain ⟨_, kv3, rfl, _⟩ := id hE3; replace hE3 := Lib.hid hE3)
      | (go_at_call 21; refine (H10 w1 hM1.out).mono ?_; rintro e w2 ⟨rfl, hM2, hg2⟩; have hr2 := heap_grown hM1.out hg2 hr1; replace hM2 := Lib.hid hM2)
      | (go_at_call 21; refine H1.mono ?_; rintro e w1 ⟨rfl, hM1, hg1⟩; have hr1 := heap_grown HMA.out hg1 HR.out; replace hM1 := Lib.hid hM1; have hhe := held_cell hM1.out; obtain ⟨lao, lcap, hlo, _⟩ := locals_cell hM1.out; rw [hh] at hhe))
    have hs1 := hg1.size
    rw [alloc_size] at hs1
    have hs2 := hg2.size
    have hs3 := hg3.size
    have hs4 := hg4.size
    have hW := (Lib.alloc_old _ (.cells #[.int .i64 t1.kind, .int .i64 t1.op, .string t1.name, .int .u64 t1.value, kv3, .int .i64 t1.at_, .int .i64 t2.kind, .int .i64 t2.op, .string t2.name, .int .u64 t2.value, kv4, .int .i64 t2.at_] 57) _ (heap_lt (put6_heap hr4 (.int .i64 3) (.int .i64 (q : Int)) (.string ⟨#[]⟩) (.int .u64 0) (.slice (some ⟨w4.heap.size, 0, none⟩) 2 2) (.int .i64 0)))).trans (put6_heap hr4 (.int .i64 3) (.int .i64 (q : Int)) (.string ⟨#[]⟩) (.int .u64 0) (.slice (some ⟨w4.heap.size, 0, none⟩) 2 2) (.int .i64 0))
    obtain ⟨e0, e1, e2, e3, e4, e5⟩ := box_cells hW
    exact bodyPost_ret (v := .agg #[.int .i64 3, .int .i64 (q : Int), .string ⟨#[]⟩, .int .u64 0, .slice (some ⟨w4.heap.size, 0, none⟩) 2 2, .int .i64 0]) (by simp [results, Tryz.results69, go_sem, e0, e1, e2, e3, e4, e5]) rfl (made_end_alloc hB (grownBy_trans (grownBy_trans (grownBy_trans hg1 hg2) hg3) hg4) hM4.out hr4 ⟨by simp [binT], _, rfl, kids2 (heap_alloc_new w4 _) (by omega) (by rw [alloc_size]; omega) (carry_grown hE3.out hM3.out hg4 _ (by omega) (by omega)) (carry_alloc hE4.out _ (by omega) (by omega))⟩)
  · rw [hk] at H1
    clear hk
    go_enter Tryz.func69, Tryz.ntmps69
    go_wp2_with (first
      | (go_at_call 22; refine (digit_any E.thread htl _).mono ?_; rintro e w' ⟨rfl, rfl⟩)
      | (go_at_call 69; refine (P2 w3 hM3.out).mono ?_; rintro e w4 ⟨v4, rfl, hE4, hM4, hg4⟩; have hr4 := heap_grown hM3.out hg4 hr3; replace hM4 := Lib.hid hM4; obtain ⟨_, kv4, rfl, _⟩ := id hE4; replace hE4 := Lib.hid hE4; obtain ⟨c0, c1, c2, c3, c4, c5⟩ := box_cells hr4; obtain ⟨d0, d1, d2, d3, d4, d5⟩ := box_free hr4; have hz4 := heap_lt hr4)
      | (go_at_call 69; refine (P1 w2 hM2.out).mono ?_; rintro e w3 ⟨v3, rfl, hE3, hM3, hg3⟩; have hr3 := heap_grown hM2.out hg3 hr2; replace hM3 := Lib.hid hM3; obtain ⟨_, kv3, rfl, _⟩ := id hE3; replace hE3 := Lib.hid hE3)
      | (go_at_call 21; refine (H10 w1 hM1.out).mono ?_; rintro e w2 ⟨rfl, hM2, hg2⟩; have hr2 := heap_grown hM1.out hg2 hr1; replace hM2 := Lib.hid hM2)
      | (go_at_call 21; refine H1.mono ?_; rintro e w1 ⟨rfl, hM1, hg1⟩; have hr1 := heap_grown HMA.out hg1 HR.out; replace hM1 := Lib.hid hM1; have hhe := held_cell hM1.out; obtain ⟨lao, lcap, hlo, _⟩ := locals_cell hM1.out; rw [hl] at hlo))
    have hs1 := hg1.size
    rw [alloc_size] at hs1
    have hs2 := hg2.size
    have hs3 := hg3.size
    have hs4 := hg4.size
    have hW := (Lib.alloc_old _ (.cells #[.int .i64 t1.kind, .int .i64 t1.op, .string t1.name, .int .u64 t1.value, kv3, .int .i64 t1.at_, .int .i64 t2.kind, .int .i64 t2.op, .string t2.name, .int .u64 t2.value, kv4, .int .i64 t2.at_] 57) _ (heap_lt (put6_heap hr4 (.int .i64 3) (.int .i64 (q : Int)) (.string ⟨#[]⟩) (.int .u64 0) (.slice (some ⟨w4.heap.size, 0, none⟩) 2 2) (.int .i64 0)))).trans (put6_heap hr4 (.int .i64 3) (.int .i64 (q : Int)) (.string ⟨#[]⟩) (.int .u64 0) (.slice (some ⟨w4.heap.size, 0, none⟩) 2 2) (.int .i64 0))
    obtain ⟨e0, e1, e2, e3, e4, e5⟩ := box_cells hW
    exact bodyPost_ret (v := .agg #[.int .i64 3, .int .i64 (q : Int), .string ⟨#[]⟩, .int .u64 0, .slice (some ⟨w4.heap.size, 0, none⟩) 2 2, .int .i64 0]) (by simp [results, Tryz.results69, go_sem, e0, e1, e2, e3, e4, e5]) rfl (made_end_alloc hB (grownBy_trans (grownBy_trans (grownBy_trans hg1 hg2) hg3) hg4) hM4.out hr4 ⟨by simp [binT], _, rfl, kids2 (heap_alloc_new w4 _) (by omega) (by rw [alloc_size]; omega) (carry_grown hE3.out hM3.out hg4 _ (by omega) (by omega)) (carry_alloc hE4.out _ (by omega) (by omega))⟩)

set_option maxHeartbeats 400000 in
set_option maxRecDepth 100000 in
theorem secretly_pick (B bm : Nat) (E : Env) (f deep : Nat) (ns : List UInt8) (w : World) (hM : MakerAt B bm E ns w) (hd : deep ≤ 100) (ih : SecC E f) (hf : 6 ≤ deep + (f + 1)) (h3 : ¬ 3 < deep) (hcase : nxV ns 8 = 5) (t1 t2 t3 : Tree) (n1 n2 n3 : List UInt8) (hp1 : secM E f (deep + 1) ns.tail = (t1, n1)) (hp2 : secM E f (deep + 1) n1 = (t2, n2)) (hp3 : secM E f (deep + 1) n2 = (t3, n3)) :
    Calls Tryz.prog 69 #[.pointer (some ⟨bm, 0, none⟩), .int .i64 deep] w (Made B bm E (2 * (f + 1) + 1) w (pickT t1 t2 t3, n3)) := by
  have hB := hM.base
  have hbm := hM.lt
  have hMA := hM.alloc zeroE
  have hth := thread_cell hM
  have htl := thread_le hM
  have H1 := next_any B bm E ns 8 _ hMA (by omega) (by omega)
  have HR := Lib.hid (zeroE_at w)
  have HM := Lib.hid hM
  have HMA := Lib.hid hMA
  have P1 := ih.at B bm deep _ _ _ (by omega) (by omega) hp1
  have P2 := ih.at B bm deep _ _ _ (by omega) (by omega) hp2
  have P3 := ih.at B bm deep _ _ _ (by omega) (by omega) hp3
  rw [hcase] at H1
  clear hcase hp1 hp2 hp3 hM hMA
  go_enter Tryz.func69, Tryz.ntmps69
  go_wp2_with (first
    | (go_at_call 22; refine (digit_any E.thread htl _).mono ?_; rintro e w' ⟨rfl, rfl⟩)
    | (go_at_call 69; refine (P3 w3 hM3.out).mono ?_; rintro e w4 ⟨v4, rfl, hE4, hM4, hg4⟩; have hr4 := heap_grown hM3.out hg4 hr3; replace hM4 := Lib.hid hM4; obtain ⟨_, kv4, rfl, _⟩ := id hE4; replace hE4 := Lib.hid hE4; obtain ⟨c0, c1, c2, c3, c4, c5⟩ := box_cells hr4; obtain ⟨d0, d1, d2, d3, d4, d5⟩ := box_free hr4; have hz4 := heap_lt hr4)
    | (go_at_call 69; refine (P2 w2 hM2.out).mono ?_; rintro e w3 ⟨v3, rfl, hE3, hM3, hg3⟩; have hr3 := heap_grown hM2.out hg3 hr2; replace hM3 := Lib.hid hM3; obtain ⟨_, kv3, rfl, _⟩ := id hE3; replace hE3 := Lib.hid hE3)
    | (go_at_call 69; refine (P1 w1 hM1.out).mono ?_; rintro e w2 ⟨v2, rfl, hE2, hM2, hg2⟩; have hr2 := heap_grown hM1.out hg2 hr1; replace hM2 := Lib.hid hM2; obtain ⟨_, kv2, rfl, _⟩ := id hE2; replace hE2 := Lib.hid hE2)
    | (go_at_call 21; refine H1.mono ?_; rintro e w1 ⟨rfl, hM1, hg1⟩; have hr1 := heap_grown HMA.out hg1 HR.out; replace hM1 := Lib.hid hM1))
  have hs1 := hg1.size
  rw [alloc_size] at hs1
  have hs2 := hg2.size
  have hs3 := hg3.size
  have hs4 := hg4.size
  have hW := (Lib.alloc_old _ (.cells #[.int .i64 t1.kind, .int .i64 t1.op, .string t1.name, .int .u64 t1.value, kv2, .int .i64 t1.at_, .int .i64 t2.kind, .int .i64 t2.op, .string t2.name, .int .u64 t2.value, kv3, .int .i64 t2.at_, .int .i64 t3.kind, .int .i64 t3.op, .string t3.name, .int .u64 t3.value, kv4, .int .i64 t3.at_] 57) _ (heap_lt (put6_heap hr4 (.int .i64 5) (.int .i64 0) (.string ⟨#[]⟩) (.int .u64 0) (.slice (some ⟨w4.heap.size, 0, none⟩) 3 3) (.int .i64 0)))).trans (put6_heap hr4 (.int .i64 5) (.int .i64 0) (.string ⟨#[]⟩) (.int .u64 0) (.slice (some ⟨w4.heap.size, 0, none⟩) 3 3) (.int .i64 0))
  obtain ⟨e0, e1, e2, e3, e4, e5⟩ := box_cells hW
  exact bodyPost_ret (v := .agg #[.int .i64 5, .int .i64 0, .string ⟨#[]⟩, .int .u64 0, .slice (some ⟨w4.heap.size, 0, none⟩) 3 3, .int .i64 0]) (by simp [results, Tryz.results69, go_sem, e0, e1, e2, e3, e4, e5]) rfl (made_end_alloc hB (grownBy_trans (grownBy_trans (grownBy_trans hg1 hg2) hg3) hg4) hM4.out hr4 ⟨by simp [pickT], _, rfl, kids3 (heap_alloc_new w4 _) (by omega) (by rw [alloc_size]; omega) (carry_two hE2.out hM2.out hg3 hM3.out hg4 _ (by omega) (by omega)) (carry_grown hE3.out hM3.out hg4 _ (by omega) (by omega)) (carry_alloc hE4.out _ (by omega) (by omega))⟩)

set_option maxHeartbeats 400000 in
set_option maxRecDepth 100000 in
theorem secretly_local (B bm : Nat) (E : Env) (n deep : Nat) (ns : List UInt8) (w : World) (hM : MakerAt B bm E ns w) (hd : deep ≤ 100) (h3 : ¬ 3 < deep) (hcase : nxV ns 8 = 4) (hl0 : 0 < E.loc.length) :
    Calls Tryz.prog 69 #[.pointer (some ⟨bm, 0, none⟩), .int .i64 deep] w (Made B bm E (n + 1) w (nameT (E.loc.getD (nxV ns.tail E.loc.length) ⟨#[]⟩), ns.tail.tail)) := by
  have hB := hM.base
  have hbm := hM.lt
  have hMA := hM.alloc zeroE
  have hth := thread_cell hM
  have htl := thread_le hM
  have H1 := next_any B bm E ns 8 _ hMA (by omega) (by omega)
  have HR := Lib.hid (zeroE_at w)
  have HM := Lib.hid hM
  have HMA := Lib.hid hMA
  have hll := loc_le hM
  have HL := fun w' h => next_keep B bm E ns.tail E.loc.length w' h hl0 (by omega)
  obtain ⟨j, hj0⟩ : ∃ j, j = nxV ns.tail E.loc.length := ⟨_, rfl⟩
  have hj := nxV_lt ns.tail E.loc.length hl0
  rw [← hj0] at HL hj ⊢
  have hjI : (j : Int) < (E.loc.length : Int) := by omega
  rw [hcase] at H1
  generalize hs : E.loc.getD j ⟨#[]⟩ = s
  have Hs := Lib.hid hs
  clear hcase hj0 hM hMA hs
  go_enter Tryz.func69, Tryz.ntmps69
  go_wp2_with (first
    | (go_at_call 22; refine (digit_any E.thread htl _).mono ?_; rintro e w' ⟨rfl, rfl⟩)
    | (go_at_call 21; refine H1.mono ?_; rintro e w1 ⟨rfl, hM1, hg1⟩; have hr1 := heap_grown HMA.out hg1 HR.out; replace hM1 := Lib.hid hM1; obtain ⟨lg, lcap, hlc, hne, hlv⟩ := locals_block hM1.out j hj; rw [Hs.out] at hlv; replace hne := Lib.hid hne))
  go_region_with (first
    | (go_at_call 93; refine (name_any _ _).mono ?_; rintro e w3 ⟨rfl, hb3⟩; have hr3 := (hb3.block _ (heap_lt hr2)).trans hr2; obtain ⟨c0, c1, c2, c3, c4, c5⟩ := box_cells hr3; obtain ⟨d0, d1, d2, d3, d4, d5⟩ := box_free hr3; have hz3 := heap_lt hr3)
    | (go_at_call 21; refine (HL w1.drew hM1.out).mono ?_; rintro e w2 ⟨rfl, hM2, hg2, hk2⟩; have hr2 := heap_grown (made_drew hM1.out) hg2 hr1; have hlc2 := (hk2 1 (by omega)).trans hlc; have hlv2 := World.grownBy.cell hg2 (a := ⟨lg, j, none⟩) hlv (by intro e; exact hne.out (Option.some.inj e))))
  all_goals (
    try go_wp2
    have hW := put6_heap hr3 (.int .i64 1) (.int .i64 0) (.string (s)) (.int .u64 0) (.slice none 0 0) (.int .i64 0)
    obtain ⟨e0, e1, e2, e3, e4, e5⟩ := box_cells hW
    exact bodyPost_ret (v := .agg #[.int .i64 1, .int .i64 0, .string (s), .int .u64 0, .slice none 0 0, .int .i64 0]) (by simp [results, Tryz.results69, go_sem, e0, e1, e2, e3, e4, e5]) rfl (made_end hB (grownBy_trans (grownBy_trans hg1 (grown_drew hg2)) (grownBy_below hb3)) (hM2.below hb3) hr3 (erep_name _)))

end Go.Proofs.YtfginegegaokbaaGreatDoor
