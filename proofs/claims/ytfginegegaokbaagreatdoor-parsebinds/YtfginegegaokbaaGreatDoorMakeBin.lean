/- What the maker's public answers where it makes two more. Conditions: the maker lies in a block of its own. -/
import Derived.Test.YtfginegegaokbaaGreatDoorMakePub
namespace Go.Proofs.YtfginegegaokbaaGreatDoor
open Go.ChangeShapes Go.WideShapes Go.ChangeAt Go.RowKit
set_option linter.unusedVariables false
set_option linter.unusedSimpArgs false

theorem carry_grown {B bm lo lo' n m : Nat} {E : Env} {ns : List UInt8} {w3 w4 : World} {v : Value} {t : Tree} (hE : ERep lo' w3.heap.size w3 n v t) (hM : MakerAt B bm E ns w3) (hg : w3.grownBy w4 (some bm)) (o : Obj) (hlo : lo ≤ lo') (hn : n ≤ m) : ERep lo (w4.alloc o).heap.size (w4.alloc o) m v t := by
  have h4 : ERep lo w4.heap.size w4 n v t := hE.carry hlo hg.size (same35_grown hM hg _)
  exact (h4.mono (by rw [alloc_size]; omega) ((Below.refl _ _).alloc (Nat.le_refl _) o)).up hn
theorem carry_alloc {lo lo' n m : Nat} {w4 : World} {v : Value} {t : Tree} (hE : ERep lo' w4.heap.size w4 n v t) (o : Obj) (hlo : lo ≤ lo') (hn : n ≤ m) : ERep lo (w4.alloc o).heap.size (w4.alloc o) m v t :=
  ((hE.carry hlo (Nat.le_refl _) (Same35.refl _ _ _)).mono (by rw [alloc_size]; omega) ((Below.refl _ _).alloc (Nat.le_refl _) o)).up hn
theorem carry_two {B bm lo lo' n m : Nat} {E : Env} {ns ns' : List UInt8} {w3 w4 w5 : World} {v : Value} {t : Tree} (hE : ERep lo' w3.heap.size w3 n v t) (hM : MakerAt B bm E ns w3) (hg : w3.grownBy w4 (some bm)) (hM' : MakerAt B bm E ns' w4) (hg' : w4.grownBy w5 (some bm)) (o : Obj) (hlo : lo ≤ lo') (hn : n ≤ m) : ERep lo (w5.alloc o).heap.size (w5.alloc o) m v t :=
  carry_grown (hE.carry hlo hg.size (same35_grown hM hg _)) hM' hg' o (Nat.le_refl _) hn
theorem PubC.at {E : Env} {f : Nat} (ih : PubC E f) (B bm deep : Nat) (ns ns' : List UInt8) (t : Tree) (h5 : 4 ≤ deep + f) (hd : deep ≤ 99) (hp : pubM E f (deep + 1) ns = (t, ns')) : ∀ w, MakerAt B bm E ns w →
    Calls Tryz.prog 71 #[.pointer (some ⟨bm, 0, none⟩), .int .i64 ((deep : Int) + 1)] w (Made B bm E (2 * f + 1) w (t, ns')) := fun w hM => by
  have := ih B bm ns (deep + 1) w (by omega) (by omega) hM
  rw [hp] at this
  exact this
theorem SecC.at {E : Env} {f : Nat} (ih : SecC E f) (B bm deep : Nat) (ns ns' : List UInt8) (t : Tree) (h5 : 5 ≤ deep + f) (hd : deep ≤ 98) (hp : secM E f (deep + 1) ns = (t, ns')) : ∀ w, MakerAt B bm E ns w →
    Calls Tryz.prog 69 #[.pointer (some ⟨bm, 0, none⟩), .int .i64 ((deep : Int) + 1)] w (Made B bm E (2 * f + 1) w (t, ns')) := fun w hM => by
  have := ih B bm ns (deep + 1) w (by omega) (by omega) hM
  rw [hp] at this
  exact this
set_option maxHeartbeats 400000 in
set_option maxRecDepth 100000 in
theorem public_bin (B bm : Nat) (E : Env) (f deep : Nat) (ns : List UInt8) (w : World) (hM : MakerAt B bm E ns w) (hd : deep ≤ 100) (ih : PubC E f) (hf : 5 ≤ deep + (f + 1)) (h3 : ¬ 3 < deep) (hcase : nxV ns 8 = 6 ∨ nxV ns 8 = 7 ∨ (nxV ns 8 = 2 ∧ E.held = false) ∨ (nxV ns 8 = 4 ∧ E.loc.length = 0)) :
    Calls Tryz.prog 71 #[.pointer (some ⟨bm, 0, none⟩), .int .i64 deep] w (Made B bm E (2 * (f + 1) + 1) w (binM (pubM E f) deep ns.tail)) := by
  have hB := hM.base
  have hbm := hM.lt
  have hMA := hM.alloc zeroE
  have hth := thread_cell hM
  have htl := thread_le hM
  have H1 := next_any B bm E ns 8 _ hMA (by omega) (by omega)
  have HR := Lib.hid (zeroE_at w)
  have HM := Lib.hid hM
  have HMA := Lib.hid hMA
  have H10 := fun w' h => next_any B bm E (ns.tail) 10 w' h (by omega) (by omega)
  obtain ⟨t1, n1, hp1⟩ : ∃ t n, pubM E f (deep + 1) (ns.tail).tail = (t, n) := ⟨_, _, rfl⟩
  obtain ⟨t2, n2, hp2⟩ : ∃ t n, pubM E f (deep + 1) n1 = (t, n) := ⟨_, _, rfl⟩
  have P1 := ih.at B bm deep _ _ _ (by omega) (by omega) hp1
  have P2 := ih.at B bm deep _ _ _ (by omega) (by omega) hp2
  have hbin : binM (pubM E f) deep (ns.tail) = (binT (nxV (ns.tail) 10) t1 t2, n2) := by simp only [binM, hp1, hp2]
  rw [hbin]
  obtain ⟨q, hq⟩ : ∃ q, q = nxV (ns.tail) 10 := ⟨_, rfl⟩
  rw [← hq] at H10 ⊢
  clear hbin hp1 hp2 hq hM hMA
  rcases hcase with hk | hk | ⟨hk, hh⟩ | ⟨hk, hl⟩
  · rw [hk] at H1
    clear hk
    go_enter Tryz.func71, Tryz.ntmps71
    go_wp2_with (first
      | (go_at_call 22; refine (digit_any E.thread htl _).mono ?_; rintro e w' ⟨rfl, rfl⟩)
      | (go_at_call 71; refine (P2 w3 hM3.out).mono ?_; rintro e w4 ⟨v4, rfl, hE4, hM4, hg4⟩; have hr4 := heap_grown hM3.out hg4 hr3; replace hM4 := Lib.hid hM4; obtain ⟨_, kv4, rfl, _⟩ := id hE4; replace hE4 := Lib.hid hE4; obtain ⟨c0, c1, c2, c3, c4, c5⟩ := box_cells hr4; obtain ⟨d0, d1, d2, d3, d4, d5⟩ := box_free hr4; have hz4 := heap_lt hr4)
      | (go_at_call 71; refine (P1 w2 hM2.out).mono ?_; rintro e w3 ⟨v3, rfl, hE3, hM3, hg3⟩; have hr3 := heap_grown hM2.out hg3 hr2; replace hM3 := Lib.hid hM3; obtain ⟨_, kv3, rfl, _⟩ := id hE3; replace hE3 := Lib.hid hE3)
      | (go_at_call 21; refine (H10 w1 hM1.out).mono ?_; rintro e w2 ⟨rfl, hM2, hg2⟩; have hr2 := heap_grown hM1.out hg2 hr1; replace hM2 := Lib.hid hM2)
      | (go_at_call 21; refine H1.mono ?_; rintro e w1 ⟨rfl, hM1, hg1⟩; have hr1 := heap_grown HMA.out hg1 HR.out; replace hM1 := Lib.hid hM1; have hhe := held_cell hM1.out; obtain ⟨lao, lcap, hlo, _⟩ := locals_cell hM1.out))
    have hs1 := hg1.size
    rw [alloc_size] at hs1
    have hs2 := hg2.size
    have hs3 := hg3.size
    have hs4 := hg4.size
    have hW := (Lib.alloc_old _ (.cells #[.int .i64 t1.kind, .int .i64 t1.op, .string t1.name, .int .u64 t1.value, kv3, .int .i64 t1.at_, .int .i64 t2.kind, .int .i64 t2.op, .string t2.name, .int .u64 t2.value, kv4, .int .i64 t2.at_] 57) _ (heap_lt (put6_heap hr4 (.int .i64 3) (.int .i64 (q : Int)) (.string ⟨#[]⟩) (.int .u64 0) (.slice (some ⟨w4.heap.size, 0, none⟩) 2 2) (.int .i64 0)))).trans (put6_heap hr4 (.int .i64 3) (.int .i64 (q : Int)) (.string ⟨#[]⟩) (.int .u64 0) (.slice (some ⟨w4.heap.size, 0, none⟩) 2 2) (.int .i64 0))
    obtain ⟨e0, e1, e2, e3, e4, e5⟩ := box_cells hW
    exact bodyPost_ret (v := .agg #[.int .i64 3, .int .i64 (q : Int), .string ⟨#[]⟩, .int .u64 0, .slice (some ⟨w4.heap.size, 0, none⟩) 2 2, .int .i64 0]) (by simp [results, Tryz.results71, go_sem, e0, e1, e2, e3, e4, e5]) rfl (made_end_alloc hB (grownBy_trans (grownBy_trans (grownBy_trans hg1 hg2) hg3) hg4) hM4.out hr4 ⟨by simp [binT], _, rfl, kids2 (heap_alloc_new w4 _) (by omega) (by rw [alloc_size]; omega) (carry_grown hE3.out hM3.out hg4 _ (by omega) (by omega)) (carry_alloc hE4.out _ (by omega) (by omega))⟩)
  · rw [hk] at H1
    clear hk
    go_enter Tryz.func71, Tryz.ntmps71
    go_wp2_with (first
      | (go_at_call 22; refine (digit_any E.thread htl _).mono ?_; rintro e w' ⟨rfl, rfl⟩)
      | (go_at_call 71; refine (P2 w3 hM3.out).mono ?_; rintro e w4 ⟨v4, rfl, hE4, hM4, hg4⟩; have hr4 := heap_grown hM3.out hg4 hr3; replace hM4 := Lib.hid hM4; obtain ⟨_, kv4, rfl, _⟩ := id hE4; replace hE4 := Lib.hid hE4; obtain ⟨c0, c1, c2, c3, c4, c5⟩ := box_cells hr4; obtain ⟨d0, d1, d2, d3, d4, d5⟩ := box_free hr4; have hz4 := heap_lt hr4)
      | (go_at_call 71; refine (P1 w2 hM2.out).mono ?_; rintro e w3 ⟨v3, rfl, hE3, hM3, hg3⟩; have hr3 := heap_grown hM2.out hg3 hr2; replace hM3 := Lib.hid hM3; obtain ⟨_, kv3, rfl, _⟩ := id hE3; replace hE3 := Lib.hid hE3)
      | (go_at_call 21; refine (H10 w1 hM1.out).mono ?_; rintro e w2 ⟨rfl, hM2, hg2⟩; have hr2 := heap_grown hM1.out hg2 hr1; replace hM2 := Lib.hid hM2)
      | (go_at_call 21; refine H1.mono ?_; rintro e w1 ⟨rfl, hM1, hg1⟩; have hr1 := heap_grown HMA.out hg1 HR.out; replace hM1 := Lib.hid hM1; have hhe := held_cell hM1.out; obtain ⟨lao, lcap, hlo, _⟩ := locals_cell hM1.out))
    have hs1 := hg1.size
    rw [alloc_size] at hs1
    have hs2 := hg2.size
    have hs3 := hg3.size
    have hs4 := hg4.size
    have hW := (Lib.alloc_old _ (.cells #[.int .i64 t1.kind, .int .i64 t1.op, .string t1.name, .int .u64 t1.value, kv3, .int .i64 t1.at_, .int .i64 t2.kind, .int .i64 t2.op, .string t2.name, .int .u64 t2.value, kv4, .int .i64 t2.at_] 57) _ (heap_lt (put6_heap hr4 (.int .i64 3) (.int .i64 (q : Int)) (.string ⟨#[]⟩) (.int .u64 0) (.slice (some ⟨w4.heap.size, 0, none⟩) 2 2) (.int .i64 0)))).trans (put6_heap hr4 (.int .i64 3) (.int .i64 (q : Int)) (.string ⟨#[]⟩) (.int .u64 0) (.slice (some ⟨w4.heap.size, 0, none⟩) 2 2) (.int .i64 0))
    obtain ⟨e0, e1, e2, e3, e4, e5⟩ := box_cells hW
    exact bodyPost_ret (v := .agg #[.int .i64 3, .int .i64 (q : Int), .string ⟨#[]⟩, .int .u64 0, .slice (some ⟨w4.heap.size, 0, none⟩) 2 2, .int .i64 0]) (by simp [results, Tryz.results71, go_sem, e0, e1, e2, e3, e4, e5]) rfl (made_end_alloc hB (grownBy_trans (grownBy_trans (grownBy_trans hg1 hg2) hg3) hg4) hM4.out hr4 ⟨by simp [binT], _, rfl, kids2 (heap_alloc_new w4 _) (by omega) (by rw [alloc_size]; omega) (carry_grown hE3.out hM3.out hg4 _ (by omega) (by omega)) (carry_alloc hE4.out _ (by omega) (by omega))⟩)
  · rw [hk] at H1
    clear hk
    go_enter Tryz.func71, Tryz.ntmps71
    go_wp2_with (first
      | (go_at_call 22; refine (digit_any E.thread htl _).mono ?_; rintro e w' ⟨rfl, rfl⟩)
      | (go_at_call 71; refine (P2 w3 hM3.out).mono ?_; rintro e w4 ⟨v4, rfl, hE4, hM4, hg4⟩; have hr4 := heap_grown hM3.out hg4 hr3; replace hM4 := Lib.hid hM4; obtain ⟨_, kv4, rfl, _⟩ := id hE4; replace hE4 := Lib.hid hE4; obtain ⟨c0, c1, c2, c3, c4, c5⟩ := box_cells hr4; obtain ⟨d0, d1, d2, d3, d4, d5⟩ := box_free hr4; have hz4 := heap_lt hr4)
      | (go_at_call 71; refine (P1 w2 hM2.out).mono ?_; rintro e w3 ⟨v3, rfl, hE3, hM3, hg3⟩; have hr3 := heap_grown hM2.out hg3 hr2; replace hM3 := Lib.hid hM3; obtain ⟨_, kv3, rfl, _⟩ := id hE3; replace hE3 := Lib.hid hE3)
      | (go_at_call 21; refine (H10 w1 hM1.out).mono ?_; rintro e w2 ⟨rfl, hM2, hg2⟩; have hr2 := heap_grown hM1.out hg2 hr1; replace hM2 := Lib.hid hM2)
      | (go_at_call 21; refine H1.mono ?_; rintro e w1 ⟨rfl, hM1, hg1⟩; have hr1 := heap_grown HMA.out hg1 HR.out; replace hM1 := Lib.hid hM1; have hhe := held_cell hM1.out; obtain ⟨lao, lcap, hlo, _⟩ := locals_cell hM1.out; rw [hh] at hhe))
    have hs1 := hg1.size
    rw [alloc_size] at hs1
    have hs2 := hg2.size
    have hs3 := hg3.size
    have hs4 := hg4.size
    have hW := (Lib.alloc_old _ (.cells #[.int .i64 t1.kind, .int .i64 t1.op, .string t1.name, .int .u64 t1.value, kv3, .int .i64 t1.at_, .int .i64 t2.kind, .int .i64 t2.op, .string t2.name, .int .u64 t2.value, kv4, .int .i64 t2.at_] 57) _ (heap_lt (put6_heap hr4 (.int .i64 3) (.int .i64 (q : Int)) (.string ⟨#[]⟩) (.int .u64 0) (.slice (some ⟨w4.heap.size, 0, none⟩) 2 2) (.int .i64 0)))).trans (put6_heap hr4 (.int .i64 3) (.int .i64 (q : Int)) (.string ⟨#[]⟩) (.int .u64 0) (.slice (some ⟨w4.heap.size, 0, none⟩) 2 2) (.int .i64 0))
    obtain ⟨e0, e1, e2, e3, e4, e5⟩ := box_cells hW
    exact bodyPost_ret (v := .agg #[.int .i64 3, .int .i64 (q : Int), .string ⟨#[]⟩, .int .u64 0, .slice (some ⟨w4.heap.size, 0, none⟩) 2 2, .int .i64 0]) (by simp [results, Tryz.results71, go_sem, e0, e1, e2, e3, e4, e5]) rfl (made_end_alloc hB (grownBy_trans (grownBy_trans (grownBy_trans hg1 hg2) hg3) hg4) hM4.out hr4 ⟨by simp [binT], _, rfl, kids2 (heap_alloc_new w4 _) (by omega) (by rw [alloc_size]; omega) (carry_grown hE3.out hM3.out hg4 _ (by omega) (by omega)) (carry_alloc hE4.out _ (by omega) (by omega))⟩)
  · rw [hk] at H1
    clear hk
    go_enter Tryz.func71, Tryz.ntmps71
    go_wp2_with (first
      | (go_at_call 22; refine (digit_any E.thread htl _).mono ?_; rintro e w' ⟨rfl, rfl⟩)
      | (go_at_call 71; refine (P2 w3 hM3.out).mono ?_; rintro e w4 ⟨v4, rfl, hE4, hM4, hg4⟩; have hr4 := heap_grown hM3.out hg4 hr3; replace hM4 := Lib.hid hM4; obtain ⟨_, kv4, rfl, _⟩ := id hE4; replace hE4 := Lib.hid hE4; obtain ⟨c0, c1, c2, c3, c4, c5⟩ := box_cells hr4; obtain ⟨d0, d1, d2, d3, d4, d5⟩ := box_free hr4; have hz4 := heap_lt hr4)
      | (go_at_call 71; refine (P1 w2 hM2.out).mono ?_; rintro e w3 ⟨v3, rfl, hE3, hM3, hg3⟩; have hr3 := heap_grown hM2.out hg3 hr2; replace hM3 := Lib.hid hM3; obtain ⟨_, kv3, rfl, _⟩ := id hE3; replace hE3 := Lib.hid hE3)
      | (go_at_call 21; refine (H10 w1 hM1.out).mono ?_; rintro e w2 ⟨rfl, hM2, hg2⟩; have hr2 := heap_grown hM1.out hg2 hr1; replace hM2 := Lib.hid hM2)
      | (go_at_call 21; refine H1.mono ?_; rintro e w1 ⟨rfl, hM1, hg1⟩; have hr1 := heap_grown HMA.out hg1 HR.out; replace hM1 := Lib.hid hM1; have hhe := held_cell hM1.out; obtain ⟨lao, lcap, hlo, _⟩ := locals_cell hM1.out; rw [hl] at hlo))
    have hs1 := hg1.size
    rw [alloc_size] at hs1
    have hs2 := hg2.size
    have hs3 := hg3.size
    have hs4 := hg4.size
    have hW := (Lib.alloc_old _ (.cells #[.int .i64 t1.kind, .int .i64 t1.op, .string t1.name, .int .u64 t1.value, kv3, .int .i64 t1.at_, .int .i64 t2.kind, .int .i64 t2.op, .string t2.name, .int .u64 t2.value, kv4, .int .i64 t2.at_] 57) _ (heap_lt (put6_heap hr4 (.int .i64 3) (.int .i64 (q : Int)) (.string ⟨#[]⟩) (.int .u64 0) (.slice (some ⟨w4.heap.size, 0, none⟩) 2 2) (.int .i64 0)))).trans (put6_heap hr4 (.int .i64 3) (.int .i64 (q : Int)) (.string ⟨#[]⟩) (.int .u64 0) (.slice (some ⟨w4.heap.size, 0, none⟩) 2 2) (.int .i64 0))
    obtain ⟨e0, e1, e2, e3, e4, e5⟩ := box_cells hW
    exact bodyPost_ret (v := .agg #[.int .i64 3, .int .i64 (q : Int), .string ⟨#[]⟩, .int .u64 0, .slice (some ⟨w4.heap.size, 0, none⟩) 2 2, .int .i64 0]) (by simp [results, Tryz.results71, go_sem, e0, e1, e2, e3, e4, e5]) rfl (made_end_alloc hB (grownBy_trans (grownBy_trans (grownBy_trans hg1 hg2) hg3) hg4) hM4.out hr4 ⟨by simp [binT], _, rfl, kids2 (heap_alloc_new w4 _) (by omega) (by rw [alloc_size]; omega) (carry_grown hE3.out hM3.out hg4 _ (by omega) (by omega)) (carry_alloc hE4.out _ (by omega) (by omega))⟩)

end Go.Proofs.YtfginegegaokbaaGreatDoor
