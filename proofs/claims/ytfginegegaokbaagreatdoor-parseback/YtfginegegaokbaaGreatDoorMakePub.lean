/- What the maker's public answers, way by way, when it is called. Conditions: the maker lies in a block of its own. -/
import Derived.Test.YtfginegegaokbaaGreatDoorMakeRet
namespace Go.Proofs.YtfginegegaokbaaGreatDoor
open Go.ChangeShapes Go.WideShapes Go.ChangeAt Go.RowKit
set_option linter.unusedVariables false
set_option linter.unusedSimpArgs false

/-- A new expression's block. -/
@[reducible] def zeroE : Obj := .cells #[.int .i64 0, .int .i64 0, .string ⟨#[]⟩, .int .u64 0, .slice none 0 0, .int .i64 0] 57
theorem zeroE_at (w : World) : (w.alloc zeroE).heap[w.heap.size]? = some (.cells #[.int .i64 0, .int .i64 0, .string ⟨#[]⟩, .int .u64 0, .slice none 0 0, .int .i64 0] 57 (0, 0)) := heap_alloc_new w _
theorem thread_cell {B bm : Nat} {E : Env} {ns : List UInt8} {w : World} (h : MakerAt B bm E ns w) : w.cell? ⟨bm, 5, none⟩ = some (.int .i64 E.thread) := by
  obtain ⟨_, nv, lv, sv, cv, h2, _⟩ := h
  exact (seven_cells h2).2.2.2.2.2.1
theorem held_cell {B bm : Nat} {E : Env} {ns : List UInt8} {w : World} (h : MakerAt B bm E ns w) : w.cell? ⟨bm, 4, none⟩ = some (.bool E.held) := by
  obtain ⟨_, nv, lv, sv, cv, h2, _⟩ := h
  exact (seven_cells h2).2.2.2.2.1
theorem thread_le {B bm : Nat} {E : Env} {ns : List UInt8} {w : World} (h : MakerAt B bm E ns w) : E.thread ≤ 1000 := by
  obtain ⟨_, nv, lv, sv, cv, h2, h3, h4, h5, h6, h7, _⟩ := h
  omega
theorem own_slice {w : World} {B : Nat} {e : TypeId} {v : Value} {n : Nat} {xs : List Value} (h : w.ownsRow B e 1 v n xs) : ∃ ao cap, v = .slice ao n cap ∧ ∀ i u, xs[i]? = some u → ∃ g, ao = some ⟨g, 0, none⟩ ∧ w.cell? ⟨g, i, none⟩ = some u := by
  rcases h.2 with ⟨rfl, rfl⟩ | ⟨g, cap, cur, rfl, _, hgg, _⟩
  · refine ⟨none, 0, rfl, fun i u hu => ?_⟩
    have := h.1
    simp at this
    subst this
    simp at hu
  · refine ⟨_, cap, rfl, fun i u hu => ⟨g, rfl, ?_⟩⟩
    have := h.cells (g := g) rfl i u hu
    rwa [Lib.add_plain, Nat.zero_add] at this
theorem locals_cell {B bm : Nat} {E : Env} {ns : List UInt8} {w : World} (h : MakerAt B bm E ns w) : ∃ ao cap, w.cell? ⟨bm, 1, none⟩ = some (.slice ao E.loc.length cap) ∧ ∀ i, i < E.loc.length → ∃ g, ao = some ⟨g, 0, none⟩ ∧ w.cell? ⟨g, i, none⟩ = some (.string (E.loc.getD i ⟨#[]⟩)) := by
  obtain ⟨_, nv, lv, sv, cv, h2, h3, h4, h5, h6, h7, _⟩ := h
  obtain ⟨ao, cap, rfl, hc⟩ := own_slice h4
  refine ⟨ao, cap, (seven_cells h2).2.1, fun i hi => ?_⟩
  obtain ⟨g, e, hg⟩ := hc i (.string (E.loc.getD i ⟨#[]⟩)) (by simp [hi])
  exact ⟨g, e, hg⟩
theorem secret_cell {B bm : Nat} {E : Env} {ns : List UInt8} {w : World} (h : MakerAt B bm E ns w) : ∃ ao cap, w.cell? ⟨bm, 2, none⟩ = some (.slice ao E.loc.length cap) ∧ ∀ i, i < E.loc.length → ∃ g, ao = some ⟨g, 0, none⟩ ∧ w.cell? ⟨g, i, none⟩ = some (.bool (E.sec.getD i false)) := by
  obtain ⟨_, nv, lv, sv, cv, h2, h3, h4, h5, h6, h7, _⟩ := h
  have hl : E.sec.length = E.loc.length := by have := h5.1; simpa using this
  obtain ⟨ao, cap, rfl, hc⟩ := own_slice h5
  refine ⟨ao, cap, (seven_cells h2).2.2.1, fun i hi => ?_⟩
  obtain ⟨g, e, hg⟩ := hc i (.bool (E.sec.getD i false)) (by simp [show i < E.sec.length by omega])
  exact ⟨g, e, hg⟩
theorem count_cell {B bm : Nat} {E : Env} {ns : List UInt8} {w : World} (h : MakerAt B bm E ns w) : ∃ ao cap, w.cell? ⟨bm, 3, none⟩ = some (.slice ao E.loc.length cap) ∧ ∀ i, i < E.loc.length → ∃ g, ao = some ⟨g, 0, none⟩ ∧ w.cell? ⟨g, i, none⟩ = some (.int .i64 (E.cnt.getD i 0)) := by
  obtain ⟨_, nv, lv, sv, cv, h2, h3, h4, h5, h6, h7, _⟩ := h
  have hl : E.cnt.length = E.loc.length := by have := h6.1; simpa using this
  obtain ⟨ao, cap, rfl, hc⟩ := own_slice h6
  refine ⟨ao, cap, (seven_cells h2).2.2.2.1, fun i hi => ?_⟩
  obtain ⟨g, e, hg⟩ := hc i (.int .i64 (E.cnt.getD i 0)) (by simp [show i < E.cnt.length by omega])
  exact ⟨g, e, hg⟩
theorem loc_le {B bm : Nat} {E : Env} {ns : List UInt8} {w : World} (h : MakerAt B bm E ns w) : E.loc.length ≤ 100 := by
  obtain ⟨_, nv, lv, sv, cv, h2, h3, h4, h5, h6, h7, h8, h9⟩ := h
  exact h9
theorem cat2 (c d : UInt8) : (⟨#[c]⟩ : ByteArray) ++ ⟨#[d]⟩ = ⟨#[c, d]⟩ := by
  apply ByteArray.ext; simp [ByteArray.data_append]

/-- What public does, up to a depth. -/
def PubC (E : Env) (f : Nat) : Prop := ∀ (B bm : Nat) (ns : List UInt8) (deep : Nat) (w : World), 5 ≤ deep + f → deep ≤ 100 → MakerAt B bm E ns w →
  Calls Tryz.prog 71 #[.pointer (some ⟨bm, 0, none⟩), .int .i64 deep] w (Made B bm E (2 * f + 1) w (pubM E f deep ns))
def SecC (E : Env) (f : Nat) : Prop := ∀ (B bm : Nat) (ns : List UInt8) (deep : Nat) (w : World), 6 ≤ deep + f → deep ≤ 99 → MakerAt B bm E ns w →
  Calls Tryz.prog 69 #[.pointer (some ⟨bm, 0, none⟩), .int .i64 deep] w (Made B bm E (2 * f + 1) w (secM E f deep ns))
set_option maxHeartbeats 400000 in
set_option maxRecDepth 100000 in
theorem public_lit (B bm : Nat) (E : Env) (n deep : Nat) (ns : List UInt8) (w : World) (hM : MakerAt B bm E ns w) (hd : deep ≤ 100) (hcase : 3 < deep ∨ nxV ns 8 = 0) :
    Calls Tryz.prog 71 #[.pointer (some ⟨bm, 0, none⟩), .int .i64 deep] w (Made B bm E (n + 1) w (litT (nxV ns.tail 256), ns.tail.tail)) := by
  have hB := hM.base
  have hbm := hM.lt
  have hMA := hM.alloc zeroE
  have hth := thread_cell hM
  have htl := thread_le hM
  have H1 := next_any B bm E ns 8 _ hMA (by omega) (by omega)
  have HR := Lib.hid (zeroE_at w)
  have HM := Lib.hid hM
  have HMA := Lib.hid hMA
  have H2 := fun w' h => next_any B bm E ns.tail 256 w' h (by omega) (by omega)
  have hlt := nxV_lt ns.tail 256 (by omega)
  obtain ⟨q, hq⟩ : ∃ q, q = nxV ns.tail 256 := ⟨_, rfl⟩
  rw [← hq] at H2 hlt ⊢
  obtain ⟨k, hk⟩ : ∃ k, k = nxV ns 8 := ⟨_, rfl⟩
  rw [← hk] at H1 hcase
  clear hq hk hM hMA
  by_cases h3 : 3 < deep
  · clear hcase
    go_enter Tryz.func71, Tryz.ntmps71
    go_wp2_with (first
      | (go_at_call 22; refine (digit_any E.thread htl _).mono ?_; rintro e w' ⟨rfl, rfl⟩)
      | (go_at_call 94; refine (literal_any bm q (by omega) w2).mono ?_; rintro e w3 ⟨rfl, hb3⟩; have hr3 := (hb3.block _ (heap_lt hr2)).trans hr2; obtain ⟨c0, c1, c2, c3, c4, c5⟩ := box_cells hr3; obtain ⟨d0, d1, d2, d3, d4, d5⟩ := box_free hr3; have hz3 := heap_lt hr3)
      | (go_at_call 21; refine (H2 w1 hM1.out).mono ?_; rintro e w2 ⟨rfl, hM2, hg2⟩; have hr2 := heap_grown hM1.out hg2 hr1)
      | (go_at_call 21; refine H1.mono ?_; rintro e w1 ⟨rfl, hM1, hg1⟩; have hr1 := heap_grown HMA.out hg1 HR.out; replace hM1 := Lib.hid hM1))
    have hW := put6_heap hr3 (.int .i64 0) (.int .i64 0) (.string ⟨#[]⟩) (.int .u64 (q : Int)) (.slice none 0 0) (.int .i64 0)
    obtain ⟨e0, e1, e2, e3, e4, e5⟩ := box_cells hW
    exact bodyPost_ret (v := .agg #[.int .i64 0, .int .i64 0, .string ⟨#[]⟩, .int .u64 (q : Int), .slice none 0 0, .int .i64 0]) (by simp [results, Tryz.results71, go_sem, e0, e1, e2, e3, e4, e5]) rfl (made_end hB (grownBy_trans (grownBy_trans hg1 hg2) (grownBy_below hb3)) (hM2.below hb3) hr3 (erep_lit (by omega)))
  · obtain rfl : k = 0 := by omega
    clear hcase
    go_enter Tryz.func71, Tryz.ntmps71
    go_wp2_with (first
      | (go_at_call 22; refine (digit_any E.thread htl _).mono ?_; rintro e w' ⟨rfl, rfl⟩)
      | (go_at_call 94; refine (literal_any bm q (by omega) w2).mono ?_; rintro e w3 ⟨rfl, hb3⟩; have hr3 := (hb3.block _ (heap_lt hr2)).trans hr2; obtain ⟨c0, c1, c2, c3, c4, c5⟩ := box_cells hr3; obtain ⟨d0, d1, d2, d3, d4, d5⟩ := box_free hr3; have hz3 := heap_lt hr3)
      | (go_at_call 21; refine (H2 w1 hM1.out).mono ?_; rintro e w2 ⟨rfl, hM2, hg2⟩; have hr2 := heap_grown hM1.out hg2 hr1)
      | (go_at_call 21; refine H1.mono ?_; rintro e w1 ⟨rfl, hM1, hg1⟩; have hr1 := heap_grown HMA.out hg1 HR.out; replace hM1 := Lib.hid hM1))
    have hW := put6_heap hr3 (.int .i64 0) (.int .i64 0) (.string ⟨#[]⟩) (.int .u64 (q : Int)) (.slice none 0 0) (.int .i64 0)
    obtain ⟨e0, e1, e2, e3, e4, e5⟩ := box_cells hW
    exact bodyPost_ret (v := .agg #[.int .i64 0, .int .i64 0, .string ⟨#[]⟩, .int .u64 (q : Int), .slice none 0 0, .int .i64 0]) (by simp [results, Tryz.results71, go_sem, e0, e1, e2, e3, e4, e5]) rfl (made_end hB (grownBy_trans (grownBy_trans hg1 hg2) (grownBy_below hb3)) (hM2.below hb3) hr3 (erep_lit (by omega)))

set_option maxHeartbeats 400000 in
set_option maxRecDepth 100000 in
theorem public_own (B bm : Nat) (E : Env) (n deep : Nat) (ns : List UInt8) (w : World) (hM : MakerAt B bm E ns w) (hd : deep ≤ 100) (h3 : ¬ 3 < deep) (hcase : nxV ns 8 = 1) :
    Calls Tryz.prog 71 #[.pointer (some ⟨bm, 0, none⟩), .int .i64 deep] w (Made B bm E (n + 1) w (nameT (dig 112 E), ns.tail)) := by
  have hB := hM.base
  have hbm := hM.lt
  have hMA := hM.alloc zeroE
  have hth := thread_cell hM
  have htl := thread_le hM
  have H1 := next_any B bm E ns 8 _ hMA (by omega) (by omega)
  have HR := Lib.hid (zeroE_at w)
  have HM := Lib.hid hM
  have HMA := Lib.hid hMA
  rw [hcase] at H1
  clear hcase hM hMA
  have hcat := cat2 112 (digitB E.thread)
  unfold dig
  go_enter Tryz.func71, Tryz.ntmps71
  go_wp2_with (first
    | (go_at_call 22; refine (digit_any E.thread htl _).mono ?_; rintro e w' ⟨rfl, rfl⟩)
    | (go_at_call 93; refine (name_any _ w1).mono ?_; rintro e w3 ⟨rfl, hb3⟩; have hr3 := (hb3.block _ (heap_lt hr1)).trans hr1; obtain ⟨c0, c1, c2, c3, c4, c5⟩ := box_cells hr3; obtain ⟨d0, d1, d2, d3, d4, d5⟩ := box_free hr3; have hz3 := heap_lt hr3)
    | (go_at_call 21; refine H1.mono ?_; rintro e w1 ⟨rfl, hM1, hg1⟩; have hr1 := heap_grown HMA.out hg1 HR.out; replace hM1 := Lib.hid hM1))
  have hW := put6_heap hr3 (.int .i64 1) (.int .i64 0) (.string (⟨#[112, digitB E.thread]⟩)) (.int .u64 0) (.slice none 0 0) (.int .i64 0)
  obtain ⟨e0, e1, e2, e3, e4, e5⟩ := box_cells hW
  exact bodyPost_ret (v := .agg #[.int .i64 1, .int .i64 0, .string (⟨#[112, digitB E.thread]⟩), .int .u64 0, .slice none 0 0, .int .i64 0]) (by simp [results, Tryz.results71, go_sem, e0, e1, e2, e3, e4, e5]) rfl (made_end hB (grownBy_trans hg1 (grownBy_below hb3)) (hM1.out.below hb3) hr3 (erep_name _))

set_option maxHeartbeats 400000 in
set_option maxRecDepth 100000 in
theorem public_shared (B bm : Nat) (E : Env) (n deep : Nat) (ns : List UInt8) (w : World) (hM : MakerAt B bm E ns w) (hd : deep ≤ 100) (h3 : ¬ 3 < deep) (hcase : nxV ns 8 = 2) (hh : E.held = true) :
    Calls Tryz.prog 71 #[.pointer (some ⟨bm, 0, none⟩), .int .i64 deep] w (Made B bm E (n + 1) w (nameT sharedS, ns.tail)) := by
  have hB := hM.base
  have hbm := hM.lt
  have hMA := hM.alloc zeroE
  have hth := thread_cell hM
  have htl := thread_le hM
  have H1 := next_any B bm E ns 8 _ hMA (by omega) (by omega)
  have HR := Lib.hid (zeroE_at w)
  have HM := Lib.hid hM
  have HMA := Lib.hid hMA
  rw [hcase] at H1
  clear hcase hM hMA
  go_enter Tryz.func71, Tryz.ntmps71
  go_wp2_with (first
    | (go_at_call 22; refine (digit_any E.thread htl _).mono ?_; rintro e w' ⟨rfl, rfl⟩)
    | (go_at_call 93; refine (name_any _ w1).mono ?_; rintro e w3 ⟨rfl, hb3⟩; have hr3 := (hb3.block _ (heap_lt hr1)).trans hr1; obtain ⟨c0, c1, c2, c3, c4, c5⟩ := box_cells hr3; obtain ⟨d0, d1, d2, d3, d4, d5⟩ := box_free hr3; have hz3 := heap_lt hr3)
    | (go_at_call 21; refine H1.mono ?_; rintro e w1 ⟨rfl, hM1, hg1⟩; have hr1 := heap_grown HMA.out hg1 HR.out; replace hM1 := Lib.hid hM1; have hhe := held_cell hM1.out; rw [hh] at hhe))
  have hW := put6_heap hr3 (.int .i64 1) (.int .i64 0) (.string (⟨#[115, 104, 97, 114, 101, 100]⟩)) (.int .u64 0) (.slice none 0 0) (.int .i64 0)
  obtain ⟨e0, e1, e2, e3, e4, e5⟩ := box_cells hW
  exact bodyPost_ret (v := .agg #[.int .i64 1, .int .i64 0, .string (⟨#[115, 104, 97, 114, 101, 100]⟩), .int .u64 0, .slice none 0 0, .int .i64 0]) (by simp [results, Tryz.results71, go_sem, e0, e1, e2, e3, e4, e5]) rfl (made_end hB (grownBy_trans hg1 (grownBy_below hb3)) (hM1.out.below hb3) hr3 (erep_name _))

end Go.Proofs.YtfginegegaokbaaGreatDoor
