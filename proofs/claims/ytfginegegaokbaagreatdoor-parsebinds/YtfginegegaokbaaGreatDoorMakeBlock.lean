/- What the maker's block does, where its statements are made as they should be. Conditions: the maker lies in a block of its own. -/
import Derived.Test.YtfginegegaokbaaGreatDoorMakeOne
import Derived.Deep.RegionHeld3
import Derived.BigRegion
namespace Go.Proofs.YtfginegegaokbaaGreatDoor
open Go.ChangeShapes Go.WideShapes Go.ChangeAt Go.RowKit
set_option linter.unusedVariables false
set_option linter.unusedSimpArgs false

/-- What the maker's stmt does, up to a depth. -/
def MStmtC (f : Nat) : Prop := ∀ (B bm : Nat) (inside : Bool) (E : Env) (ns : List UInt8) (w : World), MakerAt B bm E ns w → 6 ≤ f + E.deep + heldN E → 1 ≤ E.deep → E.deep ≤ 4 → roomE E →
  Calls Tryz.prog 40 #[.pointer (some ⟨bm, 0, none⟩), .bool inside] w (MadeS B bm f w (stmtM f inside E ns))
theorem heldN_le (E : Env) : heldN E ≤ 1 := by unfold heldN; split <;> omega
theorem StRow.lt {lo n : Nat} {w : World} {v : Value} {ss : List Stm} (h : StRow lo n w v ss) : ∀ g, v.ownBlock = some g → lo ≤ g ∧ g < w.heap.size := by
  obtain ⟨xs, ho, _⟩ := h
  exact ho.lt
theorem grow_set {w w' : World} {bm : Nat} (h : w.grownBy w' (some bm)) (j : Nat) (u : Value) : w.grownBy (w'.setCell ⟨bm, j, none⟩ u) (some bm) := grownBy_trans h (set_grown w' bm j u)
theorem grow_drew {w w' : World} {r : Option Nat} (h : w.grownBy w' r) : w.grownBy w'.drew r := ⟨h.os, h.tape, h.output, h.size, h.block⟩
/-- The first locals alone are left. -/
theorem MakerAt.cut_of {B bm : Nat} {E : Env} {ns : List UInt8} {w w' : World} {nv : Value} {lao sao cao : Option Addr} {lcap scap ccap n d : Nat} (h : MakerAt B bm E ns w)
    (h2 : w.heap[bm]? = some (.cells #[nv, .slice lao E.loc.length lcap, .slice sao E.loc.length scap, .slice cao E.loc.length ccap, .bool E.held, .int .i64 E.thread, .int .i64 E.deep] 73 (0, 0)))
    (hg : w.grownBy w' (some bm)) (hb : w'.heap[bm]? = some (.cells #[nv, .slice lao n lcap, .slice sao n scap, .slice cao n ccap, .bool E.held, .int .i64 E.thread, .int .i64 d] 73 (0, 0))) (hn : n ≤ E.loc.length) (hd : d ≤ 100) : MakerAt B bm { cutE E n with deep := d } ns w' := by
  have hB := h.base
  obtain ⟨h1, nv', lv, sv, cv, h2', h3, h4, h5, h6, h7, h8, h9⟩ := h
  rw [h2] at h2'
  simp only [Option.some.injEq, Obj.cells.injEq, Array.mk.injEq, List.cons.injEq, and_true] at h2'
  obtain ⟨rfl, rfl, rfl, rfl⟩ := h2'
  have cut : ∀ {e : TypeId} {ao : Option Addr} {cap : Nat} {xs : List Value}, w.ownsRow B e 1 (.slice ao E.loc.length cap) E.loc.length xs → 73 ≠ e → w'.ownsRow B e 1 (.slice ao n cap) n (xs.take n) := fun {e ao cap xs} ho hne => by
    have hk := ho.kept hg (.inr (Lib.ownBlock_ne ho h2 hne))
    refine ⟨by have := ho.1; simp; omega, ?_⟩
    rcases hk.2 with ⟨hv, h0⟩ | ⟨g, cap', cur, hv, hbg, hgg, hl, hm, hs, ht⟩
    · obtain rfl : n = 0 := by omega
      simp only [Value.slice.injEq] at hv
      exact .inl ⟨by simp [hv.1, hv.2.2], rfl⟩
    · simp only [Value.slice.injEq, true_and] at hv
      refine .inr ⟨g, cap', cur, by simp [hv.1, hv.2], hbg, hgg, by omega, hm, hs, ?_⟩
      rw [← ht, List.take_take]
      congr 1
      omega
  have hl : (E.loc.take n).length = n := by simp; omega
  refine ⟨h1, nv, _, _, _, hb, h3.on (fun k hk => hg.block k (by omega) (fun e => by cases e; omega)), ?_, ?_, ?_, h7, hd, by show (E.loc.take n).length ≤ 100; omega⟩
  · show w'.ownsRow B 9 1 _ (E.loc.take n).length ((E.loc.take n).map .string)
    rw [hl, List.map_take]; exact cut h4 (by decide)
  · show w'.ownsRow B 4 1 _ (E.loc.take n).length ((E.sec.take n).map .bool)
    rw [hl, List.map_take]; exact cut h5 (by decide)
  · show w'.ownsRow B 3 1 _ (E.loc.take n).length ((E.cnt.take n).map (.int .i64))
    rw [hl, List.map_take]; exact cut h6 (by decide)
/-- The maker's block, its lists as slices. -/
theorem MakerAt.slices {B bm : Nat} {E : Env} {ns : List UInt8} {w : World} (h : MakerAt B bm E ns w) : ∃ nv lao lcap sao scap cao ccap, w.heap[bm]? = some (.cells #[nv, .slice lao E.loc.length lcap, .slice sao E.loc.length scap, .slice cao E.loc.length ccap, .bool E.held, .int .i64 E.thread, .int .i64 E.deep] 73 (0, 0)) ∧ E.loc.length ≤ lcap ∧ E.loc.length ≤ scap ∧ E.loc.length ≤ ccap := by
  obtain ⟨h1, nv, lv, sv, cv, h2, h3, h4, h5, h6, h7⟩ := h
  have sl : ∀ {e : TypeId} {v : Value} {xs : List Value}, w.ownsRow B e 1 v E.loc.length xs → ∃ ao cap, v = .slice ao E.loc.length cap ∧ E.loc.length ≤ cap := fun {e v xs} ho => by
    rcases ho.2 with ⟨rfl, h0⟩ | ⟨g, cap, cur, rfl, _, _, hl, _⟩
    · exact ⟨none, 0, by simp [h0], by omega⟩
    · exact ⟨_, cap, rfl, hl⟩
  obtain ⟨lao, lcap, rfl, hl⟩ := sl h4
  obtain ⟨sao, scap, rfl, hs⟩ := sl h5
  obtain ⟨cao, ccap, rfl, hc⟩ := sl h6
  exact ⟨nv, lao, lcap, sao, scap, cao, ccap, h2, hl, hs, hc⟩
/-- How deep is written. -/
theorem MakerAt.sink {B bm : Nat} {E : Env} {ns : List UInt8} {w : World} (h : MakerAt B bm E ns w) (d : Nat) (hd : d ≤ 100) : MakerAt B bm { E with deep := d } ns (w.setCell ⟨bm, 6, none⟩ (.int .i64 d)) := by
  have hB := h.base
  obtain ⟨h1, nv, lv, sv, cv, h2, h3, h4, h5, h6, h7, h8, h9⟩ := h
  have hg := set_grown w bm 6 (.int .i64 d)
  refine ⟨h1, nv, lv, sv, cv, ?_, h3.on (fun k hk => hg.block k (by omega) (fun e => by cases e; omega)), h4.kept hg (.inr (Lib.ownBlock_ne h4 h2 (by decide))), h5.kept hg (.inr (Lib.ownBlock_ne h5 h2 (by decide))), h6.kept hg (.inr (Lib.ownBlock_ne h6 h2 (by decide))), h7, hd, h9⟩
  rw [set_heap h2]; rfl
theorem maker_frozen {B bm : Nat} {E : Env} {ns : List UInt8} {w : World} (h : MakerAt B bm E ns w) (j : Nat) : w.frozen? ⟨bm, j, none⟩ = false := by
  obtain ⟨h1, nv, lv, sv, cv, h2, _⟩ := h
  exact Lib.frozen_of_heap h2 j
theorem loop_succ (st : Bool → Env → List UInt8 → Mk) (inside : Bool) (j : Nat) (E : Env) (ns : List UInt8) {ss : List Stm} {E' : Env} {ns' : List UInt8} (h : loopM st inside j E ns = (ss, E', ns')) : loopM st inside (j + 1) E ns = (ss ++ (st inside E' ns').1, (st inside E' ns').2.1, (st inside E' ns').2.2) := by
  show ((loopM st inside j E ns).1 ++ _, _) = _
  rw [h]

theorem drew_heap {w : World} {k : Nat} {o : Obj} (h : w.heap[k]? = some o) : w.drew.heap[k]? = some o := h
theorem block_end {f B bm n d : Nat} {E : Env} {ns : List UInt8} {w wr w' : World} {v nv : Value} {ss : List Stm} {lao sao cao : Option Addr} {lcap scap ccap : Nat} (hR : StRow w.heap.size f wr v ss) (hK : KeepM B w wr) (hM : MakerAt B bm E ns wr)
    (h2 : wr.heap[bm]? = some (.cells #[nv, .slice lao E.loc.length lcap, .slice sao E.loc.length scap, .slice cao E.loc.length ccap, .bool E.held, .int .i64 E.thread, .int .i64 E.deep] 73 (0, 0)))
    (hg : wr.grownBy w' (some bm)) (hb : w'.heap[bm]? = some (.cells #[nv, .slice lao n lcap, .slice sao n scap, .slice cao n ccap, .bool E.held, .int .i64 E.thread, .int .i64 d] 73 (0, 0))) (hn : n ≤ E.loc.length) (hd : d ≤ 100) (hlen : ss.length ≤ 4294967296) :
    MadeS B bm f w (ss, { cutE E n with deep := d }, ns) (.returned v) w' := by
  have hKp := KeepM.of_grown hM hg
  exact ⟨_, rfl, (hR.keep hKp).stms hlen, hM.cut_of h2 hg hb hn hd, hK.trans hKp⟩

set_option maxHeartbeats 4000000 in
set_option maxRecDepth 100000 in
theorem block_any {f : Nat} (ih : MStmtC f) (B bm : Nat) (inside : Bool) (E : Env) (ns : List UInt8) (w : World) (hM : MakerAt B bm E ns w) (hf : 6 ≤ f + (E.deep + 1) + heldN E) (hd : E.deep ≤ 3) (hroom : roomE { E with deep := E.deep + 1 }) :
    Calls Tryz.prog 23 #[.pointer (some ⟨bm, 0, none⟩), .bool inside] w (MadeS B bm f w (blockM (stmtM f) inside E ns)) := by
  have hB := hM.base
  have hdc := mdeep_cell hM
  have hdf := maker_frozen hM 6
  have hh1 := heldN_le E
  have hf1 : 1 ≤ f := by omega
  have hfull := maker_full hM
  have hMd : MakerAt B bm { E with deep := E.deep + 1 } ns (w.setCell ⟨bm, 6, none⟩ (.int .i64 ((E.deep : Int) + 1))) := hM.sink (E.deep + 1) (by omega)
  have hKd : KeepM B w (w.setCell ⟨bm, 6, none⟩ (.int .i64 ((E.deep : Int) + 1))) := KeepM.of_grown hM (set_grown _ _ _ _)
  obtain ⟨lao, lcap, hlc, _⟩ := locals_cell hMd
  have hlc' : (w.setCell ⟨bm, 6, none⟩ (.int .i64 ((E.deep : Int) + 1))).cell? ⟨bm, 1, none⟩ = some (.slice lao E.loc.length lcap) := hlc
  have H1 := next_any B bm _ ns 5 _ hMd (by omega) (by omega)
  have hn5 := nxV_lt ns 5 (by omega)
  have HE : Hid (∃ E1 : Env, E1 = { E with deep := E.deep + 1 }) := ⟨_, rfl⟩
  obtain ⟨E1, hE1⟩ := HE.out
  rw [← hE1] at hMd H1 hroom
  have hd1 : E1.deep = E.deep + 1 := by rw [hE1]
  have hl1 : E1.loc = E.loc := by rw [hE1]
  have hh : heldN E1 = heldN E := by rw [hE1]; rfl
  have hfull1 : fullE E1 := by rw [hE1]; exact hfull
  have hblock : blockM (stmtM f) inside E ns = ((loopM (stmtM f) inside (nxV ns 5 + 1) E1 ns.tail).1, { cutE (loopM (stmtM f) inside (nxV ns 5 + 1) E1 ns.tail).2.1 E.loc.length with deep := E.deep }, (loopM (stmtM f) inside (nxV ns 5 + 1) E1 ns.tail).2.2) := by rw [hE1]; rfl
  rw [hblock]
  have HH := Lib.hid (And.intro hE1 (And.intro hd1 (And.intro hl1 (And.intro hh (And.intro hfull1 (And.intro hMd (And.intro hKd hlc)))))))
  clear hE1 hd1 hl1 hh hfull1 hblock hM hMd hKd hlc hfull HE
  go_enter Tryz.func23, Tryz.ntmps23
  go_wp2_with (go_at_call 21; refine H1.mono ?_; rintro e w1 ⟨rfl, hM1, hg1⟩; replace hM1 := Lib.hid hM1; replace hg1 := Lib.hid hg1)
  go_loopw [6, 7] (fun out k wr => ∃ j : Nat, j ≤ nxV ns 5 + 1 ∧ k = .int .i64 ((nxV ns 5 : Int) - j) ∧ StRow w.heap.size f wr out (loopM (stmtM f) inside j E1 ns.tail).1 ∧ (loopM (stmtM f) inside j E1 ns.tail).1.length ≤ 7 * j ∧ MakerAt B bm (loopM (stmtM f) inside j E1 ns.tail).2.1 (loopM (stmtM f) inside j E1 ns.tail).2.2 wr ∧ KeepM B w wr) (fun _ k _ => (intOf k + 1).toNat)
  case atStart =>
    obtain ⟨_, _, _, _, _, hMd, hKd, _⟩ := HH.out
    have hK1 := hKd.trans (KeepM.of_grown hMd hg1.out)
    exact ⟨0, by omega, by simp, StRow.nil hK1.size, by simp [loopM], hM1.out, hK1⟩
  case round =>
    obtain ⟨j, hj, rfl, hR, hlen, hMr, hKr⟩ := hrel
    have hzr := hKr.size
    obtain ⟨_, hd1, hl1, hh, hfull1, _, _, _⟩ := HH.out
    have hgw := loop_grow (fun E ns hf => stmt_grow f inside E ns hf) j E1 ns.tail hfull1
    have hrm := loop_room (fun E ns hf => stmt_grow f inside E ns hf) (fun E ns hf hd hr => stmt_room f inside E ns hf hd hr) j E1 ns.tail hfull1 (by omega) hroom
    by_cases hlt : j < nxV ns 5 + 1
    · obtain ⟨ss, E2, ns2, hl2⟩ : ∃ ss E2 ns2, loopM (stmtM f) inside j E1 ns.tail = (ss, E2, ns2) := ⟨_, _, _, rfl⟩
      have HS := Lib.hid (loop_succ (stmtM f) inside j E1 ns.tail hl2)
      rw [hl2] at hR hMr hlen hgw hrm
      simp only at hR hMr hlen hgw hrm
      have hd2 : E2.deep = E.deep + 1 := by rw [hgw.2.2.1, hd1]
      have hh2 : heldN E2 = heldN E := by rw [grow_heldN hgw, hh]
      have hsl := stmt_len f inside E2 ns2 (hgw.full hfull1) hf1 (by omega)
      have P1 := ih B bm inside E2 ns2 wr hMr (by omega) (by omega) (by omega) hrm
      obtain ⟨hs1, hs7, _⟩ := hsl
      have HR := Lib.hid hR
      have HK := Lib.hid hKr
      clear hl2 hgw hrm hd2 hh2 hMr hR hKr hd1 hl1 hh hfull1
      go_wp2_with (first
        | (go_at_call 40; refine P1.mono ?_; rintro e w2 ⟨v2, rfl, hS2, hM2, hK2⟩; replace hS2 := Lib.hid hS2; replace hM2 := Lib.hid hM2; replace hK2 := Lib.hid hK2)
        | (at_builtin; refine wpList_append_st _ rfl (.tmp 26) (.tmp 29) rfl w.heap.size wr.heap.size w2.heap.size f _ _ ss (stmtM f inside E2 ns2).1 (by rfl) (by rfl) (HR.out.keep hK2.out) hS2.out hzr (Nat.le_refl _) (fun g hg => .inl (HR.out.lt g hg).2) (by omega) (by omega) ?_; intro g3 cap3 w3 hR3 hg3))
      have hR2 := HR.out.keep hK2.out
      have hM3 := hM2.out.grow hR2 hB hg3
      have hK3 := (HK.out.trans hK2.out).grow hB hg3 (fun k hk => (hR2.lt k hk).1)
      go_roundw
      case rel => exact ⟨j + 1, by omega, by go_num, by rw [HS.out]; rw [List.length_append] at hR3; exact hR3, by rw [HS.out]; simp only [List.length_append]; omega, by rw [HS.out]; exact hM3, hK3⟩
      case measure => simp [intOf]; omega
    · obtain rfl : j = nxV ns 5 + 1 := by omega
      obtain ⟨ss, E2, ns2, hl2⟩ : ∃ ss E2 ns2, loopM (stmtM f) inside (nxV ns 5 + 1) E1 ns.tail = (ss, E2, ns2) := ⟨_, _, _, rfl⟩
      have HL := Lib.hid hl2
      rw [hl2] at hR hMr hlen hgw hrm
      have hss : Hid (ss.length ≤ 4294967296) := by simp only at hlen; exact (show ss.length ≤ 4294967296 by omega)
      simp only at hR hMr hlen hgw hrm
      obtain ⟨hgh, hgt, hgd, l, s, c, hloc, hsec, hcnt, _⟩ := hgw
      have hle : E.loc.length ≤ E2.loc.length := by rw [hloc, hl1]; simp
      obtain ⟨nv, la, lc, sa, sc, ca, cc, hb2, q1, q2, q3⟩ := hMr.slices
      obtain ⟨a0, a1, a2, a3, a4, a5, a6⟩ := seven_cells hb2
      have f1 := maker_frozen hMr 1
      have f2 := maker_frozen hMr 2
      have f3 := maker_frozen hMr 3
      have f6 := maker_frozen hMr 6
      have hd2 : E2.deep = E.deep + 1 := by rw [hgd, hd1]
      rw [hd2] at a6
      have HR := Lib.hid hR
      have HK := Lib.hid hKr
      have HM := Lib.hid hMr
      have HB := Lib.hid hb2
      have b0 : (0 : Int) ≤ (E.loc.length : Int) := by omega
      have b1 : (E.loc.length : Int) ≤ (lc : Int) := by omega
      have b2 : (E.loc.length : Int) ≤ (sc : Int) := by omega
      have b3 : (E.loc.length : Int) ≤ (cc : Int) := by omega
      clear hl2 hR hKr hMr hb2 hd1 hl1 hh hfull1 hrm hloc hsec hcnt hgh hgt hgd
      go_wp2
      go_region
      go_wp2
      go_ret
      rw [HL.out]
      refine block_end HR.out HK.out HM.out HB.out ?_ ?_ hle (by omega) hss.out
      · repeat (first | exact grownBy_refl _ _ | refine grow_set ?_ _ _ | refine grow_drew ?_)
      · have r1 := set_heap (drew_heap HB.out) 1 (.slice la E.loc.length lc)
        have r2 := set_heap r1 2 (.slice sa E.loc.length sc)
        have r3 := set_heap r2 3 (.slice ca E.loc.length cc)
        exact set_heap r3 6 (.int .i64 (E.deep : Int))
end Go.Proofs.YtfginegegaokbaaGreatDoor
