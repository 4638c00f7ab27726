/- What the maker's stmt does, where it is a loop, when it is called. Conditions: the maker lies in a block of its own. -/
import Derived.Test.YtfginegegaokbaaGreatDoorMakeCut
namespace Go.Proofs.YtfginegegaokbaaGreatDoor
open Go.ChangeShapes Go.WideShapes Go.ChangeAt Go.RowKit
set_option linter.unusedVariables false
set_option linter.unusedSimpArgs false

/-- Another block than the maker's, of statements, is written. -/
theorem MakerAt.setS {B bm : Nat} {E : Env} {ns : List UInt8} {w : World} (h : MakerAt B bm E ns w) {r : Nat} {cs : Array Value} {fr : Nat × Nat} (hr : w.heap[r]? = some (.cells cs 60 fr)) (hB : B ≤ r) (off : Nat) (u : Value) : MakerAt B bm E ns (w.setCell ⟨r, off, none⟩ u) := by
  obtain ⟨h1, nv, lv, sv, cv, h2, h3, h4, h5, h6, h7⟩ := h
  have hne : bm ≠ r := fun e => by subst e; rw [hr] at h2; simp at h2
  have hg : w.grownBy (w.setCell ⟨r, off, none⟩ u) (some r) := set_grown w r off u
  exact ⟨h1, nv, lv, sv, cv, (Below.heap_setCell _ _ _ _ hne).trans h2, h3.on fun k hk => Below.heap_setCell _ _ _ _ (show k ≠ r by omega), h4.kept hg (.inr (Lib.ownBlock_ne h4 hr (by decide))), h5.kept hg (.inr (Lib.ownBlock_ne h5 hr (by decide))), h6.kept hg (.inr (Lib.ownBlock_ne h6 hr (by decide))), h7⟩
theorem Stms.far {lo hi n r off : Nat} {w : World} {u v : Value} {ss : List Stm} (h : Stms lo hi w (fun v' s' => SRep lo hi w 13 n v' s') v ss) (hr : r < lo) : Stms lo hi (w.setCell ⟨r, off, none⟩ u) (fun v' s' => SRep lo hi (w.setCell ⟨r, off, none⟩ u) 13 n v' s') v ss := by
  have h35 : Same35 lo hi w (w.setCell ⟨r, off, none⟩ u) := fun g cs fr h1 _ hc => (Below.heap_setCell _ _ _ _ (show g ≠ r by omega)).trans hc
  have h45 : Same45 lo hi w (w.setCell ⟨r, off, none⟩ u) := fun g cs fr h1 _ hc => (Below.heap_setCell _ _ _ _ (show g ≠ r by omega)).trans hc
  exact h.carry (Nat.le_refl _) (Nat.le_refl _) h45 fun _ _ hr => hr.carry (Nat.le_refl _) (Nat.le_refl _) h35 h45
theorem for_end {B bm n g a b' m : Nat} {w w5 w6 w7 : World} {E : Env} {ns : List UInt8} {b : List Stm} {bao lao sao cao : Option Addr} {bcap lcap scap ccap : Nat} {c : Int} {nv : Value} (hB : B ≤ w.heap.size) (hK5 : KeepM B w w5) (hS5 : Stms a b' w5 (fun v' s' => SRep a b' w5 13 n v' s') (.slice bao b.length bcap) b) (ha : w.heap.size ≤ a) (hb' : b' ≤ w5.heap.size)
    (hM5 : MakerAt B bm (enterE E false c) ns w5) (hfull : fullE E) (hm : m = E.loc.length + 1) (h2 : w5.heap[bm]? = some (.cells #[nv, .slice lao m lcap, .slice sao m scap, .slice cao m ccap, .bool E.held, .int .i64 E.thread, .int .i64 E.deep] 73 (0, 0)))
    (hG : w5.grownBy w6 (some bm)) (hb6 : w6.heap[bm]? = some (.cells #[nv, .slice lao E.loc.length lcap, .slice sao E.loc.length scap, .slice cao E.loc.length ccap, .bool E.held, .int .i64 E.thread, .int .i64 E.deep] 73 (0, 0))) (hb7 : Below w6.heap.size w6 w7) (hgl : w6.heap.size ≤ g)
    (hg7 : w7.heap[g]? = some (.cells #[.int .i64 4, .string (nameX E), .slice none 0 0, .int .i64 c, .slice bao b.length bcap, .slice none 0 0, .int .i64 0] 60 (0, 0))) (hc0 : 0 ≤ c) (hc1 : c ≤ 1000) :
    MadeS B bm (n + 1) w ([⟨4, nameX E, [], c, b, [], 0⟩], E, ns) (.returned (.slice (some ⟨g, 0, none⟩) 1 1)) w7 := by
  have el : (enterE E false c).loc.length = E.loc.length + 1 := by simp [enterE]
  have hd : E.deep ≤ 100 := by
    obtain ⟨_, _, _, _, _, _, _, _, _, _, _, h8, _⟩ := hM5
    exact h8
  have hM6 : MakerAt B bm { cutE (enterE E false c) E.loc.length with deep := E.deep } ns w6 := hM5.cut_of (n := E.loc.length) (d := E.deep) (by rw [el, ← hm]; exact h2) hG hb6 (by omega) hd
  have e : ({ cutE (enterE E false c) E.loc.length with deep := E.deep } : Env) = E := by
    rw [cutE_grow hfull (growE.enter E false c)]
  rw [e] at hM6
  have hK6 := KeepM.of_grown hM5 hG
  have z5 := hK5.size
  have z6 := hK6.size
  have hK7 : KeepM B w6 w7 := KeepM.of_below (by omega) hb7
  refine made_fin ((hK5.trans hK6).trans hK7) (hM6.below hb7) hg7 (by omega) ⟨by simp; omega, by simp; omega, by simp [nameX, ByteArray.size], none, 0, bao, bcap, none, 0, rfl, kids0, ?_, stms0⟩
  exact hS5.keep ha hb' (hK6.trans hK7)

set_option maxHeartbeats 4000000 in
set_option maxRecDepth 100000 in
theorem stmt_loop {f : Nat} (ih : MStmtC f) (B bm : Nat) (E : Env) (inside : Bool) (ns : List UInt8) (w : World) (hM : MakerAt B bm E ns w) (hf : 6 ≤ f + 1 + E.deep + heldN E) (hd1 : 1 ≤ E.deep) (hd : E.deep < 4) (hroom : roomE E) (hcase : nxV ns 12 = 5) :
    Calls Tryz.prog 40 #[.pointer (some ⟨bm, 0, none⟩), .bool inside] w (MadeS B bm (f + 1) w (forM (stmtM f) inside E (1 + nxV ns.tail 5) ns.tail.tail)) := by
  have hB := hM.base
  have hth := thread_cell hM
  have htl := thread_le hM
  have H1 := next_any B bm E ns 12 _ hM (by omega) (by omega)
  have H2 := fun w' h => next_any B bm E ns.tail 5 w' h (by omega) (by omega)
  have h5 := nxV_lt ns.tail 5 (by omega)
  have HM := Lib.hid hM
  have hfull := maker_full hM
  obtain ⟨k5, hk5⟩ : ∃ k, nxV ns.tail 5 = k := ⟨_, rfl⟩
  rw [hk5] at H2 h5 ⊢
  have hc : ((1 + k5 : Nat) : Int) = 1 + (k5 : Int) := by omega
  obtain ⟨b, m, hq⟩ : ∃ b m, blockM (stmtM f) inside (enterE E false (1 + (k5 : Int))) ns.tail.tail = (b, enterE E false (1 + (k5 : Int)), m) := ⟨_, _, Prod.ext rfl (Prod.ext (block_env (fun E ns hf => stmt_grow f inside E ns hf) _ _ (enter_full hfull _ _)) rfl)⟩
  have hgoal : forM (stmtM f) inside E (1 + k5) ns.tail.tail = ([⟨4, nameX E, [], 1 + (k5 : Int), b, [], 0⟩], E, m) := by simp only [forM, hc, hq]
  rw [hgoal]
  have hrm : roomE { enterE E false (1 + (k5 : Int)) with deep := (enterE E false (1 + (k5 : Int))).deep + 1 } := by
    unfold roomE at hroom ⊢
    simp only [enterE, List.length_append, List.length_cons, List.length_nil]; omega
  have hdp : (enterE E false (1 + (k5 : Int))).deep = E.deep := rfl
  have hhe : heldN (enterE E false (1 + (k5 : Int))) = heldN E := rfl
  have hll : (enterE E false (1 + (k5 : Int))).loc.length = E.loc.length + 1 := by simp [enterE]
  have PB := fun w' h => block_any ih B bm inside (enterE E false (1 + (k5 : Int))) ns.tail.tail w' h (by rw [hdp, hhe]; omega) (by rw [hdp]; omega) hrm
  rw [hq] at PB
  have hlen : E.loc.length ≤ 99 := by unfold roomE at hroom; omega
  have hdI : (E.deep : Int) < 4 := by omega
  rw [hcase] at H1
  have HF := Lib.hid hfull
  have HLL := Lib.hid hll
  clear hcase hq hgoal hM hk5 hrm hroom hfull hc hdp hhe hll
  go_enter Tryz.func40, Tryz.ntmps40
  go_wp2_with (first
    | (go_at_call 22; refine (digit_any E.thread htl _).mono ?_; rintro e w' ⟨rfl, rfl⟩)
    | (go_at_call 23; refine (PB _ (hM3.out.alloc _)).mono ?_; rintro e w4 ⟨v4, rfl, hS4, hM4, hK4⟩; obtain ⟨bao, bcap, rfl, _⟩ := id hS4; have hbx4 := hK4.2 w3.heap.size _ _ _ (heap_alloc_new w3 _) (by decide) (by decide) (by decide) (by decide); have fz4 := Lib.frozen_of_heap hbx4 4; obtain ⟨s0, s1, s2, s3, s4, s5, s6⟩ := stmt_cells hbx4; replace hbx4 := Lib.hid hbx4; replace hS4 := Lib.hid hS4; replace hM4 := Lib.hid hM4; replace hK4 := Lib.hid hK4)
    | (go_at_call 70; refine (enter_any B bm E ns.tail.tail false (1 + (k5 : Int)) w2 hM2.out hlen).mono ?_; rintro e w3 ⟨rfl, hM3, hK3⟩; replace hM3 := Lib.hid hM3; replace hK3 := Lib.hid hK3)
    | (go_at_call 21; refine (H2 w1 hM1.out).mono ?_; rintro e w2 ⟨rfl, hM2, hg2⟩; replace hM2 := Lib.hid hM2)
    | (go_at_call 21; refine H1.mono ?_; rintro e w1 ⟨rfl, hM1, hg1⟩; obtain ⟨lao, lcap, hlc, _⟩ := locals_cell hM1; have hdc := mdeep_cell hM1; have hhc := held_cell hM1; replace hM1 := Lib.hid hM1))
  have hKw2 := (KeepM.of_grown HM.out hg1).trans (KeepM.of_grown hM1.out hg2)
  have z2 := hKw2.size
  have z3 := hK3.out.size
  have z4 := hK4.out.size
  rw [alloc_size] at z4
  have hM5 := hM4.out.setS hbx4.out (by omega) 4 (.slice bao b.length bcap)
  have hK5 := (((hKw2.trans hK3.out).alloc (by omega) _).trans hK4.out).grow hB (set_grown w4 w3.heap.size 4 (.slice bao b.length bcap)) (fun k hk => by cases hk; omega)
  have hS5 := hS4.out.far (r := w3.heap.size) (off := 4) (u := .slice bao b.length bcap) (by rw [alloc_size]; omega)
  have hb5 := set_heap hbx4.out 4 (.slice bao b.length bcap)
  have hz5 : w4.heap.size ≤ (w4.setCell ⟨w3.heap.size, 4, none⟩ (.slice bao b.length bcap)).heap.size := by simp [World.setCell]
  have hne : bm ≠ w3.heap.size := by have := hM3.out.lt; omega
  generalize w4.setCell ⟨w3.heap.size, 4, none⟩ (.slice bao b.length bcap) = w5 at *
  obtain ⟨nv, la, lc, sa, sc, ca, cc, hb2, q1, q2, q3⟩ := hM5.slices
  rw [HLL.out] at hb2 q1 q2 q3
  have HB5 : Hid (w5.heap[w3.heap.size]? = some (.cells #[.int .i64 4, .string (nameX E), .slice none 0 0, .int .i64 (1 + (k5 : Int)), .slice bao b.length bcap, .slice none 0 0, .int .i64 0] 60 (0, 0))) := hb5
  have hne' : w3.heap.size ≠ bm := fun e => hne e.symm
  have HM5 := Lib.hid hM5
  have HK5 := Lib.hid hK5
  have HS5 := Lib.hid hS5
  have HB2 := Lib.hid hb2
  clear hM5 hK5 hS5 hb2 hb5 s0 s1 s2 s3 s4 s5 s6 fz4
  go_wp2
  refine cut_region ⟨bm, w5, nv, la, lc, sa, sc, ca, cc, E.loc.length + 1, E.loc.length, E.held, E.thread, E.deep⟩ ⟨grownBy_refl _ _, HB2.out⟩ (by rfl) (by rfl) (by simp) (by simp; omega) (by simp) q1 q2 q3 ?_
  rintro w6 ⟨hG6, hb6⟩
  have HG6 := Lib.hid hG6
  have HB6 := Lib.hid hb6
  have u : w6.heap[w3.heap.size]? = some (.cells #[.int .i64 4, .string (nameX E), .slice none 0 0, .int .i64 (1 + (k5 : Int)), .slice bao b.length bcap, .slice none 0 0, .int .i64 0] 60 (0, 0)) := (hG6.block _ (heap_lt HB5.out) (by simpa using hne')).trans HB5.out
  obtain ⟨t0, t1, t2, t3, t4, t5, t6⟩ := stmt_cells u
  clear hG6 hb6 u
  rw [writeAll_cut]
  simp only [cutV, List.setIfInBounds_toArray, List.set_cons_zero, List.set_cons_succ]
  go_wp2_with (go_at_call 68; refine (one_any _ _ _ _ _ _ _ _ _ _ _ _ _ _).mono ?_; rintro e w7 ⟨g, rfl, hgl, hgr, hg7, hb7⟩)
  go_ret
  exact for_end hB HK5.out HS5.out (by rw [alloc_size]; omega) hz5 HM5.out HF.out rfl HB2.out HG6.out (by simpa [pick3] using HB6.out) hb7 hgl hg7 (by omega) (by omega)
end Go.Proofs.YtfginegegaokbaaGreatDoor
