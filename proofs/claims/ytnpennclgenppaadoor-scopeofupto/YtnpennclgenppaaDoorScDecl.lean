/- The statements' own maker of declarations. Conditions: none. -/
import Derived.Test.YtnpennclgenppaaDoorScOf
namespace Go.Proofs.YtnpennclgenppaaDoor
open Go.ChangeShapes Go.WideShapes Go.RowKit Go.Maps
set_option linter.unusedVariables false
set_option linter.unusedSimpArgs false

/-- The name of a number. -/
def nmN (i : Nat) : ByteArray := ⟨#[UInt8.ofNat (97 + i)]⟩
theorem nmN_size (i : Nat) : (nmN i).size ≤ maxLen := by simp [nmN, ByteArray.size, maxLen]
theorem nmN_inj {i j : Nat} (hi : i < 100) (hj : j < 100) (h : nmN i = nmN j) : i = j := by
  simp only [nmN, ByteArray.mk.injEq, Array.mk.injEq, List.cons.injEq, and_true] at h
  have := congrArg UInt8.toNat h
  simp only [UInt8.toNat_ofNat'] at this
  omega
@[reducible] def sixObj : Obj := .cells #[.string ⟨#[97]⟩, .string ⟨#[98]⟩, .string ⟨#[99]⟩, .string ⟨#[100]⟩, .string ⟨#[101]⟩, .string ⟨#[102]⟩] 9
theorem six_cell {w : World} {g c : Nat} (h : w.heap[g]? = some sixObj) (hc : c < 6) : w.cell? ⟨g, c, none⟩ = some (.string (nmN c)) := by
  rw [Lib.cell_of_heap h]
  match c, hc with
  | 0, _ => rfl
  | 1, _ => rfl
  | 2, _ => rfl
  | 3, _ => rfl
  | 4, _ => rfl
  | 5, _ => rfl
/-- The declaration of four numbers. -/
def declP (n b s l p : Int) : Dc := if s % 5 = 4 then ⟨true, 0, nmN (n % 6).toNat, 0, ⟨#[]⟩, p⟩ else ⟨false, l % 2, nmN (n % 6).toNat, s % 4, if b % 3 = 0 then nmN (b / 3 % 6).toNat else ⟨#[]⟩, p⟩

theorem declP_lock {n b s l p : Int} {c : Nat} (h5 : s % 5 = 4) (hc : n % 6 = (c : Int)) : declP n b s l p = ⟨true, 0, nmN c, 0, ⟨#[]⟩, p⟩ := by
  unfold declP; rw [if_pos h5, show (n % 6).toNat = c by omega]
theorem declP_by {n b s l p : Int} {c d : Nat} (h5 : ¬ s % 5 = 4) (h3 : b % 3 = 0) (hc : n % 6 = (c : Int)) (hd : b / 3 % 6 = (d : Int)) : declP n b s l p = ⟨false, l % 2, nmN c, s % 4, nmN d, p⟩ := by
  unfold declP; rw [if_neg h5, if_pos h3, show (n % 6).toNat = c by omega, show (b / 3 % 6).toNat = d by omega]
theorem declP_none {n b s l p : Int} {c : Nat} (h5 : ¬ s % 5 = 4) (h3 : ¬ b % 3 = 0) (hc : n % 6 = (c : Int)) : declP n b s l p = ⟨false, l % 2, nmN c, s % 4, ⟨#[]⟩, p⟩ := by
  unfold declP; rw [if_neg h5, if_neg h3, show (n % 6).toNat = c by omega]
theorem put_below {w W : World} {r : Nat} (h : Below w.heap.size w W) (hr : w.heap.size ≤ r) (u0 u1 u2 u3 u4 u5 : Value) : Below w.heap.size w ((((((W.setCell ⟨r, 0, none⟩ u0).setCell ⟨r, 1, none⟩ u1).setCell ⟨r, 2, none⟩ u2).setCell ⟨r, 3, none⟩ u3).setCell ⟨r, 4, none⟩ u4).setCell ⟨r, 5, none⟩ u5) :=
  (((((h.setCell hr _).setCell hr _).setCell hr _).setCell hr _).setCell hr _).setCell hr _
@[reducible] def fourU (n b s l : Int) : Obj := .cells #[.int .u8 n, .int .u8 b, .int .u8 s, .int .u8 l] 26
@[reducible] def zeroD : Obj := .cells #[.bool false, .int .i64 0, .string ⟨#[]⟩, .int .i64 0, .string ⟨#[]⟩, .int .i64 0] 29
@[reducible] def declW (w : World) (n b s l : Int) : World := ((w.alloc (fourU n b s l)).alloc zeroD).alloc sixObj
theorem declW_a (w : World) (n b s l : Int) : (declW w n b s l).heap[w.heap.size]? = some (fourU n b s l) := by simp only [declW, alloc_at, alloc_size]; rw [if_neg (by omega), if_neg (by omega)]; simp
theorem declW_b (w : World) (n b s l : Int) : (declW w n b s l).heap[w.heap.size + 1]? = some zeroD := by simp only [declW, alloc_at, alloc_size]; simp
theorem declW_c (w : World) (n b s l : Int) : (declW w n b s l).heap[w.heap.size + 1 + 1]? = some sixObj := by simp only [declW, alloc_at, alloc_size]; simp
theorem declW_size (w : World) (n b s l : Int) : (declW w n b s l).heap.size = w.heap.size + 1 + 1 + 1 := by simp only [declW, alloc_size]
theorem declW_below (w : World) (n b s l : Int) : Below w.heap.size w (declW w n b s l) := (((Below.refl _ _).alloc (Nat.le_refl _) _).alloc (by simp) _).alloc (by simp only [alloc_size]; omega) _
theorem cells4 {w : World} {g : Nat} {x0 x1 x2 x3 : Value} {t : TypeId} (h : w.heap[g]? = some (.cells #[x0, x1, x2, x3] t (0, 0))) : w.cell? ⟨g, 0, none⟩ = some x0 ∧ w.cell? ⟨g, 1, none⟩ = some x1 ∧ w.cell? ⟨g, 2, none⟩ = some x2 ∧ w.cell? ⟨g, 3, none⟩ = some x3 := by
  refine ⟨?_, ?_, ?_, ?_⟩ <;> (rw [Lib.cell_of_heap h]; rfl)
theorem cells6 {w : World} {g : Nat} {x0 x1 x2 x3 x4 x5 : Value} {t : TypeId} (h : w.heap[g]? = some (.cells #[x0, x1, x2, x3, x4, x5] t (0, 0))) : w.cell? ⟨g, 0, none⟩ = some x0 ∧ w.cell? ⟨g, 1, none⟩ = some x1 ∧ w.cell? ⟨g, 2, none⟩ = some x2 ∧ w.cell? ⟨g, 3, none⟩ = some x3 ∧ w.cell? ⟨g, 4, none⟩ = some x4 ∧ w.cell? ⟨g, 5, none⟩ = some x5 := by
  refine ⟨?_, ?_, ?_, ?_, ?_, ?_⟩ <;> (rw [Lib.cell_of_heap h]; rfl)
theorem free6 {w : World} {g : Nat} {cs : Array Value} {t : TypeId} (h : w.heap[g]? = some (.cells cs t (0, 0))) : w.frozen? ⟨g, 0, none⟩ = false ∧ w.frozen? ⟨g, 1, none⟩ = false ∧ w.frozen? ⟨g, 2, none⟩ = false ∧ w.frozen? ⟨g, 3, none⟩ = false ∧ w.frozen? ⟨g, 4, none⟩ = false ∧ w.frozen? ⟨g, 5, none⟩ = false :=
  ⟨Lib.frozen_of_heap h 0, Lib.frozen_of_heap h 1, Lib.frozen_of_heap h 2, Lib.frozen_of_heap h 3, Lib.frozen_of_heap h 4, Lib.frozen_of_heap h 5⟩

set_option maxHeartbeats 2000000 in
set_option maxRecDepth 100000 in
theorem decl_any (n b s l p : Int) (hn : 0 ≤ n ∧ n < 256) (hb : 0 ≤ b ∧ b < 256) (hs : 0 ≤ s ∧ s < 256) (hl : 0 ≤ l ∧ l < 256) (w : World) :
    Calls Tryd.prog 5 #[.agg #[.int .u8 n, .int .u8 b, .int .u8 s, .int .u8 l], .int .i64 p] w fun e w' => e = .returned (dval (declP n b s l p)) ∧ Below w.heap.size w w' := by
  obtain ⟨c, hc, hcI⟩ : ∃ c : Nat, c < 6 ∧ n % 6 = (c : Int) := ⟨(n % 6).toNat, by omega, by omega⟩
  obtain ⟨d, hd, hdI⟩ : ∃ d : Nat, d < 6 ∧ b / 3 % 6 = (d : Int) := ⟨(b / 3 % 6).toNat, by omega, by omega⟩
  have hcI6 : (c : Int) < 6 := by omega
  have hdI6 : (d : Int) < 6 := by omega
  obtain ⟨W, hW⟩ : ∃ W, W = declW w n b s l := ⟨_, rfl⟩
  have ga : W.heap[w.heap.size]? = some (fourU n b s l) := hW ▸ declW_a w n b s l
  have gb : W.heap[w.heap.size + 1]? = some zeroD := hW ▸ declW_b w n b s l
  have gc : W.heap[w.heap.size + 1 + 1]? = some sixObj := hW ▸ declW_c w n b s l
  have gz : W.heap.size = w.heap.size + 1 + 1 + 1 := hW ▸ declW_size w n b s l
  have gw : Below w.heap.size w W := hW ▸ declW_below w n b s l
  obtain ⟨p0, p1, p2, p3⟩ := cells4 ga
  obtain ⟨q0, q1, q2, q3, q4, q5⟩ := cells6 gb
  obtain ⟨f0, f1, f2, f3, f4, f5⟩ := free6 gb
  have r1 := six_cell gc hc
  have r2 := six_cell gc hd
  have hlt3 : w.heap.size < W.heap.size := heap_lt ga
  have hlt5 : w.heap.size + 1 + 1 < W.heap.size := heap_lt gc
  obtain ⟨pa0, pa1, pa2, pa3⟩ := cells4 ((Lib.alloc_old W zeroD _ hlt3).trans ga)
  have ra1 := six_cell ((Lib.alloc_old W zeroD _ hlt5).trans gc) hc
  have hlt4 : w.heap.size + 1 < W.heap.size := heap_lt gb
  have HX : ∀ X : Obj, Below W.heap.size W (W.alloc X).drew := fun X => ((Below.refl _ _).alloc (Nat.le_refl _) _).drew
  have HX2 : ∀ X : Obj, (W.alloc X).drew.heap[W.heap.size]? = some X := fun X => by show (W.alloc X).heap[W.heap.size]? = _; rw [alloc_at, if_pos rfl]
  have HA := Lib.hid ga
  have HC := Lib.hid gc
  have HB := Lib.hid gb
  have HW := Lib.hid gw
  have HZ := Lib.hid gz
  have hW' := hW.symm
  simp only [declW, fourU, zeroD, sixObj] at hW'
  clear ga gb gc gw gz hW
  by_cases h5 : s % 5 = 4
  · go_enter Tryd.func5, Tryd.ntmps5
    go_wp2_with fail
    clear hW'
    go_region
    obtain ⟨W4, hW4⟩ : ∃ W4, W4 = (W.alloc (.cells #[.bool false, .int .i64 (l % 2), .string (nmN c), .int .i64 (s % 4), .string ⟨#[]⟩, .int .i64 p] 29)).drew := ⟨_, rfl⟩
    have k0 : Below W.heap.size W W4 := hW4 ▸ HX _
    have k1 := (hW4 ▸ HX2 _ : W4.heap[W.heap.size]? = some (.cells #[.bool false, .int .i64 (l % 2), .string (nmN c), .int .i64 (s % 4), .string ⟨#[]⟩, .int .i64 p] 29))
    rw [← hW4]
    clear hW4
    have ka := (k0.block _ hlt3).trans HA.out
    have kb := (k0.block _ hlt4).trans HB.out
    have kc := (k0.block _ hlt5).trans HC.out
    obtain ⟨g, hg⟩ : ∃ g, g = W.heap.size := ⟨_, rfl⟩
    rw [← hg] at k1 hlt3 hlt4 hlt5 ⊢
    have hne1 : w.heap.size + 1 ≠ g := by omega
    have hgle : w.heap.size ≤ g := by omega
    have HG := Lib.hid hg
    clear hg
    have hne2 : g ≠ w.heap.size + 1 := by omega
    clear p0 p1 p2 p3 q0 q1 q2 q3 q4 q5 f0 f1 f2 f3 f4 f5 r1 r2 pa0 pa1 pa2 pa3 ra1
    obtain ⟨p0, p1, p2, p3⟩ := cells4 ka
    obtain ⟨q0, q1, q2, q3, q4, q5⟩ := cells6 kb
    obtain ⟨f0, f1, f2, f3, f4, f5⟩ := free6 kb
    obtain ⟨x0, x1, x2, x3, x4, x5⟩ := cells6 k1
    obtain ⟨y0, y1, y2, y3, y4, y5⟩ := free6 k1
    have r2 := six_cell kc hd
    have K0 := Lib.hid k0
    have K1 := Lib.hid k1
    have KB := Lib.hid kb
    clear k0 k1 ka kb kc
    go_wp2
    refine bodyPost_ret (v := .agg #[.bool true, .int .i64 0, .string (nmN c), .int .i64 0, .string ⟨#[]⟩, .int .i64 p]) (by simp [results, Tryd.results5, go_sem, q0, q1, q2, q3, q4, q5, x0, x1, x2, x3, x4, x5]) rfl ⟨?_, ?_⟩
    · rw [declP_lock h5 hcI]
    · have hbase : Below w.heap.size w W4 := HW.out.trans (K0.out.mono (by have := HG.out; omega))
      exact put_below hbase (by omega) _ _ _ _ _ _
  · have hd5 : decide (s % 5 = 4) = false := by simpa using h5
    by_cases h3 : b % 3 = 0
    · go_enter Tryd.func5, Tryd.ntmps5
      go_wp2_with fail
      clear hW'
      go_region
      obtain ⟨W4, hW4⟩ : ∃ W4, W4 = (W.alloc (.cells #[.bool false, .int .i64 (l % 2), .string (nmN c), .int .i64 (s % 4), .string ⟨#[]⟩, .int .i64 p] 29)).drew := ⟨_, rfl⟩
      have k0 : Below W.heap.size W W4 := hW4 ▸ HX _
      have k1 := (hW4 ▸ HX2 _ : W4.heap[W.heap.size]? = some (.cells #[.bool false, .int .i64 (l % 2), .string (nmN c), .int .i64 (s % 4), .string ⟨#[]⟩, .int .i64 p] 29))
      rw [← hW4]
      clear hW4
      have ka := (k0.block _ hlt3).trans HA.out
      have kb := (k0.block _ hlt4).trans HB.out
      have kc := (k0.block _ hlt5).trans HC.out
      obtain ⟨g, hg⟩ : ∃ g, g = W.heap.size := ⟨_, rfl⟩
      rw [← hg] at k1 hlt3 hlt4 hlt5 ⊢
      have hne1 : w.heap.size + 1 ≠ g := by omega
      have hgle : w.heap.size ≤ g := by omega
      have HG := Lib.hid hg
      clear hg
      have hne2 : g ≠ w.heap.size + 1 := by omega
      clear p0 p1 p2 p3 q0 q1 q2 q3 q4 q5 f0 f1 f2 f3 f4 f5 r1 r2 pa0 pa1 pa2 pa3 ra1
      obtain ⟨p0, p1, p2, p3⟩ := cells4 ka
      obtain ⟨q0, q1, q2, q3, q4, q5⟩ := cells6 kb
      obtain ⟨f0, f1, f2, f3, f4, f5⟩ := free6 kb
      obtain ⟨x0, x1, x2, x3, x4, x5⟩ := cells6 k1
      obtain ⟨y0, y1, y2, y3, y4, y5⟩ := free6 k1
      have r2 := six_cell kc hd
      have K0 := Lib.hid k0
      have K1 := Lib.hid k1
      have KB := Lib.hid kb
      clear k0 k1 ka kb kc
      go_wp2
      refine bodyPost_ret (v := .agg #[.bool false, .int .i64 (l % 2), .string (nmN c), .int .i64 (s % 4), .string (nmN d), .int .i64 p]) (by simp [results, Tryd.results5, go_sem, q0, q1, q2, q3, q4, q5, x0, x1, x2, x3, x4, x5]) rfl ⟨?_, ?_⟩
      · rw [declP_by h5 h3 hcI hdI]
      · have hbase : Below w.heap.size w W4 := HW.out.trans (K0.out.mono (by have := HG.out; omega))
        exact put_below (hbase.setCell hgle _) (by omega) _ _ _ _ _ _
    · have hd3 : decide (b % 3 = 0) = false := by simpa using h3
      go_enter Tryd.func5, Tryd.ntmps5
      go_wp2_with fail
      clear hW'
      go_region
      obtain ⟨W4, hW4⟩ : ∃ W4, W4 = (W.alloc (.cells #[.bool false, .int .i64 (l % 2), .string (nmN c), .int .i64 (s % 4), .string ⟨#[]⟩, .int .i64 p] 29)).drew := ⟨_, rfl⟩
      have k0 : Below W.heap.size W W4 := hW4 ▸ HX _
      have k1 := (hW4 ▸ HX2 _ : W4.heap[W.heap.size]? = some (.cells #[.bool false, .int .i64 (l % 2), .string (nmN c), .int .i64 (s % 4), .string ⟨#[]⟩, .int .i64 p] 29))
      rw [← hW4]
      clear hW4
      have ka := (k0.block _ hlt3).trans HA.out
      have kb := (k0.block _ hlt4).trans HB.out
      have kc := (k0.block _ hlt5).trans HC.out
      obtain ⟨g, hg⟩ : ∃ g, g = W.heap.size := ⟨_, rfl⟩
      rw [← hg] at k1 hlt3 hlt4 hlt5 ⊢
      have hne1 : w.heap.size + 1 ≠ g := by omega
      have hgle : w.heap.size ≤ g := by omega
      have HG := Lib.hid hg
      clear hg
      have hne2 : g ≠ w.heap.size + 1 := by omega
      clear p0 p1 p2 p3 q0 q1 q2 q3 q4 q5 f0 f1 f2 f3 f4 f5 r1 r2 pa0 pa1 pa2 pa3 ra1
      obtain ⟨p0, p1, p2, p3⟩ := cells4 ka
      obtain ⟨q0, q1, q2, q3, q4, q5⟩ := cells6 kb
      obtain ⟨f0, f1, f2, f3, f4, f5⟩ := free6 kb
      obtain ⟨x0, x1, x2, x3, x4, x5⟩ := cells6 k1
      obtain ⟨y0, y1, y2, y3, y4, y5⟩ := free6 k1
      have r2 := six_cell kc hd
      have K0 := Lib.hid k0
      have K1 := Lib.hid k1
      have KB := Lib.hid kb
      clear k0 k1 ka kb kc
      go_wp2
      refine bodyPost_ret (v := .agg #[.bool false, .int .i64 (l % 2), .string (nmN c), .int .i64 (s % 4), .string ⟨#[]⟩, .int .i64 p]) (by simp [results, Tryd.results5, go_sem, q0, q1, q2, q3, q4, q5, x0, x1, x2, x3, x4, x5]) rfl ⟨?_, ?_⟩
      · rw [declP_none h5 h3 hcI]
      · have hbase : Below w.heap.size w W4 := HW.out.trans (K0.out.mono (by have := HG.out; omega))
        exact put_below hbase (by omega) _ _ _ _ _ _
end Go.Proofs.YtnpennclgenppaaDoor
