/- What page.decl writes, when it is called. Conditions: as in TreePart. -/
import Derived.Test.YtfginegegaokbaaGreatDoorTextStmt
namespace Go.Proofs.YtfginegegaokbaaGreatDoor
open Go.ChangeShapes Go.WideShapes Go.ChangeAt Go.RowKit
set_option linter.unusedVariables false
set_option linter.unusedSimpArgs false

/-- A declaration's value. -/
def dagg (d : Dcl) : Value := .agg #[.bool d.lock, .int .i64 d.label, .string d.name, .int .i64 d.size, .string d.by_, .int .i64 d.at_]
def dfit (d : Dcl) : Prop := -9223372036854775808 ≤ d.size ∧ d.size ≤ 9223372036854775807 ∧ d.name.size ≤ 35184372088832 ∧ d.by_.size ≤ 35184372088832
theorem decl_cells {w : World} {k : Nat} {x0 x1 x2 x3 x4 x5 : Value} (h : w.heap[k]? = some (.cells #[x0, x1, x2, x3, x4, x5] 68 (0, 0))) :
    w.cell? ⟨k, 0, none⟩ = some x0 ∧ w.cell? ⟨k, 1, none⟩ = some x1 ∧ w.cell? ⟨k, 2, none⟩ = some x2 ∧ w.cell? ⟨k, 3, none⟩ = some x3 ∧ w.cell? ⟨k, 4, none⟩ = some x4 ∧ w.cell? ⟨k, 5, none⟩ = some x5 := by
  refine ⟨?_, ?_, ?_, ?_, ?_, ?_⟩ <;> (rw [Lib.cell_of_heap h]; rfl)
theorem str_nil (s : ByteArray) (h : s.size ≠ 0) : (s.toList == []) = false := by
  rw [ByteArray.toList_eq, beq_eq_false_iff_ne]
  intro e
  have := bys_length s
  rw [bys, e] at this
  simp at this
  omega
theorem size_zero {s : ByteArray} (h : s.size = 0) : s = ⟨#[]⟩ := by
  have h1 := bys_length s
  rw [h] at h1
  exact bys_inj (List.length_eq_zero_iff.1 h1)
set_option maxHeartbeats 4000000 in
set_option maxRecDepth 100000 in
theorem decl_lock (B b : Nat) (l : List UInt8) (d : Dcl) (w : World) (hP : PageAt B b l 0 w) (hf : dfit d) (hV : Vars B w) (hlen : l.length + (dtext d).length ≤ 70368744177664) (hl : d.lock = true) :
    Calls Tryz.prog 27 #[.pointer (some ⟨b, 0, none⟩), dagg d] w (Wrote B b l 0 w (dtext d)) := by
  unfold dagg
  rw [hl]
  have ht : dtext d = lineT 0 (sLock ++ bys d.name ++ [59]) := by unfold dtext; rw [if_pos hl]
  rw [ht] at hlen ⊢
  obtain ⟨_, _, hn, _⟩ := hf
  obtain ⟨X, hX⟩ : ∃ X : ByteArray, ⟨#[108, 111, 99, 107, 32]⟩ ++ d.name ++ ⟨#[59]⟩ = X := ⟨_, rfl⟩
  have HX : Hid (bys X = sLock ++ bys d.name ++ [59]) := by show _ = _; rw [← hX]; simp only [bys_cat]; rfl
  clear hl ht
  have hBw := hP.base
  have hlt := hP.lt
  have HB : Hid (w.heap.size ≠ b) := by show _ ≠ _; omega
  have hA : Stay B b w (w.alloc (.cells #[.bool true, .int .i64 d.label, .string d.name, .int .i64 d.size, .string d.by_, .int .i64 d.at_] 68)) := (Stay.refl _ _ _).alloc hBw _
  have HBox := Lib.hid (show (w.alloc (.cells #[.bool true, .int .i64 d.label, .string d.name, .int .i64 d.size, .string d.by_, .int .i64 d.at_] 68)).heap[w.heap.size]? = some (.cells #[.bool true, .int .i64 d.label, .string d.name, .int .i64 d.size, .string d.by_, .int .i64 d.at_] 68 (0, 0)) from heap_alloc_new w _)
  have hPA := hP.alloc (.cells #[.bool true, .int .i64 d.label, .string d.name, .int .i64 d.size, .string d.by_, .int .i64 d.at_] 68)
  go_enter Tryz.func27, Tryz.ntmps27
  go_wp2_with (go_at_call 28; refine (line_at B b l 0 X _ HX.out _ hPA (by omega) hlen).mono ?_; rintro e w1 ⟨rfl, hP1, hb1⟩)
  go_end0
  exact ⟨rfl, hP1, hA.trans hb1⟩

set_option maxHeartbeats 4000000 in
set_option maxRecDepth 100000 in
theorem decl_000 (B b : Nat) (l : List UInt8) (d : Dcl) (w : World) (hP : PageAt B b l 0 w) (hf : dfit d) (hV : Vars B w) (hlen : l.length + (dtext d).length ≤ 70368744177664) (hl : d.lock = false) (h0 : d.label = 0) (h1 : ¬ 0 < d.size) (h2 : d.by_.size = 0) :
    Calls Tryz.prog 27 #[.pointer (some ⟨b, 0, none⟩), dagg d] w (Wrote B b l 0 w (dtext d)) := by
  have hbe : dagg d = .agg #[.bool false, .int .i64 0, .string d.name, .int .i64 d.size, .string ⟨#[]⟩, .int .i64 d.at_] := by unfold dagg; rw [hl, h0, size_zero h2]
  rw [hbe]
  have HT : Hid (l ++ dtext d = l ++ bys ⟨#[112, 117, 98, 108, 105, 99, 32]⟩ ++ bys d.name ++ [] ++ [] ++ bys ⟨#[59, 10]⟩) := by show _ = _; unfold dtext; rw [hl, if_neg (by simp), if_pos h0, if_neg h1, if_pos h2]; simp [bys, sPublic, sSecret, sBy]
  have hl2 : (l ++ dtext d).length ≤ 70368744177664 := by rw [List.length_append]; exact hlen
  rw [HT.out] at hl2
  have e1 : (ByteArray.mk #[112, 117, 98, 108, 105, 99, 32]).size = 7 := rfl
  have e2 : (ByteArray.mk #[59, 10]).size = 2 := rfl
  simp only [List.length_append, List.length_cons, List.length_nil, bys_length, e1, e2] at hl2
  obtain ⟨hs1, hs2, hn, hby⟩ := hf
  clear hbe hl hlen h2 h0
  have hBw := hP.base
  have hlt := hP.lt
  have HB : Hid (w.heap.size ≠ b) := by show _ ≠ _; omega
  have hA : Stay B b w (w.alloc (.cells #[.bool false, .int .i64 0, .string d.name, .int .i64 d.size, .string ⟨#[]⟩, .int .i64 d.at_] 68)) := (Stay.refl _ _ _).alloc hBw _
  have HBox := Lib.hid (show (w.alloc (.cells #[.bool false, .int .i64 0, .string d.name, .int .i64 d.size, .string ⟨#[]⟩, .int .i64 d.at_] 68)).heap[w.heap.size]? = some (.cells #[.bool false, .int .i64 0, .string d.name, .int .i64 d.size, .string ⟨#[]⟩, .int .i64 d.at_] 68 (0, 0)) from heap_alloc_new w _)
  have hPA := hP.alloc (.cells #[.bool false, .int .i64 0, .string d.name, .int .i64 d.size, .string ⟨#[]⟩, .int .i64 d.at_] 68)
  go_enter Tryz.func27, Tryz.ntmps27
  go_wp2_with (go_at_call 48; refine (writeString_any B b l 0 ⟨#[112, 117, 98, 108, 105, 99, 32]⟩ _ hPA (by rw [e1]; omega)).mono ?_; rintro e w1 ⟨rfl, hP1, hb1⟩; have hbx1 := hb1.2 _ _ _ _ HB.out (by decide) HBox.out; obtain ⟨a0, a1, a2, a3, a4, a5⟩ := decl_cells hbx1)
  go_region_with (go_at_call 48; refine (writeString_any B b _ 0 d.name _ hP1.page.drew (by simp only [List.length_append, bys_length, e1]; omega)).mono ?_; rintro e w2 ⟨rfl, hP2, hb2⟩; have hb12 := hb1.drew.trans hb2; clear a0 a1 a2 a3 a4 a5; have hbx2 := hb12.2 _ _ _ _ HB.out (by decide) HBox.out; obtain ⟨a0, a1, a2, a3, a4, a5⟩ := decl_cells hbx2)
  all_goals (go_wp2_with fail)
  all_goals (go_wp2_with (go_at_call 48; refine (writeString_any B b _ 0 ⟨#[59, 10]⟩ _ hP2.page (by simp only [List.length_append, bys_length, e1, e2]; omega)).mono ?_; rintro e w6 ⟨rfl, hP6, hb6⟩))
  all_goals go_end0
  all_goals exact ⟨rfl, by rw [HT.out]; simpa using hP6.page, (hA.trans hb12).trans hb6⟩

set_option maxHeartbeats 4000000 in
set_option maxRecDepth 100000 in
theorem decl_001 (B b : Nat) (l : List UInt8) (d : Dcl) (w : World) (hP : PageAt B b l 0 w) (hf : dfit d) (hV : Vars B w) (hlen : l.length + (dtext d).length ≤ 70368744177664) (hl : d.lock = false) (h0 : d.label = 0) (h1 : ¬ 0 < d.size) (h2 : d.by_.size ≠ 0) :
    Calls Tryz.prog 27 #[.pointer (some ⟨b, 0, none⟩), dagg d] w (Wrote B b l 0 w (dtext d)) := by
  have hbe : dagg d = .agg #[.bool false, .int .i64 0, .string d.name, .int .i64 d.size, .string d.by_, .int .i64 d.at_] := by unfold dagg; rw [hl, h0]
  rw [hbe]
  have HT : Hid (l ++ dtext d = l ++ bys ⟨#[112, 117, 98, 108, 105, 99, 32]⟩ ++ bys d.name ++ [] ++ (sBy ++ bys d.by_) ++ bys ⟨#[59, 10]⟩) := by show _ = _; unfold dtext; rw [hl, if_neg (by simp), if_pos h0, if_neg h1, if_neg h2]; simp [bys, sPublic, sSecret, sBy]
  have hl2 : (l ++ dtext d).length ≤ 70368744177664 := by rw [List.length_append]; exact hlen
  rw [HT.out] at hl2
  have e1 : (ByteArray.mk #[112, 117, 98, 108, 105, 99, 32]).size = 7 := rfl
  have e2 : (ByteArray.mk #[59, 10]).size = 2 := rfl
  simp only [List.length_append, List.length_cons, List.length_nil, bys_length, e1, e2] at hl2
  obtain ⟨hs1, hs2, hn, hby⟩ := hf
  have hbn := str_nil d.by_ h2
  obtain ⟨Y, hY⟩ : ∃ Y : ByteArray, ⟨#[32, 98, 121, 32]⟩ ++ d.by_ = Y := ⟨_, rfl⟩
  have HY : Hid (bys Y = sBy ++ bys d.by_) := by show _ = _; rw [← hY]; simp only [bys_cat]; rfl
  have hYs : Y.size = 4 + d.by_.size := by rw [← bys_length, HY.out]; simp [sBy, bys_length]; omega
  have e3 : sBy.length = 4 := rfl
  rw [e3] at hl2
  clear hbe hl hlen h2 h0
  have hBw := hP.base
  have hlt := hP.lt
  have HB : Hid (w.heap.size ≠ b) := by show _ ≠ _; omega
  have hA : Stay B b w (w.alloc (.cells #[.bool false, .int .i64 0, .string d.name, .int .i64 d.size, .string d.by_, .int .i64 d.at_] 68)) := (Stay.refl _ _ _).alloc hBw _
  have HBox := Lib.hid (show (w.alloc (.cells #[.bool false, .int .i64 0, .string d.name, .int .i64 d.size, .string d.by_, .int .i64 d.at_] 68)).heap[w.heap.size]? = some (.cells #[.bool false, .int .i64 0, .string d.name, .int .i64 d.size, .string d.by_, .int .i64 d.at_] 68 (0, 0)) from heap_alloc_new w _)
  have hPA := hP.alloc (.cells #[.bool false, .int .i64 0, .string d.name, .int .i64 d.size, .string d.by_, .int .i64 d.at_] 68)
  go_enter Tryz.func27, Tryz.ntmps27
  go_wp2_with (go_at_call 48; refine (writeString_any B b l 0 ⟨#[112, 117, 98, 108, 105, 99, 32]⟩ _ hPA (by rw [e1]; omega)).mono ?_; rintro e w1 ⟨rfl, hP1, hb1⟩; have hbx1 := hb1.2 _ _ _ _ HB.out (by decide) HBox.out; obtain ⟨a0, a1, a2, a3, a4, a5⟩ := decl_cells hbx1)
  go_region_with (go_at_call 48; refine (writeString_any B b _ 0 d.name _ hP1.page.drew (by simp only [List.length_append, bys_length, e1]; omega)).mono ?_; rintro e w2 ⟨rfl, hP2, hb2⟩; have hb12 := hb1.drew.trans hb2; clear a0 a1 a2 a3 a4 a5; have hbx2 := hb12.2 _ _ _ _ HB.out (by decide) HBox.out; obtain ⟨a0, a1, a2, a3, a4, a5⟩ := decl_cells hbx2)
  all_goals (go_wp2_with fail)
  all_goals (go_region_with (go_at_call 48; refine (writeString_any B b _ 0 Y _ hP2.page.drew (by simp only [List.length_append, bys_length, e1, e2]; omega)).mono ?_; rintro e w5 ⟨rfl, hP5, hb5⟩; have hb15 := hb12.drew.trans hb5))
  all_goals (go_wp2_with fail)
  all_goals (go_wp2_with (go_at_call 48; refine (writeString_any B b _ 0 ⟨#[59, 10]⟩ _ hP5.page (by simp only [List.length_append, bys_length, e1, e2]; omega)).mono ?_; rintro e w6 ⟨rfl, hP6, hb6⟩))
  all_goals go_end0
  all_goals exact ⟨rfl, by rw [HT.out, ← HY.out]; simpa using hP6.page, (hA.trans hb15).trans hb6⟩

set_option maxHeartbeats 4000000 in
set_option maxRecDepth 100000 in
theorem decl_010 (B b : Nat) (l : List UInt8) (d : Dcl) (w : World) (hP : PageAt B b l 0 w) (hf : dfit d) (hV : Vars B w) (hlen : l.length + (dtext d).length ≤ 70368744177664) (hl : d.lock = false) (h0 : d.label = 0) (h1 : 0 < d.size) (h2 : d.by_.size = 0) :
    Calls Tryz.prog 27 #[.pointer (some ⟨b, 0, none⟩), dagg d] w (Wrote B b l 0 w (dtext d)) := by
  have hbe : dagg d = .agg #[.bool false, .int .i64 0, .string d.name, .int .i64 d.size, .string ⟨#[]⟩, .int .i64 d.at_] := by unfold dagg; rw [hl, h0, size_zero h2]
  rw [hbe]
  have HT : Hid (l ++ dtext d = l ++ bys ⟨#[112, 117, 98, 108, 105, 99, 32]⟩ ++ bys d.name ++ ([91] ++ Lib.itoa d.size ++ [93]) ++ [] ++ bys ⟨#[59, 10]⟩) := by show _ = _; unfold dtext; rw [hl, if_neg (by simp), if_pos h0, if_pos h1, if_pos h2]; simp [bys, sPublic, sSecret, sBy]
  have hl2 : (l ++ dtext d).length ≤ 70368744177664 := by rw [List.length_append]; exact hlen
  rw [HT.out] at hl2
  have e1 : (ByteArray.mk #[112, 117, 98, 108, 105, 99, 32]).size = 7 := rfl
  have e2 : (ByteArray.mk #[59, 10]).size = 2 := rfl
  simp only [List.length_append, List.length_cons, List.length_nil, bys_length, e1, e2] at hl2
  obtain ⟨hs1, hs2, hn, hby⟩ := hf
  obtain ⟨I, hI⟩ : ∃ I, bstr (Lib.itoa d.size) = I := ⟨_, rfl⟩
  have hszI : I.size ≤ 21 := by rw [← hI, bstr_size]; exact Lib.itoa_length_le d.size hs1 hs2
  obtain ⟨X, hX⟩ : ∃ X : ByteArray, ⟨#[91]⟩ ++ I ++ ⟨#[93]⟩ = X := ⟨_, rfl⟩
  have HX : Hid (bys X = [91] ++ Lib.itoa d.size ++ [93]) := by show _ = _; rw [← hX, ← hI]; simp only [bys_cat]; rfl
  have hXs : X.size = (Lib.itoa d.size).length + 2 := by rw [← bys_length, HX.out]; simp
  have Hit := fun w' (h : Vars B w') => itoa_any d.size hs1 hs2 B w' h
  rw [hI] at Hit
  clear hI
  clear hbe hl hlen h2 h0
  have hBw := hP.base
  have hlt := hP.lt
  have HB : Hid (w.heap.size ≠ b) := by show _ ≠ _; omega
  have hA : Stay B b w (w.alloc (.cells #[.bool false, .int .i64 0, .string d.name, .int .i64 d.size, .string ⟨#[]⟩, .int .i64 d.at_] 68)) := (Stay.refl _ _ _).alloc hBw _
  have HBox := Lib.hid (show (w.alloc (.cells #[.bool false, .int .i64 0, .string d.name, .int .i64 d.size, .string ⟨#[]⟩, .int .i64 d.at_] 68)).heap[w.heap.size]? = some (.cells #[.bool false, .int .i64 0, .string d.name, .int .i64 d.size, .string ⟨#[]⟩, .int .i64 d.at_] 68 (0, 0)) from heap_alloc_new w _)
  have hPA := hP.alloc (.cells #[.bool false, .int .i64 0, .string d.name, .int .i64 d.size, .string ⟨#[]⟩, .int .i64 d.at_] 68)
  go_enter Tryz.func27, Tryz.ntmps27
  go_wp2_with (go_at_call 48; refine (writeString_any B b l 0 ⟨#[112, 117, 98, 108, 105, 99, 32]⟩ _ hPA (by rw [e1]; omega)).mono ?_; rintro e w1 ⟨rfl, hP1, hb1⟩; have hbx1 := hb1.2 _ _ _ _ HB.out (by decide) HBox.out; obtain ⟨a0, a1, a2, a3, a4, a5⟩ := decl_cells hbx1)
  go_region_with (go_at_call 48; refine (writeString_any B b _ 0 d.name _ hP1.page.drew (by simp only [List.length_append, bys_length, e1]; omega)).mono ?_; rintro e w2 ⟨rfl, hP2, hb2⟩; have hb12 := hb1.drew.trans hb2; clear a0 a1 a2 a3 a4 a5; have hbx2 := hb12.2 _ _ _ _ HB.out (by decide) HBox.out; obtain ⟨a0, a1, a2, a3, a4, a5⟩ := decl_cells hbx2)
  all_goals (go_wp2_with fail)
  all_goals (go_region_with (first
    | (go_at_call 49; refine (Hit _ ((hV.on hA.1).on hb12.drew.1)).mono ?_; rintro e w3 ⟨rfl, hb3⟩; have hP3 := hP2.page.drew.below hb3; have hbx3 := (hb3.block _ (heap_lt hbx2)).trans hbx2; clear a0 a1 a2 a3 a4 a5; obtain ⟨a0, a1, a2, a3, a4, a5⟩ := decl_cells hbx3)
    | (go_at_call 48; refine (writeString_any B b _ 0 X _ hP3 (by simp only [List.length_append, bys_length, e1, e2]; omega)).mono ?_; rintro e w4 ⟨rfl, hP4, hb4⟩; have hb14 := (hb12.trans (Stay.of_drew hb3 (by have := hb12.1.size; have := hA.1.size; omega))).trans hb4; clear a0 a1 a2 a3 a4 a5; have hbx4 := hb14.2 _ _ _ _ HB.out (by decide) HBox.out; obtain ⟨a0, a1, a2, a3, a4, a5⟩ := decl_cells hbx4)))
  all_goals (go_wp2_with fail)
  all_goals (go_wp2_with (go_at_call 48; refine (writeString_any B b _ 0 ⟨#[59, 10]⟩ _ hP4.page (by simp only [List.length_append, bys_length, e1, e2]; omega)).mono ?_; rintro e w6 ⟨rfl, hP6, hb6⟩))
  all_goals go_end0
  all_goals exact ⟨rfl, by rw [HT.out, ← HX.out]; simpa using hP6.page, (hA.trans hb14).trans hb6⟩

set_option maxHeartbeats 4000000 in
set_option maxRecDepth 100000 in
theorem decl_011 (B b : Nat) (l : List UInt8) (d : Dcl) (w : World) (hP : PageAt B b l 0 w) (hf : dfit d) (hV : Vars B w) (hlen : l.length + (dtext d).length ≤ 70368744177664) (hl : d.lock = false) (h0 : d.label = 0) (h1 : 0 < d.size) (h2 : d.by_.size ≠ 0) :
    Calls Tryz.prog 27 #[.pointer (some ⟨b, 0, none⟩), dagg d] w (Wrote B b l 0 w (dtext d)) := by
  have hbe : dagg d = .agg #[.bool false, .int .i64 0, .string d.name, .int .i64 d.size, .string d.by_, .int .i64 d.at_] := by unfold dagg; rw [hl, h0]
  rw [hbe]
  have HT : Hid (l ++ dtext d = l ++ bys ⟨#[112, 117, 98, 108, 105, 99, 32]⟩ ++ bys d.name ++ ([91] ++ Lib.itoa d.size ++ [93]) ++ (sBy ++ bys d.by_) ++ bys ⟨#[59, 10]⟩) := by show _ = _; unfold dtext; rw [hl, if_neg (by simp), if_pos h0, if_pos h1, if_neg h2]; simp [bys, sPublic, sSecret, sBy]
  have hl2 : (l ++ dtext d).length ≤ 70368744177664 := by rw [List.length_append]; exact hlen
  rw [HT.out] at hl2
  have e1 : (ByteArray.mk #[112, 117, 98, 108, 105, 99, 32]).size = 7 := rfl
  have e2 : (ByteArray.mk #[59, 10]).size = 2 := rfl
  simp only [List.length_append, List.length_cons, List.length_nil, bys_length, e1, e2] at hl2
  obtain ⟨hs1, hs2, hn, hby⟩ := hf
  have hbn := str_nil d.by_ h2
  obtain ⟨I, hI⟩ : ∃ I, bstr (Lib.itoa d.size) = I := ⟨_, rfl⟩
  have hszI : I.size ≤ 21 := by rw [← hI, bstr_size]; exact Lib.itoa_length_le d.size hs1 hs2
  obtain ⟨X, hX⟩ : ∃ X : ByteArray, ⟨#[91]⟩ ++ I ++ ⟨#[93]⟩ = X := ⟨_, rfl⟩
  have HX : Hid (bys X = [91] ++ Lib.itoa d.size ++ [93]) := by show _ = _; rw [← hX, ← hI]; simp only [bys_cat]; rfl
  have hXs : X.size = (Lib.itoa d.size).length + 2 := by rw [← bys_length, HX.out]; simp
  have Hit := fun w' (h : Vars B w') => itoa_any d.size hs1 hs2 B w' h
  rw [hI] at Hit
  clear hI
  obtain ⟨Y, hY⟩ : ∃ Y : ByteArray, ⟨#[32, 98, 121, 32]⟩ ++ d.by_ = Y := ⟨_, rfl⟩
  have HY : Hid (bys Y = sBy ++ bys d.by_) := by show _ = _; rw [← hY]; simp only [bys_cat]; rfl
  have hYs : Y.size = 4 + d.by_.size := by rw [← bys_length, HY.out]; simp [sBy, bys_length]; omega
  have e3 : sBy.length = 4 := rfl
  rw [e3] at hl2
  clear hbe hl hlen h2 h0
  have hBw := hP.base
  have hlt := hP.lt
  have HB : Hid (w.heap.size ≠ b) := by show _ ≠ _; omega
  have hA : Stay B b w (w.alloc (.cells #[.bool false, .int .i64 0, .string d.name, .int .i64 d.size, .string d.by_, .int .i64 d.at_] 68)) := (Stay.refl _ _ _).alloc hBw _
  have HBox := Lib.hid (show (w.alloc (.cells #[.bool false, .int .i64 0, .string d.name, .int .i64 d.size, .string d.by_, .int .i64 d.at_] 68)).heap[w.heap.size]? = some (.cells #[.bool false, .int .i64 0, .string d.name, .int .i64 d.size, .string d.by_, .int .i64 d.at_] 68 (0, 0)) from heap_alloc_new w _)
  have hPA := hP.alloc (.cells #[.bool false, .int .i64 0, .string d.name, .int .i64 d.size, .string d.by_, .int .i64 d.at_] 68)
  go_enter Tryz.func27, Tryz.ntmps27
  go_wp2_with (go_at_call 48; refine (writeString_any B b l 0 ⟨#[112, 117, 98, 108, 105, 99, 32]⟩ _ hPA (by rw [e1]; omega)).mono ?_; rintro e w1 ⟨rfl, hP1, hb1⟩; have hbx1 := hb1.2 _ _ _ _ HB.out (by decide) HBox.out; obtain ⟨a0, a1, a2, a3, a4, a5⟩ := decl_cells hbx1)
  go_region_with (go_at_call 48; refine (writeString_any B b _ 0 d.name _ hP1.page.drew (by simp only [List.length_append, bys_length, e1]; omega)).mono ?_; rintro e w2 ⟨rfl, hP2, hb2⟩; have hb12 := hb1.drew.trans hb2; clear a0 a1 a2 a3 a4 a5; have hbx2 := hb12.2 _ _ _ _ HB.out (by decide) HBox.out; obtain ⟨a0, a1, a2, a3, a4, a5⟩ := decl_cells hbx2)
  all_goals (go_wp2_with fail)
  all_goals (go_region_with (first
    | (go_at_call 49; refine (Hit _ ((hV.on hA.1).on hb12.drew.1)).mono ?_; rintro e w3 ⟨rfl, hb3⟩; have hP3 := hP2.page.drew.below hb3; have hbx3 := (hb3.block _ (heap_lt hbx2)).trans hbx2; clear a0 a1 a2 a3 a4 a5; obtain ⟨a0, a1, a2, a3, a4, a5⟩ := decl_cells hbx3)
    | (go_at_call 48; refine (writeString_any B b _ 0 X _ hP3 (by simp only [List.length_append, bys_length, e1, e2]; omega)).mono ?_; rintro e w4 ⟨rfl, hP4, hb4⟩; have hb14 := (hb12.trans (Stay.of_drew hb3 (by have := hb12.1.size; have := hA.1.size; omega))).trans hb4; clear a0 a1 a2 a3 a4 a5; have hbx4 := hb14.2 _ _ _ _ HB.out (by decide) HBox.out; obtain ⟨a0, a1, a2, a3, a4, a5⟩ := decl_cells hbx4)))
  all_goals (go_wp2_with fail)
  all_goals (go_region_with (go_at_call 48; refine (writeString_any B b _ 0 Y _ hP4.page.drew (by simp only [List.length_append, bys_length, e1, e2]; omega)).mono ?_; rintro e w5 ⟨rfl, hP5, hb5⟩; have hb15 := hb14.drew.trans hb5))
  all_goals (go_wp2_with fail)
  all_goals (go_wp2_with (go_at_call 48; refine (writeString_any B b _ 0 ⟨#[59, 10]⟩ _ hP5.page (by simp only [List.length_append, bys_length, e1, e2]; omega)).mono ?_; rintro e w6 ⟨rfl, hP6, hb6⟩))
  all_goals go_end0
  all_goals exact ⟨rfl, by rw [HT.out, ← HX.out, ← HY.out]; simpa using hP6.page, (hA.trans hb15).trans hb6⟩

set_option maxHeartbeats 4000000 in
set_option maxRecDepth 100000 in
theorem decl_100 (B b : Nat) (l : List UInt8) (d : Dcl) (w : World) (hP : PageAt B b l 0 w) (hf : dfit d) (hV : Vars B w) (hlen : l.length + (dtext d).length ≤ 70368744177664) (hl : d.lock = false) (h0 : d.label ≠ 0) (h1 : ¬ 0 < d.size) (h2 : d.by_.size = 0) :
    Calls Tryz.prog 27 #[.pointer (some ⟨b, 0, none⟩), dagg d] w (Wrote B b l 0 w (dtext d)) := by
  have hbe : dagg d = .agg #[.bool false, .int .i64 d.label, .string d.name, .int .i64 d.size, .string ⟨#[]⟩, .int .i64 d.at_] := by unfold dagg; rw [hl, size_zero h2]
  rw [hbe]
  have HT : Hid (l ++ dtext d = l ++ bys ⟨#[115, 101, 99, 114, 101, 116, 32]⟩ ++ bys d.name ++ [] ++ [] ++ bys ⟨#[59, 10]⟩) := by show _ = _; unfold dtext; rw [hl, if_neg (by simp), if_neg h0, if_neg h1, if_pos h2]; simp [bys, sPublic, sSecret, sBy]
  have hl2 : (l ++ dtext d).length ≤ 70368744177664 := by rw [List.length_append]; exact hlen
  rw [HT.out] at hl2
  have e1 : (ByteArray.mk #[115, 101, 99, 114, 101, 116, 32]).size = 7 := rfl
  have e2 : (ByteArray.mk #[59, 10]).size = 2 := rfl
  simp only [List.length_append, List.length_cons, List.length_nil, bys_length, e1, e2] at hl2
  obtain ⟨hs1, hs2, hn, hby⟩ := hf
  clear hbe hl hlen h2
  have hBw := hP.base
  have hlt := hP.lt
  have HB : Hid (w.heap.size ≠ b) := by show _ ≠ _; omega
  have hA : Stay B b w (w.alloc (.cells #[.bool false, .int .i64 d.label, .string d.name, .int .i64 d.size, .string ⟨#[]⟩, .int .i64 d.at_] 68)) := (Stay.refl _ _ _).alloc hBw _
  have HBox := Lib.hid (show (w.alloc (.cells #[.bool false, .int .i64 d.label, .string d.name, .int .i64 d.size, .string ⟨#[]⟩, .int .i64 d.at_] 68)).heap[w.heap.size]? = some (.cells #[.bool false, .int .i64 d.label, .string d.name, .int .i64 d.size, .string ⟨#[]⟩, .int .i64 d.at_] 68 (0, 0)) from heap_alloc_new w _)
  have hPA := hP.alloc (.cells #[.bool false, .int .i64 d.label, .string d.name, .int .i64 d.size, .string ⟨#[]⟩, .int .i64 d.at_] 68)
  go_enter Tryz.func27, Tryz.ntmps27
  go_wp2_with (go_at_call 48; refine (writeString_any B b l 0 ⟨#[115, 101, 99, 114, 101, 116, 32]⟩ _ hPA (by rw [e1]; omega)).mono ?_; rintro e w1 ⟨rfl, hP1, hb1⟩; have hbx1 := hb1.2 _ _ _ _ HB.out (by decide) HBox.out; obtain ⟨a0, a1, a2, a3, a4, a5⟩ := decl_cells hbx1)
  go_region_with (go_at_call 48; refine (writeString_any B b _ 0 d.name _ hP1.page.drew (by simp only [List.length_append, bys_length, e1]; omega)).mono ?_; rintro e w2 ⟨rfl, hP2, hb2⟩; have hb12 := hb1.drew.trans hb2; clear a0 a1 a2 a3 a4 a5; have hbx2 := hb12.2 _ _ _ _ HB.out (by decide) HBox.out; obtain ⟨a0, a1, a2, a3, a4, a5⟩ := decl_cells hbx2)
  all_goals (go_wp2_with fail)
  all_goals (go_wp2_with (go_at_call 48; refine (writeString_any B b _ 0 ⟨#[59, 10]⟩ _ hP2.page (by simp only [List.length_append, bys_length, e1, e2]; omega)).mono ?_; rintro e w6 ⟨rfl, hP6, hb6⟩))
  all_goals go_end0
  all_goals exact ⟨rfl, by rw [HT.out]; simpa using hP6.page, (hA.trans hb12).trans hb6⟩

set_option maxHeartbeats 4000000 in
set_option maxRecDepth 100000 in
theorem decl_101 (B b : Nat) (l : List UInt8) (d : Dcl) (w : World) (hP : PageAt B b l 0 w) (hf : dfit d) (hV : Vars B w) (hlen : l.length + (dtext d).length ≤ 70368744177664) (hl : d.lock = false) (h0 : d.label ≠ 0) (h1 : ¬ 0 < d.size) (h2 : d.by_.size ≠ 0) :
    Calls Tryz.prog 27 #[.pointer (some ⟨b, 0, none⟩), dagg d] w (Wrote B b l 0 w (dtext d)) := by
  have hbe : dagg d = .agg #[.bool false, .int .i64 d.label, .string d.name, .int .i64 d.size, .string d.by_, .int .i64 d.at_] := by unfold dagg; rw [hl]
  rw [hbe]
  have HT : Hid (l ++ dtext d = l ++ bys ⟨#[115, 101, 99, 114, 101, 116, 32]⟩ ++ bys d.name ++ [] ++ (sBy ++ bys d.by_) ++ bys ⟨#[59, 10]⟩) := by show _ = _; unfold dtext; rw [hl, if_neg (by simp), if_neg h0, if_neg h1, if_neg h2]; simp [bys, sPublic, sSecret, sBy]
  have hl2 : (l ++ dtext d).length ≤ 70368744177664 := by rw [List.length_append]; exact hlen
  rw [HT.out] at hl2
  have e1 : (ByteArray.mk #[115, 101, 99, 114, 101, 116, 32]).size = 7 := rfl
  have e2 : (ByteArray.mk #[59, 10]).size = 2 := rfl
  simp only [List.length_append, List.length_cons, List.length_nil, bys_length, e1, e2] at hl2
  obtain ⟨hs1, hs2, hn, hby⟩ := hf
  have hbn := str_nil d.by_ h2
  obtain ⟨Y, hY⟩ : ∃ Y : ByteArray, ⟨#[32, 98, 121, 32]⟩ ++ d.by_ = Y := ⟨_, rfl⟩
  have HY : Hid (bys Y = sBy ++ bys d.by_) := by show _ = _; rw [← hY]; simp only [bys_cat]; rfl
  have hYs : Y.size = 4 + d.by_.size := by rw [← bys_length, HY.out]; simp [sBy, bys_length]; omega
  have e3 : sBy.length = 4 := rfl
  rw [e3] at hl2
  clear hbe hl hlen h2
  have hBw := hP.base
  have hlt := hP.lt
  have HB : Hid (w.heap.size ≠ b) := by show _ ≠ _; omega
  have hA : Stay B b w (w.alloc (.cells #[.bool false, .int .i64 d.label, .string d.name, .int .i64 d.size, .string d.by_, .int .i64 d.at_] 68)) := (Stay.refl _ _ _).alloc hBw _
  have HBox := Lib.hid (show (w.alloc (.cells #[.bool false, .int .i64 d.label, .string d.name, .int .i64 d.size, .string d.by_, .int .i64 d.at_] 68)).heap[w.heap.size]? = some (.cells #[.bool false, .int .i64 d.label, .string d.name, .int .i64 d.size, .string d.by_, .int .i64 d.at_] 68 (0, 0)) from heap_alloc_new w _)
  have hPA := hP.alloc (.cells #[.bool false, .int .i64 d.label, .string d.name, .int .i64 d.size, .string d.by_, .int .i64 d.at_] 68)
  go_enter Tryz.func27, Tryz.ntmps27
  go_wp2_with (go_at_call 48; refine (writeString_any B b l 0 ⟨#[115, 101, 99, 114, 101, 116, 32]⟩ _ hPA (by rw [e1]; omega)).mono ?_; rintro e w1 ⟨rfl, hP1, hb1⟩; have hbx1 := hb1.2 _ _ _ _ HB.out (by decide) HBox.out; obtain ⟨a0, a1, a2, a3, a4, a5⟩ := decl_cells hbx1)
  go_region_with (go_at_call 48; refine (writeString_any B b _ 0 d.name _ hP1.page.drew (by simp only [List.length_append, bys_length, e1]; omega)).mono ?_; rintro e w2 ⟨rfl, hP2, hb2⟩; have hb12 := hb1.drew.trans hb2; clear a0 a1 a2 a3 a4 a5; have hbx2 := hb12.2 _ _ _ _ HB.out (by decide) HBox.out; obtain ⟨a0, a1, a2, a3, a4, a5⟩ := decl_cells hbx2)
  all_goals (go_wp2_with fail)
  all_goals (go_region_with (go_at_call 48; refine (writeString_any B b _ 0 Y _ hP2.page.drew (by simp only [List.length_append, bys_length, e1, e2]; omega)).mono ?_; rintro e w5 ⟨rfl, hP5, hb5⟩; have hb15 := hb12.drew.trans hb5))
  all_goals (go_wp2_with fail)
  all_goals (go_wp2_with (go_at_call 48; refine (writeString_any B b _ 0 ⟨#[59, 10]⟩ _ hP5.page (by simp only [List.length_append, bys_length, e1, e2]; omega)).mono ?_; rintro e w6 ⟨rfl, hP6, hb6⟩))
  all_goals go_end0
  all_goals exact ⟨rfl, by rw [HT.out, ← HY.out]; simpa using hP6.page, (hA.trans hb15).trans hb6⟩

set_option maxHeartbeats 4000000 in
set_option maxRecDepth 100000 in
theorem decl_110 (B b : Nat) (l : List UInt8) (d : Dcl) (w : World) (hP : PageAt B b l 0 w) (hf : dfit d) (hV : Vars B w) (hlen : l.length + (dtext d).length ≤ 70368744177664) (hl : d.lock = false) (h0 : d.label ≠ 0) (h1 : 0 < d.size) (h2 : d.by_.size = 0) :
    Calls Tryz.prog 27 #[.pointer (some ⟨b, 0, none⟩), dagg d] w (Wrote B b l 0 w (dtext d)) := by
  have hbe : dagg d = .agg #[.bool false, .int .i64 d.label, .string d.name, .int .i64 d.size, .string ⟨#[]⟩, .int .i64 d.at_] := by unfold dagg; rw [hl, size_zero h2]
  rw [hbe]
  have HT : Hid (l ++ dtext d = l ++ bys ⟨#[115, 101, 99, 114, 101, 116, 32]⟩ ++ bys d.name ++ ([91] ++ Lib.itoa d.size ++ [93]) ++ [] ++ bys ⟨#[59, 10]⟩) := by show _ = _; unfold dtext; rw [hl, if_neg (by simp), if_neg h0, if_pos h1, if_pos h2]; simp [bys, sPublic, sSecret, sBy]
  have hl2 : (l ++ dtext d).length ≤ 70368744177664 := by rw [List.length_append]; exact hlen
  rw [HT.out] at hl2
  have e1 : (ByteArray.mk #[115, 101, 99, 114, 101, 116, 32]).size = 7 := rfl
  have e2 : (ByteArray.mk #[59, 10]).size = 2 := rfl
  simp only [List.length_append, List.length_cons, List.length_nil, bys_length, e1, e2] at hl2
  obtain ⟨hs1, hs2, hn, hby⟩ := hf
  obtain ⟨I, hI⟩ : ∃ I, bstr (Lib.itoa d.size) = I := ⟨_, rfl⟩
  have hszI : I.size ≤ 21 := by rw [← hI, bstr_size]; exact Lib.itoa_length_le d.size hs1 hs2
  obtain ⟨X, hX⟩ : ∃ X : ByteArray, ⟨#[91]⟩ ++ I ++ ⟨#[93]⟩ = X := ⟨_, rfl⟩
  have HX : Hid (bys X = [91] ++ Lib.itoa d.size ++ [93]) := by show _ = _; rw [← hX, ← hI]; simp only [bys_cat]; rfl
  have hXs : X.size = (Lib.itoa d.size).length + 2 := by rw [← bys_length, HX.out]; simp
  have Hit := fun w' (h : Vars B w') => itoa_any d.size hs1 hs2 B w' h
  rw [hI] at Hit
  clear hI
  clear hbe hl hlen h2
  have hBw := hP.base
  have hlt := hP.lt
  have HB : Hid (w.heap.size ≠ b) := by show _ ≠ _; omega
  have hA : Stay B b w (w.alloc (.cells #[.bool false, .int .i64 d.label, .string d.name, .int .i64 d.size, .string ⟨#[]⟩, .int .i64 d.at_] 68)) := (Stay.refl _ _ _).alloc hBw _
  have HBox := Lib.hid (show (w.alloc (.cells #[.bool false, .int .i64 d.label, .string d.name, .int .i64 d.size, .string ⟨#[]⟩, .int .i64 d.at_] 68)).heap[w.heap.size]? = some (.cells #[.bool false, .int .i64 d.label, .string d.name, .int .i64 d.size, .string ⟨#[]⟩, .int .i64 d.at_] 68 (0, 0)) from heap_alloc_new w _)
  have hPA := hP.alloc (.cells #[.bool false, .int .i64 d.label, .string d.name, .int .i64 d.size, .string ⟨#[]⟩, .int .i64 d.at_] 68)
  go_enter Tryz.func27, Tryz.ntmps27
  go_wp2_with (go_at_call 48; refine (writeString_any B b l 0 ⟨#[115, 101, 99, 114, 101, 116, 32]⟩ _ hPA (by rw [e1]; omega)).mono ?_; rintro e w1 ⟨rfl, hP1, hb1⟩; have hbx1 := hb1.2 _ _ _ _ HB.out (by decide) HBox.out; obtain ⟨a0, a1, a2, a3, a4, a5⟩ := decl_cells hbx1)
  go_region_with (go_at_call 48; refine (writeString_any B b _ 0 d.name _ hP1.page.drew (by simp only [List.length_append, bys_length, e1]; omega)).mono ?_; rintro e w2 ⟨rfl, hP2, hb2⟩; have hb12 := hb1.drew.trans hb2; clear a0 a1 a2 a3 a4 a5; have hbx2 := hb12.2 _ _ _ _ HB.out (by decide) HBox.out; obtain ⟨a0, a1, a2, a3, a4, a5⟩ := decl_cells hbx2)
  all_goals (go_wp2_with fail)
  all_goals (go_region_with (first
    | (go_at_call 49; refine (Hit _ ((hV.on hA.1).on hb12.drew.1)).mono ?_; rintro e w3 ⟨rfl, hb3⟩; have hP3 := hP2.page.drew.below hb3; have hbx3 := (hb3.block _ (heap_lt hbx2)).trans hbx2; clear a0 a1 a2 a3 a4 a5; obtain ⟨a0, a1, a2, a3, a4, a5⟩ := decl_cells hbx3)
    | (go_at_call 48; refine (writeString_any B b _ 0 X _ hP3 (by simp only [List.length_append, bys_length, e1, e2]; omega)).mono ?_; rintro e w4 ⟨rfl, hP4, hb4⟩; have hb14 := (hb12.trans (Stay.of_drew hb3 (by have := hb12.1.size; have := hA.1.size; omega))).trans hb4; clear a0 a1 a2 a3 a4 a5; have hbx4 := hb14.2 _ _ _ _ HB.out (by decide) HBox.out; obtain ⟨a0, a1, a2, a3, a4, a5⟩ := decl_cells hbx4)))
  all_goals (go_wp2_with fail)
  all_goals (go_wp2_with (go_at_call 48; refine (writeString_any B b _ 0 ⟨#[59, 10]⟩ _ hP4.page (by simp only [List.length_append, bys_length, e1, e2]; omega)).mono ?_; rintro e w6 ⟨rfl, hP6, hb6⟩))
  all_goals go_end0
  all_goals exact ⟨rfl, by rw [HT.out, ← HX.out]; simpa using hP6.page, (hA.trans hb14).trans hb6⟩

set_option maxHeartbeats 4000000 in
set_option maxRecDepth 100000 in
theorem decl_111 (B b : Nat) (l : List UInt8) (d : Dcl) (w : World) (hP : PageAt B b l 0 w) (hf : dfit d) (hV : Vars B w) (hlen : l.length + (dtext d).length ≤ 70368744177664) (hl : d.lock = false) (h0 : d.label ≠ 0) (h1 : 0 < d.size) (h2 : d.by_.size ≠ 0) :
    Calls Tryz.prog 27 #[.pointer (some ⟨b, 0, none⟩), dagg d] w (Wrote B b l 0 w (dtext d)) := by
  have hbe : dagg d = .agg #[.bool false, .int .i64 d.label, .string d.name, .int .i64 d.size, .string d.by_, .int .i64 d.at_] := by unfold dagg; rw [hl]
  rw [hbe]
  have HT : Hid (l ++ dtext d = l ++ bys ⟨#[115, 101, 99, 114, 101, 116, 32]⟩ ++ bys d.name ++ ([91] ++ Lib.itoa d.size ++ [93]) ++ (sBy ++ bys d.by_) ++ bys ⟨#[59, 10]⟩) := by show _ = _; unfold dtext; rw [hl, if_neg (by simp), if_neg h0, if_pos h1, if_neg h2]; simp [bys, sPublic, sSecret, sBy]
  have hl2 : (l ++ dtext d).length ≤ 70368744177664 := by rw [List.length_append]; exact hlen
  rw [HT.out] at hl2
  have e1 : (ByteArray.mk #[115, 101, 99, 114, 101, 116, 32]).size = 7 := rfl
  have e2 : (ByteArray.mk #[59, 10]).size = 2 := rfl
  simp only [List.length_append, List.length_cons, List.length_nil, bys_length, e1, e2] at hl2
  obtain ⟨hs1, hs2, hn, hby⟩ := hf
  have hbn := str_nil d.by_ h2
  obtain ⟨I, hI⟩ : ∃ I, bstr (Lib.itoa d.size) = I := ⟨_, rfl⟩
  have hszI : I.size ≤ 21 := by rw [← hI, bstr_size]; exact Lib.itoa_length_le d.size hs1 hs2
  obtain ⟨X, hX⟩ : ∃ X : ByteArray, ⟨#[91]⟩ ++ I ++ ⟨#[93]⟩ = X := ⟨_, rfl⟩
  have HX : Hid (bys X = [91] ++ Lib.itoa d.size ++ [93]) := by show _ = _; rw [← hX, ← hI]; simp only [bys_cat]; rfl
  have hXs : X.size = (Lib.itoa d.size).length + 2 := by rw [← bys_length, HX.out]; simp
  have Hit := fun w' (h : Vars B w') => itoa_any d.size hs1 hs2 B w' h
  rw [hI] at Hit
  clear hI
  obtain ⟨Y, hY⟩ : ∃ Y : ByteArray, ⟨#[32, 98, 121, 32]⟩ ++ d.by_ = Y := ⟨_, rfl⟩
  have HY : Hid (bys Y = sBy ++ bys d.by_) := by show _ = _; rw [← hY]; simp only [bys_cat]; rfl
  have hYs : Y.size = 4 + d.by_.size := by rw [← bys_length, HY.out]; simp [sBy, bys_length]; omega
  have e3 : sBy.length = 4 := rfl
  rw [e3] at hl2
  clear hbe hl hlen h2
  have hBw := hP.base
  have hlt := hP.lt
  have HB : Hid (w.heap.size ≠ b) := by show _ ≠ _; omega
  have hA : Stay B b w (w.alloc (.cells #[.bool false, .int .i64 d.label, .string d.name, .int .i64 d.size, .string d.by_, .int .i64 d.at_] 68)) := (Stay.refl _ _ _).alloc hBw _
  have HBox := Lib.hid (show (w.alloc (.cells #[.bool false, .int .i64 d.label, .string d.name, .int .i64 d.size, .string d.by_, .int .i64 d.at_] 68)).heap[w.heap.size]? = some (.cells #[.bool false, .int .i64 d.label, .string d.name, .int .i64 d.size, .string d.by_, .int .i64 d.at_] 68 (0, 0)) from heap_alloc_new w _)
  have hPA := hP.alloc (.cells #[.bool false, .int .i64 d.label, .string d.name, .int .i64 d.size, .string d.by_, .int .i64 d.at_] 68)
  go_enter Tryz.func27, Tryz.ntmps27
  go_wp2_with (go_at_call 48; refine (writeString_any B b l 0 ⟨#[115, 101, 99, 114, 101, 116, 32]⟩ _ hPA (by rw [e1]; omega)).mono ?_; rintro e w1 ⟨rfl, hP1, hb1⟩; have hbx1 := hb1.2 _ _ _ _ HB.out (by decide) HBox.out; obtain ⟨a0, a1, a2, a3, a4, a5⟩ := decl_cells hbx1)
  go_region_with (go_at_call 48; refine (writeString_any B b _ 0 d.name _ hP1.page.drew (by simp only [List.length_append, bys_length, e1]; omega)).mono ?_; rintro e w2 ⟨rfl, hP2, hb2⟩; have hb12 := hb1.drew.trans hb2; clear a0 a1 a2 a3 a4 a5; have hbx2 := hb12.2 _ _ _ _ HB.out (by decide) HBox.out; obtain ⟨a0, a1, a2, a3, a4, a5⟩ := decl_cells hbx2)
  all_goals (go_wp2_with fail)
  all_goals (go_region_with (first
    | (go_at_call 49; refine (Hit _ ((hV.on hA.1).on hb12.drew.1)).mono ?_; rintro e w3 ⟨rfl, hb3⟩; have hP3 := hP2.page.drew.below hb3; have hbx3 := (hb3.block _ (heap_lt hbx2)).trans hbx2; clear a0 a1 a2 a3 a4 a5; obtain ⟨a0, a1, a2, a3, a4, a5⟩ := decl_cells hbx3)
    | (go_at_call 48; refine (writeString_any B b _ 0 X _ hP3 (by simp only [List.length_append, bys_length, e1, e2]; omega)).mono ?_; rintro e w4 ⟨rfl, hP4, hb4⟩; have hb14 := (hb12.trans (Stay.of_drew hb3 (by have := hb12.1.size; have := hA.1.size; omega))).trans hb4; clear a0 a1 a2 a3 a4 a5; have hbx4 := hb14.2 _ _ _ _ HB.out (by decide) HBox.out; obtain ⟨a0, a1, a2, a3, a4, a5⟩ := decl_cells hbx4)))
  all_goals (go_wp2_with fail)
  all_goals (go_region_with (go_at_call 48; refine (writeString_any B b _ 0 Y _ hP4.page.drew (by simp only [List.length_append, bys_length, e1, e2]; omega)).mono ?_; rintro e w5 ⟨rfl, hP5, hb5⟩; have hb15 := hb14.drew.trans hb5))
  all_goals (go_wp2_with fail)
  all_goals (go_wp2_with (go_at_call 48; refine (writeString_any B b _ 0 ⟨#[59, 10]⟩ _ hP5.page (by simp only [List.length_append, bys_length, e1, e2]; omega)).mono ?_; rintro e w6 ⟨rfl, hP6, hb6⟩))
  all_goals go_end0
  all_goals exact ⟨rfl, by rw [HT.out, ← HX.out, ← HY.out]; simpa using hP6.page, (hA.trans hb15).trans hb6⟩

theorem decl_any (B b : Nat) (l : List UInt8) (d : Dcl) (w : World) (hP : PageAt B b l 0 w) (hf : dfit d) (hV : Vars B w) (hlen : l.length + (dtext d).length ≤ 70368744177664) :
    Calls Tryz.prog 27 #[.pointer (some ⟨b, 0, none⟩), dagg d] w (Wrote B b l 0 w (dtext d)) := by
  cases hl : d.lock with
  | true => exact decl_lock B b l d w hP hf hV hlen hl
  | false =>
    by_cases h0 : d.label = 0 <;> by_cases h1 : 0 < d.size <;> by_cases h2 : d.by_.size = 0
    · exact decl_010 B b l d w hP hf hV hlen hl h0 h1 h2
    · exact decl_011 B b l d w hP hf hV hlen hl h0 h1 h2
    · exact decl_000 B b l d w hP hf hV hlen hl h0 h1 h2
    · exact decl_001 B b l d w hP hf hV hlen hl h0 h1 h2
    · exact decl_110 B b l d w hP hf hV hlen hl h0 h1 h2
    · exact decl_111 B b l d w hP hf hV hlen hl h0 h1 h2
    · exact decl_100 B b l d w hP hf hV hlen hl h0 h1 h2
    · exact decl_101 B b l d w hP hf hV hlen hl h0 h1 h2
end Go.Proofs.YtfginegegaokbaaGreatDoor
