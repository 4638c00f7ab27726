/- What page.binary writes, when it is called. Conditions: as in TreePart. -/
import Derived.Test.YtfginegegaokbaaGreatDoorTreeExprC
import Derived.BigRegion
namespace Go.Proofs.YtfginegegaokbaaGreatDoor
open Go.ChangeShapes Go.WideShapes Go.ChangeAt Go.RowKit
set_option linter.unusedVariables false
set_option linter.unusedSimpArgs false

theorem Stay.drew {B b : Nat} {a w : World} (h : Stay B b a w) : Stay B b a w.drew := ⟨h.1.drew, h.2⟩
theorem Stay.of_drew {B b : Nat} {w w' : World} (h : Below w.drew.heap.size w.drew w') (hB : B ≤ w.heap.size) : Stay B b w w' :=
  ⟨⟨h.os, h.tape, h.output, h.size, fun k hk => h.block k (Nat.lt_of_lt_of_le hk hB)⟩, fun k cs t fr _ _ hk => (h.block k (heap_lt hk)).trans hk⟩
/-- An expression's box. -/
theorem box_cells {w : World} {k : Nat} {x0 x1 x2 x3 x4 x5 : Value} (h : w.heap[k]? = some (.cells #[x0, x1, x2, x3, x4, x5] 57 (0, 0))) :
    w.cell? ⟨k, 0, none⟩ = some x0 ∧ w.cell? ⟨k, 1, none⟩ = some x1 ∧ w.cell? ⟨k, 2, none⟩ = some x2 ∧ w.cell? ⟨k, 3, none⟩ = some x3 ∧ w.cell? ⟨k, 4, none⟩ = some x4 ∧ w.cell? ⟨k, 5, none⟩ = some x5 := by
  refine ⟨?_, ?_, ?_, ?_, ?_, ?_⟩ <;> (rw [Lib.cell_of_heap h]; rfl)

set_option maxHeartbeats 4000000 in
set_option maxRecDepth 100000 in
theorem binary_core {n : Nat} (ih : ExprC n) (B b : Nat) (l : List UInt8) (d : Int) (t : Tree) (v : Value) (p : Nat) (w : World) (hP : PageAt B b l d w) (hE : ERep 0 B w (n + 1) v t) (hV : Vars B w) (hp : p ≤ 100) (h0 : tightN t.op ≠ 0) (hnl : ¬ tightN t.op < p)
    (hlen : l.length + (binText n t).length ≤ 70368744177664) :
    Calls Tryz.prog 116 #[.pointer (some ⟨b, 0, none⟩), v, .int .i64 p] w (Wrote B b l d w (binText n t)) := by
  obtain ⟨hv64, kv, rfl, hK⟩ := hE
  obtain ⟨tk, top, tn, tv, ks, tat⟩ := t
  dsimp only at *
  obtain ⟨o, rfl, ho⟩ : ∃ o : Nat, top = o ∧ o ≤ 9 := by
    by_cases h : 0 ≤ top ∧ top ≤ 9
    · exact ⟨top.toNat, by omega, by omega⟩
    · exact absurd (tightN_none top (by omega)) h0
  have HT : Hid (l ++ binText n ⟨tk, o, tn, tv, ks, tat⟩ = l ++ epart n ks 0 (tightN o) ++ [32] ++ bys (bstr (signL o)) ++ [32] ++ epart n ks 1 (tightN o + 1)) := by show _ = _; simp [binText, bys_bstr]
  have hl : (l ++ binText n ⟨tk, o, tn, tv, ks, tat⟩).length ≤ 70368744177664 := by simpa using hlen
  rw [HT.out] at hl
  simp only [List.length_append, List.length_cons, List.length_nil, bys_length] at hl
  have ht7 := tightN_le (o : Int)
  obtain ⟨T, hT⟩ : ∃ T, T = tightN (o : Int) := ⟨_, rfl⟩
  have Htight := tight_any (o : Int)
  rw [← hT] at Htight h0 hnl hl HT ht7
  clear hT hlen
  have hBw := hP.base
  have hlt := hP.lt
  have hA : Stay B b w (w.alloc (.cells #[.int .i64 tk, .int .i64 (o : Int), .string tn, .int .u64 tv, kv, .int .i64 tat] 57)) := (Stay.refl _ _ _).alloc hBw _
  have hbox : (w.alloc (.cells #[.int .i64 tk, .int .i64 (o : Int), .string tn, .int .u64 tv, kv, .int .i64 tat] 57)).heap[w.heap.size]? = some (.cells #[.int .i64 tk, .int .i64 (o : Int), .string tn, .int .u64 tv, kv, .int .i64 tat] 57 (0, 0)) := heap_alloc_new w _
  have HB : Hid (w.heap.size ≠ b) := by show _ ≠ _; omega
  have HBox := Lib.hid hbox
  clear hbox
  have hlen1 : ((epart n ks 0 T).length) ≤ 70368744177664 := by omega
  go_enter Tryz.func116, Tryz.ntmps116
  go_wp2_with (go_at_call 136; refine (Htight _).mono ?_; rintro e w' ⟨rfl, rfl⟩)
  go_wp2_with (go_at_call 81; refine (part_of ih B b l d ks kv 0 T _ (hP.alloc _) (hK.on hA.1) (hV.on hA.1) (by omega) (by omega) (by omega)).mono ?_; rintro e w1 ⟨rfl, hP1, hb1⟩)
  have hbx1 := hb1.2 _ _ _ _ HB.out (by decide) HBox.out
  obtain ⟨a0, a1, a2, a3, a4, a5⟩ := box_cells hbx1
  go_wp2_with (go_at_call 51; refine (writeByte_any B b _ d 32 _ hP1 (by simp only [List.length_append]; omega)).mono ?_; rintro e w2 ⟨rfl, hP2, hb2⟩)
  have hbx2 := hb2.2 _ _ _ _ HB.out (by decide) hbx1
  clear a0 a1 a2 a3 a4 a5
  obtain ⟨a0, a1, a2, a3, a4, a5⟩ := box_cells hbx2
  have HP2 := Lib.hid hP2
  have Hb2 := Lib.hid hb2
  clear hb2 hP2
  go_wp2
  go_region_with (first
    | (go_at_call 41; refine (signs_any o ho _).mono ?_; rintro e w3 ⟨g, rfl, hc3, hb3⟩; have hP3 := (HP2.out.page.drew).below hb3; have hbx3 := (hb3.block w.heap.size (heap_lt hbx2)).trans hbx2; obtain ⟨z0, z1, z2, z3, z4, z5⟩ := box_cells hbx3)
    | (go_at_call 48; refine (writeString_any B b _ d (bstr (signL o)) _ (by assumption) (by simp only [List.length_append, List.length_cons, List.length_nil]; omega)).mono ?_; rintro e w4 ⟨rfl, hP4, hb4⟩))
  all_goals (
    have hb2 := Hb2.out
    have hb03 : Stay B b w w3 := ((hA.trans hb1).trans hb2).trans (Stay.of_drew hb3 (Nat.le_trans hBw (Nat.le_trans (by simp) (Nat.le_trans hb1.1.size hb2.1.size))))
    have hbx4 := hb4.2 _ _ _ _ HB.out (by decide) hbx3
    clear hb2 hb3 hc3 a0 a1 a2 a3 a4 a5 z0 z1 z2 z3 z4 z5
    obtain ⟨a0, a1, a2, a3, a4, a5⟩ := box_cells hbx4
    go_wp2_with (go_at_call 51; refine (writeByte_any B b _ d 32 _ hP4.page (by simp only [List.length_append, List.length_cons, List.length_nil, bys_length]; omega)).mono ?_; rintro e w5 ⟨rfl, hP5, hb5⟩; have hbx5 := hb5.2 _ _ _ _ HB.out (by decide) hbx4; clear a0 a1 a2 a3 a4 a5; obtain ⟨a0, a1, a2, a3, a4, a5⟩ := box_cells hbx5)
    have hb05 := (hb03.trans hb4).trans hb5
    go_wp2_with (go_at_call 81; refine (part_at ih B b _ d ks kv 1 (T + 1) ((T : Int) + 1) (by show _ = _; omega) _ hP5.page (hK.on hb05.1) (hV.on hb05.1) (by omega) (by omega) (by simp only [List.length_append, List.length_cons, List.length_nil, bys_length]; omega)).mono ?_; rintro e w6 ⟨rfl, hP6, hb6⟩)
    go_end0
    exact ⟨rfl, by rw [HT.out]; exact hP6, hb05.trans hb6⟩)

set_option maxHeartbeats 4000000 in
set_option maxRecDepth 100000 in
theorem binary_of {n : Nat} (ih : ExprC n) (B b : Nat) (l : List UInt8) (d : Int) (t : Tree) (v : Value) (p : Nat) (w : World) (hP : PageAt B b l d w) (hE : ERep 0 B w (n + 1) v t) (hV : Vars B w) (hp : p ≤ 100)
    (hlen : l.length + (binTextAt n t p).length ≤ 70368744177664) :
    Calls Tryz.prog 116 #[.pointer (some ⟨b, 0, none⟩), v, .int .i64 p] w (Wrote B b l d w (binTextAt n t p)) := by
  have hE0 := hE
  obtain ⟨hv64, kv, rfl, hK⟩ := hE
  have hBw := hP.base
  have hlt := hP.lt
  have ht7 := tightN_le t.op
  have HB : Hid (w.heap.size ≠ b) := by show _ ≠ _; omega
  have hA : Stay B b w (w.alloc (.cells #[.int .i64 t.kind, .int .i64 t.op, .string t.name, .int .u64 t.value, kv, .int .i64 t.at_] 57)) := (Stay.refl _ _ _).alloc hBw _
  have HBox := Lib.hid (show (w.alloc (.cells #[.int .i64 t.kind, .int .i64 t.op, .string t.name, .int .u64 t.value, kv, .int .i64 t.at_] 57)).heap[w.heap.size]? = some (.cells #[.int .i64 t.kind, .int .i64 t.op, .string t.name, .int .u64 t.value, kv, .int .i64 t.at_] 57 (0, 0)) from heap_alloc_new w _)
  by_cases h0 : tightN t.op = 0
  · have e : binTextAt n t p = [63] := by simp [binTextAt, h0]
    rw [e] at hlen ⊢
    simp only [List.length_cons, List.length_nil] at hlen
    have Htight := tight_any t.op
    rw [h0] at Htight
    clear e
    go_enter Tryz.func116, Tryz.ntmps116
    go_wp2_with (first | (go_at_call 136; refine (Htight _).mono ?_; rintro e w' ⟨rfl, rfl⟩) | (go_at_call 48; refine (writeString_any B b l d ⟨#[63]⟩ _ (hP.alloc _) (by simp [ByteArray.size]; omega)).mono ?_; rintro e w1 ⟨rfl, hP1, hb1⟩))
    go_end0
    exact ⟨rfl, hP1.page, hA.trans hb1⟩
  · by_cases hlp : tightN t.op < p
    · have e : binTextAt n t p = [40] ++ binText n t ++ [41] := by simp [binTextAt, h0, hlp]
      have HT : Hid (l ++ binTextAt n t p = l ++ [40] ++ binText n t ++ [41]) := by show _ = _; rw [e]; simp
      rw [e] at hlen
      simp only [List.length_append, List.length_cons, List.length_nil] at hlen
      have Htight := tight_any t.op
      obtain ⟨T, hT⟩ : ∃ T, T = tightN t.op := ⟨_, rfl⟩
      rw [← hT] at Htight h0 hlp ht7
      have HT0 := Lib.hid hT
      clear e hT
      go_enter Tryz.func116, Tryz.ntmps116
      go_wp2_with (first | (go_at_call 136; refine (Htight _).mono ?_; rintro e w' ⟨rfl, rfl⟩) | (go_at_call 51; refine (writeByte_any B b l d 40 _ (hP.alloc _) (by omega)).mono ?_; rintro e w1 ⟨rfl, hP1, hb1⟩; have hbx1 := hb1.2 _ _ _ _ HB.out (by decide) HBox.out; obtain ⟨a0, a1, a2, a3, a4, a5⟩ := box_cells hbx1))
      have hb01 := hA.trans hb1
      go_wp2_with (go_at_call 116; refine (binary_core ih B b _ d t _ T _ hP1.page (hE0.mono (Nat.le_refl _) hb01.1) (hV.on hb01.1) (by omega) (by rw [← HT0.out]; exact h0) (by rw [← HT0.out]; omega) (by simp only [List.length_append, List.length_cons, List.length_nil]; omega)).mono ?_; rintro e w2 ⟨rfl, hP2, hb2⟩)
      go_wp2_with (go_at_call 51; refine (writeByte_any B b _ d 41 _ hP2 (by simp only [List.length_append, List.length_cons, List.length_nil]; omega)).mono ?_; rintro e w3 ⟨rfl, hP3, hb3⟩)
      go_end0
      exact ⟨rfl, by rw [HT.out]; exact hP3.page, (hb01.trans hb2).trans hb3⟩
    · have e : binTextAt n t p = binText n t := by simp [binTextAt, h0, hlp]
      rw [e] at hlen ⊢
      exact binary_core ih B b l d t _ p w hP hE0 hV hp h0 hlp hlen
end Go.Proofs.YtfginegegaokbaaGreatDoor
