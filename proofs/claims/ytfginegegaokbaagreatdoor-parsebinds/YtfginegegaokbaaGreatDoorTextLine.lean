/- What page.indent, line and value write, when they are called. Conditions: as in TreePart. -/
import Derived.Test.YtfginegegaokbaaGreatDoorTreeEx
import Derived.Test.YtfginegegaokbaaGreatDoorTextPlain
namespace Go.Proofs.YtfginegegaokbaaGreatDoor
open Go.ChangeShapes Go.WideShapes Go.ChangeAt Go.RowKit
set_option linter.unusedVariables false
set_option linter.unusedSimpArgs false

theorem deep_cell {B b : Nat} {l : List UInt8} {d : Int} {w : World} (h : PageAt B b l d w) : w.cell? ⟨b, 2, none⟩ = some (.int .i64 d) := by
  obtain ⟨_, p, v, hb, _⟩ := h
  rw [Lib.cell_of_heap hb]; rfl
theorem tabs_succ (k : Nat) : tabs (k + 1) = tabs k ++ [9] := by unfold tabs; rw [List.replicate_succ', ]
theorem tabs_len (k : Nat) : (tabs k).length = k := by simp [tabs]

set_option maxHeartbeats 2000000 in
set_option maxRecDepth 100000 in
theorem indent_any (B b : Nat) (l : List UInt8) (d : Nat) (w : World) (hP : PageAt B b l d w) (hd : d ≤ 1000000) (hlen : l.length + d ≤ 70368744177664) :
    Calls Tryz.prog 50 #[.pointer (some ⟨b, 0, none⟩)] w (Wrote B b l d w (tabs d)) := by
  have hc := deep_cell hP
  go_enter Tryz.func50, Tryz.ntmps50
  go_wp2
  go_loopw [6] (fun i wr => ∃ k : Nat, k ≤ d ∧ i = .int .i64 k ∧ PageAt B b (l ++ tabs k) d wr ∧ Stay B b w wr) (fun i _ => d - (intOf i).toNat)
  case atStart => exact ⟨0, Nat.zero_le _, rfl, by simpa [tabs] using hP, Stay.refl _ _ _⟩
  case round =>
    obtain ⟨k, hk, rfl, hPr, hS⟩ := hrel
    by_cases hlt : k < d
    · go_wp2_with (go_at_call 51; refine (writeByte_any B b _ d 9 _ hPr (by simp only [List.length_append, tabs_len]; omega)).mono ?_; rintro e w1 ⟨rfl, hP1, hb1⟩)
      go_roundw
      case rel => exact ⟨k + 1, by omega, by go_num, by rw [tabs_succ, ← List.append_assoc]; exact hP1.page, hS.trans hb1⟩
      case measure => simp [intOf]; omega
    · obtain rfl : k = d := by omega
      go_wp2
      go_end0
      exact ⟨rfl, hPr, hS⟩

set_option maxHeartbeats 2000000 in
set_option maxRecDepth 100000 in
theorem line_any (B b : Nat) (l : List UInt8) (d : Nat) (s : ByteArray) (w : World) (hP : PageAt B b l d w) (hd : d ≤ 1000000) (hlen : l.length + (lineT d (bys s)).length ≤ 70368744177664) :
    Calls Tryz.prog 28 #[.pointer (some ⟨b, 0, none⟩), .string s] w (Wrote B b l d w (lineT d (bys s))) := by
  have HT : Hid (l ++ lineT d (bys s) = l ++ tabs d ++ bys s ++ [10]) := by show _ = _; simp [lineT]
  simp only [lineT, List.length_append, List.length_cons, List.length_nil, tabs_len, bys_length] at hlen
  go_enter Tryz.func28, Tryz.ntmps28
  go_wp2_with (go_at_call 50; refine (indent_any B b l d _ hP hd (by omega)).mono ?_; rintro e w1 ⟨rfl, hP1, hb1⟩)
  go_wp2_with (go_at_call 48; refine (writeString_any B b _ d s _ hP1 (by simp only [List.length_append, tabs_len]; omega)).mono ?_; rintro e w2 ⟨rfl, hP2, hb2⟩)
  go_wp2_with (go_at_call 51; refine (writeByte_any B b _ d 10 _ hP2.page (by simp only [List.length_append, tabs_len, bys_length]; omega)).mono ?_; rintro e w3 ⟨rfl, hP3, hb3⟩)
  go_end0
  exact ⟨rfl, by rw [HT.out]; exact hP3.page, (hb1.trans hb2).trans hb3⟩

set_option maxHeartbeats 2000000 in
set_option maxRecDepth 100000 in
theorem value_any (B b m : Nat) (l : List UInt8) (d : Nat) (s : ByteArray) (es : List Tree) (v : Value) (w : World) (hP : PageAt B b l d w) (hK : Kids 0 B w (fun v' t' => ERep 0 B w m v' t') v es) (hV : Vars B w) (hd : d ≤ 1000000) (hlen : l.length + (valueT m d (bys s) es).length ≤ 70368744177664) :
    Calls Tryz.prog 79 #[.pointer (some ⟨b, 0, none⟩), .string s, v] w (Wrote B b l d w (valueT m d (bys s) es)) := by
  have HT : Hid (l ++ valueT m d (bys s) es = l ++ tabs d ++ bys s ++ epart m es 0 0 ++ bys ⟨#[59, 10]⟩) := by show _ = _; simp [valueT, bys]
  have hl : (l ++ valueT m d (bys s) es).length ≤ 70368744177664 := by simpa using hlen
  rw [HT.out] at hl
  simp only [List.length_append, tabs_len, bys_length] at hl
  have e2 : (ByteArray.mk #[59, 10]).size = 2 := rfl
  rw [e2] at hl
  go_enter Tryz.func79, Tryz.ntmps79
  go_wp2_with (go_at_call 50; refine (indent_any B b l d _ hP hd (by omega)).mono ?_; rintro e w1 ⟨rfl, hP1, hb1⟩)
  go_wp2_with (go_at_call 48; refine (writeString_any B b _ d s _ hP1 (by simp only [List.length_append, tabs_len]; omega)).mono ?_; rintro e w2 ⟨rfl, hP2, hb2⟩)
  have hb12 := hb1.trans hb2
  go_wp2_with (go_at_call 81; refine (part_of (expr_all m) B b _ d es v 0 0 _ hP2.page (hK.on hb12.1) (hV.on hb12.1) (by omega) (by omega) (by simp only [List.length_append, tabs_len, bys_length]; omega)).mono ?_; rintro e w3 ⟨rfl, hP3, hb3⟩)
  go_wp2_with (go_at_call 48; refine (writeString_any B b _ d ⟨#[59, 10]⟩ _ hP3 (by simp only [List.length_append, tabs_len, bys_length, e2]; omega)).mono ?_; rintro e w4 ⟨rfl, hP4, hb4⟩)
  go_end0
  exact ⟨rfl, by rw [HT.out]; exact hP4.page, (hb12.trans hb3).trans hb4⟩
end Go.Proofs.YtfginegegaokbaaGreatDoor
