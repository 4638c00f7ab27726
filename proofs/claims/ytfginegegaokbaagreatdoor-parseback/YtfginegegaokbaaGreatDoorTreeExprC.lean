/- What page.cell, pick, binary and expr write, and what tree.Expr answers, when they are called. Conditions: as in TreePart. -/
import Derived.Test.YtfginegegaokbaaGreatDoorTreePart
import Derived.Deep.RegionWith
namespace Go.Proofs.YtfginegegaokbaaGreatDoor
open Go.ChangeShapes Go.WideShapes Go.ChangeAt Go.RowKit
set_option linter.unusedVariables false
set_option linter.unusedSimpArgs false

theorem op_cases (o : Int) : o = 0 ∨ o = 1 ∨ o = 2 ∨ o = 3 ∨ o = 4 ∨ o = 5 ∨ o = 6 ∨ o = 7 ∨ o = 8 ∨ o = 9 ∨ (¬ o = 0 ∧ ¬ o = 1 ∧ ¬ o = 2 ∧ ¬ o = 3 ∧ ¬ o = 4 ∧ ¬ o = 5 ∧ ¬ o = 6 ∧ ¬ o = 7 ∧ ¬ o = 8 ∧ ¬ o = 9) := by omega
theorem tight_any (o : Int) (w : World) :
    Calls Tryz.prog 136 #[.int .i64 o] w fun e w' => e = .returned (.int .i64 (tightN o : Int)) ∧ w' = w := by
  rcases op_cases o with rfl | rfl | rfl | rfl | rfl | rfl | rfl | rfl | rfl | rfl | ⟨e0, e1, e2, e3, e4, e5, e6, e7, e8, e9⟩
  case inr.inr.inr.inr.inr.inr.inr.inr.inr.inr =>
    have ht : tightN o = 0 := by simp [tightN, *]
    go_enter Tryz.func136, Tryz.ntmps136
    go_wp2
    go_ret
    exact ⟨by rw [ht]; rfl, rfl⟩
  all_goals
    go_enter Tryz.func136, Tryz.ntmps136
    go_wp2
    go_ret
    exact ⟨rfl, rfl⟩

theorem signs_any (o : Nat) (ho : o ≤ 9) (w : World) :
    Calls Tryz.prog 41 #[] w fun e w' => ∃ g, e = .returned (.slice (some ⟨g, 0, none⟩) 10 10) ∧ w'.cell? ⟨g, o, none⟩ = some (.string (bstr (signL o))) ∧ Below w.heap.size w w' := by
  go_enter Tryz.func41, Tryz.ntmps41
  go_wp2
  go_ret
  refine ⟨_, rfl, ?_, (Below.refl _ _).alloc (Nat.le_refl _) _⟩
  rcases op_cases o with h | h | h | h | h | h | h | h | h | h | h
  case inr.inr.inr.inr.inr.inr.inr.inr.inr.inr => omega
  all_goals
    (obtain rfl : o = _ := Int.ofNat.inj h
     simp [go_sem, signL, bstr])

set_option maxHeartbeats 4000000 in
set_option maxRecDepth 100000 in
theorem cell_of {n : Nat} (ih : ExprC n) (B b : Nat) (l : List UInt8) (d : Int) (s : ByteArray) (ks : List Tree) (v : Value) (w : World) (hP : PageAt B b l d w) (hK : Kids 0 B w (fun v' t' => ERep 0 B w n v' t') v ks) (hV : Vars B w)
    (hlen : l.length + (cellText n s ks).length ≤ 70368744177664) :
    Calls Tryz.prog 80 #[.pointer (some ⟨b, 0, none⟩), .string s, v] w (Wrote B b l d w (cellText n s ks)) := by
  have HT : Hid (l ++ cellText n s ks = l ++ bys s ++ [91] ++ epart n ks 0 0 ++ [93]) := by show _ = _; simp [cellText]
  have hl : (l ++ cellText n s ks).length ≤ 70368744177664 := by simpa using hlen
  rw [HT.out] at hl
  simp only [List.length_append, List.length_cons, List.length_nil, bys_length] at hl
  go_enter Tryz.func80, Tryz.ntmps80
  go_wp2_with (go_at_call 48; refine (writeString_any B b l d s _ hP (by omega)).mono ?_; rintro e w1 ⟨rfl, hP1, hb1⟩)
  go_wp2_with (go_at_call 51; refine (writeByte_any B b _ d 91 _ hP1.page (by simp only [List.length_append, bys_length]; omega)).mono ?_; rintro e w2 ⟨rfl, hP2, hb2⟩)
  go_wp2_with (go_at_call 81; refine (part_of ih B b _ d ks v 0 0 _ hP2.page (hK.on (hb1.trans hb2).1) (hV.on (hb1.trans hb2).1) (by omega) (by omega) (by simp only [List.length_append, bys_length, List.length_cons, List.length_nil]; omega)).mono ?_; rintro e w3 ⟨rfl, hP3, hb3⟩)
  go_wp2_with (go_at_call 51; refine (writeByte_any B b _ d 93 _ hP3 (by simp only [List.length_append, bys_length, List.length_cons, List.length_nil]; omega)).mono ?_; rintro e w4 ⟨rfl, hP4, hb4⟩)
  go_end0
  exact ⟨rfl, by rw [HT.out]; exact hP4.page, ((hb1.trans hb2).trans hb3).trans hb4⟩

set_option maxHeartbeats 4000000 in
set_option maxRecDepth 100000 in
theorem pick_of {n : Nat} (ih : ExprC n) (B b : Nat) (l : List UInt8) (d : Int) (ks : List Tree) (v : Value) (w : World) (hP : PageAt B b l d w) (hK : Kids 0 B w (fun v' t' => ERep 0 B w n v' t') v ks) (hV : Vars B w)
    (hlen : l.length + (pickText n ks).length ≤ 70368744177664) :
    Calls Tryz.prog 117 #[.pointer (some ⟨b, 0, none⟩), v] w (Wrote B b l d w (pickText n ks)) := by
  have HT : Hid (l ++ pickText n ks = l ++ bys ⟨#[112, 105, 99, 107, 40]⟩ ++ epart n ks 0 0 ++ bys ⟨#[44, 32]⟩ ++ epart n ks 1 0 ++ bys ⟨#[44, 32]⟩ ++ epart n ks 2 0 ++ [41]) := by show _ = _; simp [pickText, bys]
  have hl : (l ++ pickText n ks).length ≤ 70368744177664 := by simpa using hlen
  rw [HT.out] at hl
  simp only [List.length_append, List.length_cons, List.length_nil, bys_length] at hl
  have e1 : (ByteArray.mk #[112, 105, 99, 107, 40]).size = 5 := rfl
  have e2 : (ByteArray.mk #[44, 32]).size = 2 := rfl
  rw [e1, e2] at hl
  go_enter Tryz.func117, Tryz.ntmps117
  go_wp2_with (go_at_call 48; refine (writeString_any B b l d ⟨#[112, 105, 99, 107, 40]⟩ _ hP (by rw [e1]; omega)).mono ?_; rintro e w1 ⟨rfl, hP1, hb1⟩)
  go_wp2_with (go_at_call 81; refine (part_of ih B b _ d ks v 0 0 _ hP1.page (hK.on hb1.1) (hV.on hb1.1) (by omega) (by omega) (by simp only [List.length_append, bys_length, List.length_cons, List.length_nil, e1]; omega)).mono ?_; rintro e w2 ⟨rfl, hP2, hb2⟩)
  go_wp2_with (go_at_call 48; refine (writeString_any B b _ d ⟨#[44, 32]⟩ _ hP2 (by simp only [List.length_append, bys_length, List.length_cons, List.length_nil, e1, e2]; omega)).mono ?_; rintro e w3 ⟨rfl, hP3, hb3⟩)
  have hb13 := (hb1.trans hb2).trans hb3
  go_wp2_with (go_at_call 81; refine (part_of ih B b _ d ks v 1 0 _ hP3.page (hK.on hb13.1) (hV.on hb13.1) (by omega) (by omega) (by simp only [List.length_append, bys_length, List.length_cons, List.length_nil, e1, e2]; omega)).mono ?_; rintro e w4 ⟨rfl, hP4, hb4⟩)
  go_wp2_with (go_at_call 48; refine (writeString_any B b _ d ⟨#[44, 32]⟩ _ hP4 (by simp only [List.length_append, bys_length, List.length_cons, List.length_nil, e1, e2]; omega)).mono ?_; rintro e w5 ⟨rfl, hP5, hb5⟩)
  have hb15 := (hb13.trans hb4).trans hb5
  go_wp2_with (go_at_call 81; refine (part_of ih B b _ d ks v 2 0 _ hP5.page (hK.on hb15.1) (hV.on hb15.1) (by omega) (by omega) (by simp only [List.length_append, bys_length, List.length_cons, List.length_nil, e1, e2]; omega)).mono ?_; rintro e w6 ⟨rfl, hP6, hb6⟩)
  go_wp2_with (go_at_call 51; refine (writeByte_any B b _ d 41 _ hP6 (by simp only [List.length_append, bys_length, List.length_cons, List.length_nil, e1, e2]; omega)).mono ?_; rintro e w7 ⟨rfl, hP7, hb7⟩)
  go_end0
  exact ⟨rfl, by rw [HT.out]; exact hP7.page, (hb15.trans hb6).trans hb7⟩
end Go.Proofs.YtfginegegaokbaaGreatDoor
