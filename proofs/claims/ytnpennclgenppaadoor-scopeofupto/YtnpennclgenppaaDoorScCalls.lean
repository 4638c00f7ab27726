/- What the small functions of package scope answer. Conditions: the scope lies in memory as its texts lay it. -/
import Derived.Test.YtnpennclgenppaaDoorScRep
namespace Go.Proofs.YtnpennclgenppaaDoor
open Go.ChangeShapes Go.WideShapes Go.RowKit Go.Maps
set_option linter.unusedVariables false
set_option linter.unusedSimpArgs false

theorem below_drewq {B : Nat} {a w : World} (h : Below B a w) (q : Nat) : Below B a (w.drewN q) := ⟨h.os, h.tape, h.output, h.size, h.block⟩
def localM (l c : Int) : Mng := if 0 < c then ⟨5, l, c, ⟨#[]⟩⟩ else ⟨4, l, 0, ⟨#[]⟩⟩

set_option maxHeartbeats 1000000 in
set_option maxRecDepth 100000 in
theorem has_any {X : Nat → Prop} {bs n : Nat} {f : ByteArray → Mng} {ls : List ByteArray} {w : World} (h : ScAt X bs n f ls w) (s : ByteArray) (hs : s.size ≤ maxLen) :
    Calls Tryd.prog 13 #[.pointer (some ⟨bs, 0, none⟩), .string s] w fun e w' => e = .returned (.bool ((f s).kind != 0)) ∧ w' = w := by
  obtain ⟨hX, bm, D, lv, hm, hb, ho, hS, hr, hg, hl⟩ := h
  obtain ⟨c0, c1, _, _⟩ := sc_cells hb
  have hlk := look_run ho hS s hs
  have hfk := field_kind
  clear hr hg hl hb ho
  go_enter Tryd.func13, Tryd.ntmps13
  go_wp2
  go_ret
  simp

set_option maxHeartbeats 1000000 in
set_option maxRecDepth 100000 in
theorem mark_any {X : Nat → Prop} {bs n : Nat} {f : ByteArray → Mng} {ls : List ByteArray} {w : World} (h : ScAt X bs n f ls w) :
    Calls Tryd.prog 10 #[.pointer (some ⟨bs, 0, none⟩)] w fun e w' => e = .returned (.int .i64 ls.length) ∧ w' = w := by
  obtain ⟨hX, bm, D, lv, hm, hb, ho, hS, hr, hg, hl⟩ := h
  obtain ⟨c0, c1, _, _⟩ := sc_cells hb
  obtain ⟨ao, cap, rfl⟩ : ∃ ao cap, lv = .slice ao ls.length cap := by
    rcases hr.2 with ⟨rfl, h0⟩ | ⟨g, cap, cur, rfl, _⟩
    · exact ⟨none, 0, by rw [h0]⟩
    · exact ⟨_, _, rfl⟩
  clear hr hg hl hb ho
  go_enter Tryd.func10, Tryd.ntmps10
  go_wp2
  go_ret
  simp

set_option maxHeartbeats 1000000 in
set_option maxRecDepth 100000 in
theorem find_any {X : Nat → Prop} {bs n : Nat} {f : ByteArray → Mng} {ls : List ByteArray} {w : World} (h : ScAt X bs n f ls w) (s : ByteArray) (hs : s.size ≤ maxLen) :
    Calls Tryd.prog 11 #[.pointer (some ⟨bs, 0, none⟩), .string s] w fun e w' => e = .returned (.tuple #[.int .i64 (f s).kind, .int .i64 (f s).label, .int .i64 (f s).count, .string (f s).by_]) ∧ Below w.heap.size w w' := by
  obtain ⟨hX, bm, D, lv, hm, hb, ho, hS, hr, hg, hl⟩ := h
  obtain ⟨c0, c1, _, _⟩ := sc_cells hb
  have hlk := look_run ho hS s hs
  clear hr hg hl hb ho
  go_enter Tryd.func11, Tryd.ntmps11
  go_wp2_with fail
  go_quiet (fail)
  go_wp2
  go_returns
  refine ⟨rfl, ?_⟩
  exact below_drewq ((Below.refl _ _).alloc (Nat.le_refl _) _) _

set_option maxHeartbeats 1000000 in
set_option maxRecDepth 100000 in
theorem local_any (l c : Int) (w : World) :
    Calls Tryd.prog 17 #[.int .i64 l, .int .i64 c] w fun e w' => e = .returned (mval (localM l c)) ∧ Below w.heap.size w w' := by
  by_cases hc : 0 < c
  · have hd : decide (0 < c) = true := by simpa using hc
    go_enter Tryd.func17, Tryd.ntmps17
    go_wp2
    go_returns
    refine ⟨by unfold localM; first | rw [if_pos (by omega)] | rw [if_neg (by omega)], ?_⟩
    exact (Below.refl _ _).alloc (Nat.le_refl _) _
  · have hd : decide (0 < c) = false := by simpa using hc
    go_enter Tryd.func17, Tryd.ntmps17
    go_wp2
    go_returns
    refine ⟨by unfold localM; first | rw [if_pos (by omega)] | rw [if_neg (by omega)], ?_⟩
    exact (Below.refl _ _).alloc (Nat.le_refl _) _
end Go.Proofs.YtnpennclgenppaaDoor
