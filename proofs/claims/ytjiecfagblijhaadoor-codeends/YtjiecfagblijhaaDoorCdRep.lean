/- Layer 12 in memory: slices of numbers that a call has made; what Defines, Jumps, Uses, offset, touched, and the statements' own sets, uses, same answer. Conditions: as each theorem says. -/
import Derived.Test.YtjiecfagblijhaaDoorCdPlain
import Derived.Test.YtjiecfagblijhaaDoorRows
import Derived.WalkKit
import Derived.ProofKit
import Derived.OpenShut
import Derived.RegionTactic
import Derived.Maps.AppendAt
import Derived.BigCall
import Derived.BigQuiet
import Derived.BigGuard
import Derived.RegionCalls
import Derived.Deep.RegionWith
import Derived.Deep.RegionLaw
import Derived.Deep.AppendLies
import Derived.Lib.Hide
import Derived.Lib.Builder
namespace Go.Proofs.YtjiecfagblijhaaDoor.Cd
open Go.ChangeShapes Go.WideShapes Go.ChangeAt Go.RowKit
set_option linter.unusedVariables false
set_option linter.unusedSimpArgs false

theorem ret_int {k : IntKind} {a b : Int} (h : a = b) : Ending.returned (.int k a) = .returned (.int k b) := by rw [h]
theorem ret_bool {a b : Bool} (h : a = b) : Ending.returned (.bool a) = .returned (.bool b) := by rw [h]
theorem heap_lt {w : World} {k : Nat} {o : Obj} (h : w.heap[k]? = some o) : k < w.heap.size := (Array.getElem?_eq_some_iff.1 h).1
theorem alloc_size (w : World) (o : Obj) : (w.alloc o).heap.size = w.heap.size + 1 := by simp
theorem alloc_at (w : World) (o : Obj) (k : Nat) : (w.alloc o).heap[k]? = if k = w.heap.size then some o else w.heap[k]? := by
  show (w.heap.push o)[k]? = _
  rw [Array.getElem?_push]

/-- Numbers in a slice that was made from block B on. -/
def Own (w : World) (B : Nat) (v : Value) (zs : List Int) : Prop := w.ownsRow B 3 1 v zs.length (zs.map (Value.int .i64))
theorem Own.nil (w : World) (B : Nat) : Own w B (.slice none 0 0) [] := World.ownsRow_nil _ _ _ _
theorem Own.on {w w' : World} {B : Nat} {v : Value} {zs : List Int} (h : Own w B v zs) (hb : Below w.heap.size w w') : Own w' B v zs :=
  World.ownsRow.kept (row := none) h ⟨hb.os, hb.tape, hb.output, hb.size, fun k hk _ => hb.block k hk⟩ (by cases v.ownBlock <;> simp)
theorem Own.base {w : World} {B B' : Nat} {v : Value} {zs : List Int} (h : Own w B v zs) (hB : B' ≤ B) : Own w B' v zs := by
  refine ⟨h.1, ?_⟩
  rcases h.2 with hn | ⟨g, cap, cur, hv, hb, r⟩
  · exact .inl hn
  · exact .inr ⟨g, cap, cur, hv, Nat.le_trans hB hb, r⟩
theorem Own.new {W : World} {B : Nat} (zs : List Int) (hB : B ≤ W.heap.size) (hm : zs.length ≤ 1000) : Own (W.alloc (.cells (zs.map (Value.int .i64)).toArray 3)) B (.slice (some ⟨W.heap.size, 0, none⟩) zs.length zs.length) zs :=
  ⟨by simp, .inr ⟨W.heap.size, zs.length, (zs.map (Value.int .i64)).toArray, rfl, hB, by rw [alloc_at, if_pos rfl], Nat.le_refl _, by unfold maxLen; omega, by simp, by simp [List.take_of_length_le]⟩⟩
/-- How it is read. -/
theorem Own.form {w : World} {B : Nat} {v : Value} {zs : List Int} (h : Own w B v zs) :
    ∃ ao cap, v = .slice ao zs.length cap ∧ zs.length ≤ maxLen ∧ ∀ k z, zs[k]? = some z → ∃ g, ao = some ⟨g, 0, none⟩ ∧ B ≤ g ∧ g < w.heap.size ∧ w.cell? ⟨g, k, none⟩ = some (.int .i64 z) := by
  rcases h.2 with ⟨rfl, h0⟩ | ⟨g, cap, cur, rfl, hb, hg, hn, hc, hs, ht⟩
  · obtain rfl : zs = [] := List.length_eq_zero_iff.1 h0
    exact ⟨none, 0, rfl, by unfold maxLen; simp, fun k z hz => by simp at hz⟩
  · refine ⟨_, cap, rfl, by omega, fun k z hz => ⟨g, rfl, hb, heap_lt hg, ?_⟩⟩
    rw [Lib.cell_of_heap hg]
    have hk : k < zs.length := (List.getElem?_eq_some_iff.1 hz).1
    have e : (cur.toList.take (zs.length * 1))[k]? = some (.int .i64 z) := by rw [ht]; simp [hz]
    rw [List.getElem?_take_of_lt (by omega)] at e
    simpa using e

set_option maxHeartbeats 2000000 in
set_option maxRecDepth 100000 in
theorem defines_any (x : Cd) (w : World) : Calls Tryd.prog 9 #[.agg #[.int .i64 x.op, .int .i64 x.dop, .int .i64 x.to, .int .i64 x.a, .int .i64 x.b, .int .i64 x.c, .int .u64 x.v, .int .i64 x.t]] w fun e w' => e = .returned (.tuple #[.int .i64 (if setsB x.op then x.to else 0), .bool (setsB x.op)]) ∧ Below w.heap.size w w' := by
  obtain ⟨op, dop, to, a, b, c, v, t⟩ := x
  have hb1 := fun o => (Below.refl w.heap.size w).alloc (Nat.le_refl _) o
  rcases kinds op with rfl | rfl | rfl | rfl | rfl | rfl | rfl | rfl | rfl | rfl | rfl | rfl | rfl | rfl | ⟨e0, e1, e2, e3, e4, e5, e6, e7, e8, e9, e10, e11, e12, e13⟩
  case inr.inr.inr.inr.inr.inr.inr.inr.inr.inr.inr.inr.inr.inr =>
    have hs : setsB op = false := by simp [setsB, *]
    simp only [hs]
    go_enter Tryd.func9, Tryd.ntmps9
    go_wp2
    go_ret2
    exact ⟨rfl, hb1 _⟩
  all_goals
    go_enter Tryd.func9, Tryd.ntmps9
    go_wp2
    go_ret2
    exact ⟨rfl, hb1 _⟩

set_option maxHeartbeats 2000000 in
set_option maxRecDepth 100000 in
theorem jumps_any (x : Cd) (w : World) : Calls Tryd.prog 10 #[.agg #[.int .i64 x.op, .int .i64 x.dop, .int .i64 x.to, .int .i64 x.a, .int .i64 x.b, .int .i64 x.c, .int .u64 x.v, .int .i64 x.t]] w fun e w' => e = .returned (.tuple #[.bool (jumpsB x.op), .bool (goesB x.op)]) ∧ Below w.heap.size w w' := by
  obtain ⟨op, dop, to, a, b, c, v, t⟩ := x
  have hb1 := fun o => (Below.refl w.heap.size w).alloc (Nat.le_refl _) o
  rcases (show op = 6 ∨ op = 7 ∨ op = 13 ∨ (op ≠ 6 ∧ op ≠ 7 ∧ op ≠ 13) by omega) with rfl | rfl | rfl | ⟨e0, e1, e2⟩
  case inr.inr.inr =>
    have hs : jumpsB op = false := by simp [jumpsB, *]
    have hs2 : goesB op = true := by simp [goesB, *]
    simp only [hs, hs2]
    go_enter Tryd.func10, Tryd.ntmps10
    go_wp2
    go_ret2
    exact ⟨rfl, hb1 _⟩
  all_goals
    go_enter Tryd.func10, Tryd.ntmps10
    go_wp2
    go_ret2
    exact ⟨rfl, hb1 _⟩

set_option maxHeartbeats 2000000 in
set_option maxRecDepth 100000 in
theorem sets_any (x : Cd) (w : World) : Calls Tryd.prog 11 #[.agg #[.int .i64 x.op, .int .i64 x.dop, .int .i64 x.to, .int .i64 x.a, .int .i64 x.b, .int .i64 x.c, .int .u64 x.v, .int .i64 x.t]] w fun e w' => e = .returned (.bool (setsB x.op)) ∧ Below w.heap.size w w' := by
  obtain ⟨op, dop, to, a, b, c, v, t⟩ := x
  have hb1 := fun o => (Below.refl w.heap.size w).alloc (Nat.le_refl _) o
  rcases (show op = 0 ∨ op = 1 ∨ op = 2 ∨ op = 3 ∨ op = 4 ∨ (op ≠ 0 ∧ op ≠ 1 ∧ op ≠ 2 ∧ op ≠ 3 ∧ op ≠ 4) by omega) with rfl | rfl | rfl | rfl | rfl | ⟨e0, e1, e2, e3, e4⟩
  case inr.inr.inr.inr.inr =>
    have hs : setsB op = false := by simp [setsB, *]
    simp only [hs]
    go_enter Tryd.func11, Tryd.ntmps11
    go_wp2
    go_ret
    exact ⟨ret_bool (by simp [*]), hb1 _⟩
  all_goals
    go_enter Tryd.func11, Tryd.ntmps11
    go_wp2
    go_ret
    exact ⟨rfl, hb1 _⟩

/-- A number in a slice of its own. -/
def OneAt (w : World) (a : Int) (v : Value) : Prop := ∃ g, v = .slice (some ⟨g, 0, none⟩) 1 1 ∧ w.heap[g]? = some (.cells #[.int .i64 a] 3 (0, 0))
theorem OneAt.on {w w' : World} {a : Int} {v : Value} (h : OneAt w a v) (hb : Below w.heap.size w w') : OneAt w' a v := by
  obtain ⟨g, h1, h2⟩ := h
  exact ⟨g, h1, (hb.block g (heap_lt h2)).trans h2⟩
theorem OneAt.new (w : World) (a : Int) : OneAt (w.alloc (.cells #[.int .i64 a] 3)) a (.slice (some ⟨w.heap.size, 0, none⟩) 1 1) := ⟨_, rfl, by rw [alloc_at, if_pos rfl]⟩
def OffAt (w : World) (B : Nat) (a : Int) (v : Value) : Prop := Own w B v (offP a) ∧ (a < 0 → v = .slice none 0 0) ∧ (¬ a < 0 → OneAt w a v)
theorem OffAt.own {w : World} {B : Nat} {a : Int} {v : Value} (h : OffAt w B a v) : Own w B v (offP a) := h.1
theorem OffAt.neg {w : World} {B : Nat} {a : Int} {v : Value} (h : OffAt w B a v) (ha : a < 0) : v = .slice none 0 0 := h.2.1 ha
theorem OffAt.pos {w : World} {B : Nat} {a : Int} {v : Value} (h : OffAt w B a v) (ha : ¬ a < 0) : OneAt w a v := h.2.2 ha
set_option maxHeartbeats 2000000 in
set_option maxRecDepth 100000 in
theorem offset_any (x : Cd) (w : World) : Calls Tryd.prog 22 #[.agg #[.int .i64 x.op, .int .i64 x.dop, .int .i64 x.to, .int .i64 x.a, .int .i64 x.b, .int .i64 x.c, .int .u64 x.v, .int .i64 x.t]] w fun e w' => ∃ v, e = .returned v ∧ OffAt w' w.heap.size x.a v ∧ Below w.heap.size w w' := by
  obtain ⟨op, dop, to, a, b, c, v, t⟩ := x
  have hb1 := fun o => (Below.refl w.heap.size w).alloc (Nat.le_refl _) o
  have hb2 := fun o o2 => (hb1 o).alloc (show w.heap.size ≤ (w.alloc o).heap.size by rw [alloc_size]; omega) o2
  have hoN : a < 0 → ∀ w', OffAt w' w.heap.size a (.slice none 0 0) := fun ha w' => ⟨by rw [offP, if_pos ha]; exact Own.nil _ _, fun _ => rfl, fun h => absurd ha h⟩
  have hoP : ¬ a < 0 → ∀ o, OffAt ((w.alloc o).alloc (.cells #[.int .i64 a] 3)) w.heap.size a (.slice (some ⟨w.heap.size + 1, 0, none⟩) 1 1) := fun ha o => by
    have h1 := Own.new (W := w.alloc o) (B := w.heap.size) [a] (by simp) (by simp)
    have h2 := OneAt.new (w.alloc o) a
    rw [alloc_size] at h1 h2
    exact ⟨by rw [offP, if_neg ha]; exact h1, fun h => absurd h ha, fun _ => h2⟩
  by_cases ha : a < 0
  · have HN := Lib.hid (hoN ha)
    clear hoN hoP
    go_enter Tryd.func22, Tryd.ntmps22
    go_wp2
    go_ret
    exact ⟨_, rfl, HN.out _, hb1 _⟩
  · have HP := Lib.hid (hoP ha)
    clear hoN hoP
    go_enter Tryd.func22, Tryd.ntmps22
    go_wp2
    go_ret
    exact ⟨_, rfl, HP.out _, hb2 _ _⟩

theorem uses_new {w : World} {o : Obj} (zs : List Int) (hm : zs.length ≤ 1000) : Own ((w.alloc o).alloc (.cells (zs.map (Value.int .i64)).toArray 3)) w.heap.size (.slice (some ⟨w.heap.size + 1, 0, none⟩) zs.length zs.length) zs := by
  have := Own.new (W := w.alloc o) (B := w.heap.size) zs (by simp) hm
  rwa [alloc_size] at this

set_option maxHeartbeats 2000000 in
set_option maxRecDepth 100000 in
theorem luses_any (x : Cd) (w : World) : Calls Tryd.prog 14 #[.agg #[.int .i64 x.op, .int .i64 x.dop, .int .i64 x.to, .int .i64 x.a, .int .i64 x.b, .int .i64 x.c, .int .u64 x.v, .int .i64 x.t]] w fun e w' => ∃ v, e = .returned v ∧ Own w' w.heap.size v (usesP x) ∧ Below w.heap.size w w' := by
  obtain ⟨op, dop, to, a, b, c, v, t⟩ := x
  have hb1 := fun o => (Below.refl w.heap.size w).alloc (Nat.le_refl _) o
  have hb2 := fun o o2 => (hb1 o).alloc (show w.heap.size ≤ (w.alloc o).heap.size by rw [alloc_size]; omega) o2
  rcases (show op = 1 ∨ op = 7 ∨ op = 10 ∨ op = 12 ∨ op = 2 ∨ op = 3 ∨ op = 4 ∨ op = 5 ∨ (op ≠ 1 ∧ op ≠ 7 ∧ op ≠ 10 ∧ op ≠ 12 ∧ op ≠ 2 ∧ op ≠ 3 ∧ op ≠ 4 ∧ op ≠ 5) by omega) with rfl | rfl | rfl | rfl | rfl | rfl | rfl | rfl | ⟨e0, e1, e2, e3, e4, e5, e6, e7⟩
  case inr.inr.inr.inr.inr.inr.inr.inr =>
    have hs : usesP ⟨op, dop, to, a, b, c, v, t⟩ = [] := by simp [usesP, *]
    rw [hs]
    go_enter Tryd.func14, Tryd.ntmps14
    go_wp2
    go_ret
    exact ⟨_, rfl, Own.nil _ _, hb1 _⟩
  case inr.inr.inr.inr.inr.inr.inl =>
    by_cases ha : a < 0
    · have hs : usesP ⟨4, dop, to, a, b, c, v, t⟩ = [] := by simp [usesP, *]
      rw [hs]
      go_enter Tryd.func14, Tryd.ntmps14
      go_wp2
      go_ret
      exact ⟨_, rfl, Own.nil _ _, hb1 _⟩
    · have hs : usesP ⟨4, dop, to, a, b, c, v, t⟩ = [a] := by simp [usesP, *]
      rw [hs]
      go_enter Tryd.func14, Tryd.ntmps14
      go_wp2
      go_ret
      exact ⟨_, rfl, uses_new [a] (by simp), hb2 _ _⟩
  case inr.inr.inr.inr.inr.inr.inr.inl =>
    by_cases ha : a < 0
    · have hs : usesP ⟨5, dop, to, a, b, c, v, t⟩ = [b] := by simp [usesP, *]
      rw [hs]
      go_enter Tryd.func14, Tryd.ntmps14
      go_wp2
      go_ret
      exact ⟨_, rfl, uses_new [b] (by simp), hb2 _ _⟩
    · have hs : usesP ⟨5, dop, to, a, b, c, v, t⟩ = [a, b] := by simp [usesP, *]
      rw [hs]
      go_enter Tryd.func14, Tryd.ntmps14
      go_wp2
      go_ret
      exact ⟨_, rfl, uses_new [a, b] (by simp), hb2 _ _⟩
  all_goals
    go_enter Tryd.func14, Tryd.ntmps14
    go_wp2
    go_ret
    first
      | exact ⟨_, rfl, uses_new [a] (by simp), hb2 _ _⟩
      | exact ⟨_, rfl, uses_new [a, b] (by simp), hb2 _ _⟩
      | exact ⟨_, rfl, uses_new [a, b, c] (by simp), hb2 _ _⟩

end Go.Proofs.YtjiecfagblijhaaDoor.Cd
