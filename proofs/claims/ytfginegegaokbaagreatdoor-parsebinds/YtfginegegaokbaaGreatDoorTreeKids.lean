/- How expressions are laid in memory by composite literals. Conditions: none. -/
import Derived.Test.YtfginegegaokbaaGreatDoorTreeEx
namespace Go.Proofs.YtfginegegaokbaaGreatDoor
open Go.ChangeShapes Go.WideShapes Go.ChangeAt Go.RowKit
set_option linter.unusedVariables false
set_option linter.unusedSimpArgs false

theorem alloc_at (w : World) (o : Obj) (k : Nat) : (w.alloc o).heap[k]? = if k = w.heap.size then some o else w.heap[k]? := by
  show (w.heap.push o)[k]? = _
  rw [Array.getElem?_push]
theorem alloc_size (w : World) (o : Obj) : (w.alloc o).heap.size = w.heap.size + 1 := by simp
def litT (v : Nat) : Tree := ⟨0, 0, ⟨#[]⟩, v, [], 0⟩
def nameT (s : ByteArray) : Tree := ⟨1, 0, s, 0, [], 0⟩
def cellT (s : ByteArray) (x : Tree) : Tree := ⟨2, 0, s, 0, [x], 0⟩
def binT (o : Int) (x y : Tree) : Tree := ⟨3, o, ⟨#[]⟩, 0, [x, y], 0⟩
def notT (x : Tree) : Tree := ⟨4, 0, ⟨#[]⟩, 0, [x], 0⟩
def pickT (x y z : Tree) : Tree := ⟨5, 0, ⟨#[]⟩, 0, [x, y, z], 0⟩

theorem kids0 {lo B : Nat} {w : World} {R : Value → Tree → Prop} : Kids lo B w R (.slice none 0 0) [] := ⟨none, 0, rfl, by simp, fun i k h => by simp at h⟩
theorem kids1 {lo B : Nat} {w : World} {R : Value → Tree → Prop} {g : Nat} {fr : Nat × Nat} {x0 x1 x2 x3 x4 x5 : Value} {x : Tree} (hg : w.heap[g]? = some (.cells #[x0, x1, x2, x3, x4, x5] 57 fr)) (hlo : lo ≤ g) (hB : g < B) (hx : R (.agg #[x0, x1, x2, x3, x4, x5]) x) :
    Kids lo B w R (.slice (some ⟨g, 0, none⟩) 1 1) [x] := by
  refine ⟨_, _, rfl, by simp, fun i k h => ?_⟩
  match i, h with
  | 0, h => simp at h; subst h; exact ⟨g, 0, x0, x1, x2, x3, x4, x5, rfl, hlo, hB, ⟨_, _, hg⟩, by simp [World.cell?, hg], by simp [World.cell?, hg], by simp [World.cell?, hg], by simp [World.cell?, hg], by simp [World.cell?, hg], by simp [World.cell?, hg], hx⟩
theorem kids2 {lo B : Nat} {w : World} {R : Value → Tree → Prop} {g : Nat} {fr : Nat × Nat} {x0 x1 x2 x3 x4 x5 y0 y1 y2 y3 y4 y5 : Value} {x y : Tree} (hg : w.heap[g]? = some (.cells #[x0, x1, x2, x3, x4, x5, y0, y1, y2, y3, y4, y5] 57 fr)) (hlo : lo ≤ g) (hB : g < B) (hx : R (.agg #[x0, x1, x2, x3, x4, x5]) x) (hy : R (.agg #[y0, y1, y2, y3, y4, y5]) y) :
    Kids lo B w R (.slice (some ⟨g, 0, none⟩) 2 2) [x, y] := by
  refine ⟨_, _, rfl, by simp, fun i k h => ?_⟩
  match i, h with
  | 0, h => simp at h; subst h; exact ⟨g, 0, x0, x1, x2, x3, x4, x5, rfl, hlo, hB, ⟨_, _, hg⟩, by simp [World.cell?, hg], by simp [World.cell?, hg], by simp [World.cell?, hg], by simp [World.cell?, hg], by simp [World.cell?, hg], by simp [World.cell?, hg], hx⟩
  | 1, h => simp at h; subst h; exact ⟨g, 0, y0, y1, y2, y3, y4, y5, rfl, hlo, hB, ⟨_, _, hg⟩, by simp [World.cell?, hg], by simp [World.cell?, hg], by simp [World.cell?, hg], by simp [World.cell?, hg], by simp [World.cell?, hg], by simp [World.cell?, hg], hy⟩
theorem kids3 {lo B : Nat} {w : World} {R : Value → Tree → Prop} {g : Nat} {fr : Nat × Nat} {x0 x1 x2 x3 x4 x5 y0 y1 y2 y3 y4 y5 z0 z1 z2 z3 z4 z5 : Value} {x y z : Tree} (hg : w.heap[g]? = some (.cells #[x0, x1, x2, x3, x4, x5, y0, y1, y2, y3, y4, y5, z0, z1, z2, z3, z4, z5] 57 fr)) (hlo : lo ≤ g) (hB : g < B) (hx : R (.agg #[x0, x1, x2, x3, x4, x5]) x) (hy : R (.agg #[y0, y1, y2, y3, y4, y5]) y) (hz : R (.agg #[z0, z1, z2, z3, z4, z5]) z) :
    Kids lo B w R (.slice (some ⟨g, 0, none⟩) 3 3) [x, y, z] := by
  refine ⟨_, _, rfl, by simp, fun i k h => ?_⟩
  match i, h with
  | 0, h => simp at h; subst h; exact ⟨g, 0, x0, x1, x2, x3, x4, x5, rfl, hlo, hB, ⟨_, _, hg⟩, by simp [World.cell?, hg], by simp [World.cell?, hg], by simp [World.cell?, hg], by simp [World.cell?, hg], by simp [World.cell?, hg], by simp [World.cell?, hg], hx⟩
  | 1, h => simp at h; subst h; exact ⟨g, 0, y0, y1, y2, y3, y4, y5, rfl, hlo, hB, ⟨_, _, hg⟩, by simp [World.cell?, hg], by simp [World.cell?, hg], by simp [World.cell?, hg], by simp [World.cell?, hg], by simp [World.cell?, hg], by simp [World.cell?, hg], hy⟩
  | 2, h => simp at h; subst h; exact ⟨g, 0, z0, z1, z2, z3, z4, z5, rfl, hlo, hB, ⟨_, _, hg⟩, by simp [World.cell?, hg], by simp [World.cell?, hg], by simp [World.cell?, hg], by simp [World.cell?, hg], by simp [World.cell?, hg], by simp [World.cell?, hg], hz⟩

theorem erep_lit {lo B : Nat} {w : World} {n v : Nat} (h : v < 18446744073709551616) : ERep lo B w (n + 1) (.agg #[.int .i64 0, .int .i64 0, .string ⟨#[]⟩, .int .u64 v, .slice none 0 0, .int .i64 0]) (litT v) := ⟨h, _, rfl, kids0⟩
theorem erep_name {lo B : Nat} {w : World} {n : Nat} (s : ByteArray) : ERep lo B w (n + 1) (.agg #[.int .i64 1, .int .i64 0, .string s, .int .u64 0, .slice none 0 0, .int .i64 0]) (nameT s) := ⟨by simp [nameT], _, rfl, kids0⟩
end Go.Proofs.YtfginegegaokbaaGreatDoor
