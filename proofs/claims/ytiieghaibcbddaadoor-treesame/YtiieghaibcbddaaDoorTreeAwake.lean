/- What the statements' own awake answers, and how expressions are laid in memory by composite literals. Conditions: the table of powers holds what its initialiser lays. -/
import Derived.Test.YtiieghaibcbddaaDoorTreeEx
namespace Go.Proofs.YtiieghaibcbddaaDoor
open Go.ChangeShapes Go.WideShapes Go.ChangeAt Go.RowKit
set_option linter.unusedVariables false
set_option linter.unusedSimpArgs false

def litT (v : Nat) : Tree := ⟨0, 0, ⟨#[]⟩, v, [], 0⟩
def nameT (s : ByteArray) : Tree := ⟨1, 0, s, 0, [], 0⟩
def cellT (s : ByteArray) (x : Tree) : Tree := ⟨2, 0, s, 0, [x], 0⟩
def binT (o : Int) (x y : Tree) : Tree := ⟨3, o, ⟨#[]⟩, 0, [x, y], 0⟩
def notT (x : Tree) : Tree := ⟨4, 0, ⟨#[]⟩, 0, [x], 0⟩
def pickT (x y z : Tree) : Tree := ⟨5, 0, ⟨#[]⟩, 0, [x, y, z], 0⟩

theorem kids0 {lo B : Nat} {w : World} {R : Value → Tree → Prop} : Kids lo B w R (.slice none 0 0) [] := ⟨none, 0, rfl, by simp, fun i k h => by simp at h⟩
theorem kids1 {lo B : Nat} {w : World} {R : Value → Tree → Prop} {g : Nat} {fr : Nat × Nat} {x0 x1 x2 x3 x4 x5 : Value} {x : Tree} (hg : w.heap[g]? = some (.cells #[x0, x1, x2, x3, x4, x5] 44 fr)) (hlo : lo ≤ g) (hB : g < B) (hx : R (.agg #[x0, x1, x2, x3, x4, x5]) x) :
    Kids lo B w R (.slice (some ⟨g, 0, none⟩) 1 1) [x] := by
  refine ⟨_, _, rfl, by simp, fun i k h => ?_⟩
  match i, h with
  | 0, h => simp at h; subst h; exact ⟨g, 0, x0, x1, x2, x3, x4, x5, rfl, hlo, hB, ⟨_, _, hg⟩, by simp [World.cell?, hg], by simp [World.cell?, hg], by simp [World.cell?, hg], by simp [World.cell?, hg], by simp [World.cell?, hg], by simp [World.cell?, hg], hx⟩
theorem kids2 {lo B : Nat} {w : World} {R : Value → Tree → Prop} {g : Nat} {fr : Nat × Nat} {x0 x1 x2 x3 x4 x5 y0 y1 y2 y3 y4 y5 : Value} {x y : Tree} (hg : w.heap[g]? = some (.cells #[x0, x1, x2, x3, x4, x5, y0, y1, y2, y3, y4, y5] 44 fr)) (hlo : lo ≤ g) (hB : g < B) (hx : R (.agg #[x0, x1, x2, x3, x4, x5]) x) (hy : R (.agg #[y0, y1, y2, y3, y4, y5]) y) :
    Kids lo B w R (.slice (some ⟨g, 0, none⟩) 2 2) [x, y] := by
  refine ⟨_, _, rfl, by simp, fun i k h => ?_⟩
  match i, h with
  | 0, h => simp at h; subst h; exact ⟨g, 0, x0, x1, x2, x3, x4, x5, rfl, hlo, hB, ⟨_, _, hg⟩, by simp [World.cell?, hg], by simp [World.cell?, hg], by simp [World.cell?, hg], by simp [World.cell?, hg], by simp [World.cell?, hg], by simp [World.cell?, hg], hx⟩
  | 1, h => simp at h; subst h; exact ⟨g, 0, y0, y1, y2, y3, y4, y5, rfl, hlo, hB, ⟨_, _, hg⟩, by simp [World.cell?, hg], by simp [World.cell?, hg], by simp [World.cell?, hg], by simp [World.cell?, hg], by simp [World.cell?, hg], by simp [World.cell?, hg], hy⟩
theorem kids3 {lo B : Nat} {w : World} {R : Value → Tree → Prop} {g : Nat} {fr : Nat × Nat} {x0 x1 x2 x3 x4 x5 y0 y1 y2 y3 y4 y5 z0 z1 z2 z3 z4 z5 : Value} {x y z : Tree} (hg : w.heap[g]? = some (.cells #[x0, x1, x2, x3, x4, x5, y0, y1, y2, y3, y4, y5, z0, z1, z2, z3, z4, z5] 44 fr)) (hlo : lo ≤ g) (hB : g < B) (hx : R (.agg #[x0, x1, x2, x3, x4, x5]) x) (hy : R (.agg #[y0, y1, y2, y3, y4, y5]) y) (hz : R (.agg #[z0, z1, z2, z3, z4, z5]) z) :
    Kids lo B w R (.slice (some ⟨g, 0, none⟩) 3 3) [x, y, z] := by
  refine ⟨_, _, rfl, by simp, fun i k h => ?_⟩
  match i, h with
  | 0, h => simp at h; subst h; exact ⟨g, 0, x0, x1, x2, x3, x4, x5, rfl, hlo, hB, ⟨_, _, hg⟩, by simp [World.cell?, hg], by simp [World.cell?, hg], by simp [World.cell?, hg], by simp [World.cell?, hg], by simp [World.cell?, hg], by simp [World.cell?, hg], hx⟩
  | 1, h => simp at h; subst h; exact ⟨g, 0, y0, y1, y2, y3, y4, y5, rfl, hlo, hB, ⟨_, _, hg⟩, by simp [World.cell?, hg], by simp [World.cell?, hg], by simp [World.cell?, hg], by simp [World.cell?, hg], by simp [World.cell?, hg], by simp [World.cell?, hg], hy⟩
  | 2, h => simp at h; subst h; exact ⟨g, 0, z0, z1, z2, z3, z4, z5, rfl, hlo, hB, ⟨_, _, hg⟩, by simp [World.cell?, hg], by simp [World.cell?, hg], by simp [World.cell?, hg], by simp [World.cell?, hg], by simp [World.cell?, hg], by simp [World.cell?, hg], hz⟩

theorem erep_lit {lo B : Nat} {w : World} {n v : Nat} (h : v < 18446744073709551616) : ERep lo B w (n + 1) (.agg #[.int .i64 0, .int .i64 0, .string ⟨#[]⟩, .int .u64 v, .slice none 0 0, .int .i64 0]) (litT v) := ⟨h, _, rfl, kids0⟩
theorem erep_name {lo B : Nat} {w : World} {n : Nat} (s : ByteArray) : ERep lo B w (n + 1) (.agg #[.int .i64 1, .int .i64 0, .string s, .int .u64 0, .slice none 0 0, .int .i64 0]) (nameT s) := ⟨by simp [nameT], _, rfl, kids0⟩

/-- tree.Expr, where its text is known. -/
theorem treeExpr_at (n : Nat) (t : Tree) (v : Value) (p : Nat) (x : List UInt8) (w : World) (hE : ERep 0 w.heap.size w n v t) (hV : Vars w.heap.size w) (hp : p ≤ 100) (hx : etext n t p = x) (hne : x ≠ []) (hlen : x.length ≤ 70368744177664) :
    Calls Tryd.prog 8 #[v, .int .i64 p] w fun e w' => e = .returned (.string (bstr x)) ∧ Below w.heap.size w w' := by
  subst hx
  exact treeExpr_any n t v p w hE hV hp hne hlen

def three : Tree := binT 2 (binT 0 (nameT ⟨#[97]⟩) (nameT ⟨#[98]⟩)) (litT 3)
def less : Tree := binT 1 (nameT ⟨#[97]⟩) (binT 1 (nameT ⟨#[98]⟩) (nameT ⟨#[99]⟩))
theorem three_text : etext 3 three 0 = [40, 97, 32, 43, 32, 98, 41, 32, 42, 32, 51] := by
  simp [three, binT, nameT, litT, etext, tightN, signL, bys, Lib.decDigits_one]
theorem less_text : etext 3 less 0 = [97, 32, 45, 32, 40, 98, 32, 45, 32, 99, 41] := by
  simp [less, binT, nameT, etext, tightN, signL, bys]

theorem alloc_at (w : World) (o : Obj) (k : Nat) : (w.alloc o).heap[k]? = if k = w.heap.size then some o else w.heap[k]? := by
  show (w.heap.push o)[k]? = _
  rw [Array.getElem?_push]
theorem alloc_size (w : World) (o : Obj) : (w.alloc o).heap.size = w.heap.size + 1 := by simp
/-- The world in which awake asks first. -/
@[reducible] def awakeW (w : World) : World := ((((((((((w.alloc (.cells #[.int .i64 1, .int .i64 0, .string ⟨#[97]⟩, .int .u64 0, .slice none 0 0, .int .i64 0] 44)).alloc (.cells #[.int .i64 1, .int .i64 0, .string ⟨#[98]⟩, .int .u64 0, .slice none 0 0, .int .i64 0] 44)).alloc (.cells #[.int .i64 1, .int .i64 0, .string ⟨#[99]⟩, .int .u64 0, .slice none 0 0, .int .i64 0] 44)).alloc (.cells #[.int .i64 1, .int .i64 0, .string ⟨#[97]⟩, .int .u64 0, .slice none 0 0, .int .i64 0, .int .i64 1, .int .i64 0, .string ⟨#[98]⟩, .int .u64 0, .slice none 0 0, .int .i64 0] 44)).alloc (.cells #[.int .i64 3, .int .i64 0, .string ⟨#[]⟩, .int .u64 0, .slice (some ⟨w.heap.size + 1 + 1 + 1, 0, none⟩) 2 2, .int .i64 0] 44)).alloc (.cells #[.int .i64 3, .int .i64 0, .string ⟨#[]⟩, .int .u64 0, .slice (some ⟨w.heap.size + 1 + 1 + 1, 0, none⟩) 2 2, .int .i64 0, .int .i64 0, .int .i64 0, .string ⟨#[]⟩, .int .u64 3, .slice none 0 0, .int .i64 0] 44)).alloc (.cells #[.int .i64 3, .int .i64 2, .string ⟨#[]⟩, .int .u64 0, .slice (some ⟨w.heap.size + 1 + 1 + 1 + 1 + 1, 0, none⟩) 2 2, .int .i64 0] 44)).alloc (.cells #[.int .i64 1, .int .i64 0, .string ⟨#[98]⟩, .int .u64 0, .slice none 0 0, .int .i64 0, .int .i64 1, .int .i64 0, .string ⟨#[99]⟩, .int .u64 0, .slice none 0 0, .int .i64 0] 44)).alloc (.cells #[.int .i64 1, .int .i64 0, .string ⟨#[97]⟩, .int .u64 0, .slice none 0 0, .int .i64 0, .int .i64 3, .int .i64 1, .string ⟨#[]⟩, .int .u64 0, .slice (some ⟨w.heap.size + 1 + 1 + 1 + 1 + 1 + 1 + 1, 0, none⟩) 2 2, .int .i64 0] 44)).alloc (.cells #[.int .i64 3, .int .i64 1, .string ⟨#[]⟩, .int .u64 0, .slice (some ⟨w.heap.size + 1 + 1 + 1 + 1 + 1 + 1 + 1 + 1, 0, none⟩) 2 2, .int .i64 0] 44))
theorem awakeW_3 (w : World) : (awakeW w).heap[w.heap.size + 1 + 1 + 1]? = some (.cells #[.int .i64 1, .int .i64 0, .string ⟨#[97]⟩, .int .u64 0, .slice none 0 0, .int .i64 0, .int .i64 1, .int .i64 0, .string ⟨#[98]⟩, .int .u64 0, .slice none 0 0, .int .i64 0] 44 (0, 0)) := by
  simp only [awakeW, alloc_at, alloc_size]
  simp
theorem awakeW_5 (w : World) : (awakeW w).heap[w.heap.size + 1 + 1 + 1 + 1 + 1]? = some (.cells #[.int .i64 3, .int .i64 0, .string ⟨#[]⟩, .int .u64 0, .slice (some ⟨w.heap.size + 1 + 1 + 1, 0, none⟩) 2 2, .int .i64 0, .int .i64 0, .int .i64 0, .string ⟨#[]⟩, .int .u64 3, .slice none 0 0, .int .i64 0] 44 (0, 0)) := by
  simp only [awakeW, alloc_at, alloc_size]
  simp
theorem awakeW_7 (w : World) : (awakeW w).heap[w.heap.size + 1 + 1 + 1 + 1 + 1 + 1 + 1]? = some (.cells #[.int .i64 1, .int .i64 0, .string ⟨#[98]⟩, .int .u64 0, .slice none 0 0, .int .i64 0, .int .i64 1, .int .i64 0, .string ⟨#[99]⟩, .int .u64 0, .slice none 0 0, .int .i64 0] 44 (0, 0)) := by
  simp only [awakeW, alloc_at, alloc_size]
  simp
theorem awakeW_8 (w : World) : (awakeW w).heap[w.heap.size + 1 + 1 + 1 + 1 + 1 + 1 + 1 + 1]? = some (.cells #[.int .i64 1, .int .i64 0, .string ⟨#[97]⟩, .int .u64 0, .slice none 0 0, .int .i64 0, .int .i64 3, .int .i64 1, .string ⟨#[]⟩, .int .u64 0, .slice (some ⟨w.heap.size + 1 + 1 + 1 + 1 + 1 + 1 + 1, 0, none⟩) 2 2, .int .i64 0] 44 (0, 0)) := by
  simp only [awakeW, alloc_at, alloc_size]
  simp
theorem awakeW_9 (w : World) : (awakeW w).heap[w.heap.size + 1 + 1 + 1 + 1 + 1 + 1 + 1 + 1 + 1]? = some (.cells #[.int .i64 3, .int .i64 1, .string ⟨#[]⟩, .int .u64 0, .slice (some ⟨w.heap.size + 1 + 1 + 1 + 1 + 1 + 1 + 1 + 1, 0, none⟩) 2 2, .int .i64 0] 44 (0, 0)) := by
  simp only [awakeW, alloc_at, alloc_size]
  simp
theorem awakeW_size (w : World) : (awakeW w).heap.size = w.heap.size + 10 := by simp [awakeW]
theorem awakeW_below (w : World) : Below w.heap.size w (awakeW w) :=
  (((((((((((Below.refl _ w).alloc (Nat.le_refl _) _).alloc (by simp only [alloc_size]; omega) _).alloc (by simp only [alloc_size]; omega) _).alloc (by simp only [alloc_size]; omega) _).alloc (by simp only [alloc_size]; omega) _).alloc (by simp only [alloc_size]; omega) _).alloc (by simp only [alloc_size]; omega) _).alloc (by simp only [alloc_size]; omega) _).alloc (by simp only [alloc_size]; omega) _).alloc (by simp only [alloc_size]; omega) _)
theorem three_rep (w : World) : ERep 0 (awakeW w).heap.size (awakeW w) 3 (.agg #[.int .i64 3, .int .i64 2, .string ⟨#[]⟩, .int .u64 0, .slice (some ⟨w.heap.size + 1 + 1 + 1 + 1 + 1, 0, none⟩) 2 2, .int .i64 0]) three := by
  have hs := awakeW_size w
  exact ⟨by simp [three, binT], _, rfl, kids2 (awakeW_5 w) (Nat.zero_le _) (by rw [hs]; omega) ⟨by simp [binT], _, rfl, kids2 (awakeW_3 w) (Nat.zero_le _) (by rw [hs]; omega) (erep_name _) (erep_name _)⟩ (erep_lit (n := 1) (v := 3) (by omega))⟩
theorem less_rep (w : World) : ERep 0 (awakeW w).heap.size (awakeW w) 3 (.agg #[.int .i64 3, .int .i64 1, .string ⟨#[]⟩, .int .u64 0, .slice (some ⟨w.heap.size + 1 + 1 + 1 + 1 + 1 + 1 + 1 + 1, 0, none⟩) 2 2, .int .i64 0]) less := by
  have hs := awakeW_size w
  exact ⟨by simp [less, binT], _, rfl, kids2 (awakeW_8 w) (Nat.zero_le _) (by rw [hs]; omega) (erep_name _) ⟨by simp [binT], _, rfl, kids2 (awakeW_7 w) (Nat.zero_le _) (by rw [hs]; omega) (erep_name _) (erep_name _)⟩⟩
theorem awake_first (w : World) (hV : Vars w.heap.size w) :
    Calls Tryd.prog 8 #[.agg #[.int .i64 3, .int .i64 2, .string ⟨#[]⟩, .int .u64 0, .slice (some ⟨w.heap.size + 1 + 1 + 1 + 1 + 1, 0, none⟩) 2 2, .int .i64 0], .int .i64 0] (awakeW w) fun e w' => e = .returned (.string ⟨#[40, 97, 32, 43, 32, 98, 41, 32, 42, 32, 51]⟩) ∧ Below (awakeW w).heap.size (awakeW w) w' :=
  treeExpr_at 3 three _ 0 _ _ (three_rep w) ((hV.on (awakeW_below w)).mono (awakeW_below w).size) (by omega) three_text (by simp) (by simp)
theorem awake_second (w w1 : World) (hV : Vars w.heap.size w) (hb : Below (awakeW w).heap.size (awakeW w) w1) :
    Calls Tryd.prog 8 #[.agg #[.int .i64 3, .int .i64 1, .string ⟨#[]⟩, .int .u64 0, .slice (some ⟨w.heap.size + 1 + 1 + 1 + 1 + 1 + 1 + 1 + 1, 0, none⟩) 2 2, .int .i64 0], .int .i64 0] w1 fun e w' => e = .returned (.string ⟨#[97, 32, 45, 32, 40, 98, 32, 45, 32, 99, 41]⟩) ∧ Below w1.heap.size w1 w' :=
  treeExpr_at 3 less _ 0 _ _ ((less_rep w).mono hb.size hb) ((((hV.on (awakeW_below w)).mono (awakeW_below w).size).on hb).mono hb.size) (by omega) less_text (by simp) (by simp)
theorem awake_cells (w w1 : World) (hb : Below (awakeW w).heap.size (awakeW w) w1) : w1.heap[w.heap.size + 1 + 1 + 1 + 1 + 1 + 1 + 1 + 1 + 1]? = some (.cells #[.int .i64 3, .int .i64 1, .string ⟨#[]⟩, .int .u64 0, .slice (some ⟨w.heap.size + 1 + 1 + 1 + 1 + 1 + 1 + 1 + 1, 0, none⟩) 2 2, .int .i64 0] 44 (0, 0)) :=
  (hb.block _ (by rw [awakeW_size]; omega)).trans (awakeW_9 w)

set_option maxHeartbeats 4000000 in
set_option maxRecDepth 100000 in
theorem awake_any (w : World) (hV : Vars w.heap.size w) :
    Calls Tryd.prog 4 #[] w fun e w' => e = .returned (.bool true) ∧ Below w.heap.size w w' := by
  have H1 := awake_first w hV
  go_enter Tryd.func4, Tryd.ntmps4
  go_wp2_with (first
    | (go_at_call 8; refine (awake_second w _ hV hb1).mono ?_; rintro e w2 ⟨rfl, hb2⟩)
    | (go_at_call 8; refine H1.mono ?_; rintro e w1 ⟨rfl, hb1⟩; obtain ⟨a0, a1, a2, a3, a4, a5⟩ := box_cells (awake_cells w w1 hb1)))
  go_ret
  exact ⟨rfl, ((awakeW_below w).trans (hb1.mono (awakeW_below w).size)).trans (hb2.mono (Nat.le_trans (awakeW_below w).size hb1.size))⟩
end Go.Proofs.YtiieghaibcbddaaDoor
