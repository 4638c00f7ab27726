/- What the hundred texts of ParseBinds are read as, and where it lies. Conditions: none. -/
import Derived.Test.YtfginegegaokbaaGreatDoorGPProgA
namespace Go.Proofs.YtfginegegaokbaaGreatDoor.Pr
open Go.ChangeShapes Go.WideShapes Go.ChangeAt Go.RowKit
open Lx (Tok)
set_option linter.unusedVariables false
set_option linter.unusedSimpArgs false

def bindTxt (x y : Nat) : List UInt8 := [116, 104, 114, 101, 97, 100, 32, 123, 32, 118, 32, 61, 32, 105, 32] ++ signs10.getD x [] ++ [32, 106, 32] ++ signs10.getD y [] ++ [32, 107, 59, 32, 125]
def bindT (x : Nat) : Nat := [54, 54, 55, 52, 49, 50, 53, 53, 51, 51].getD x 0
def bindAsk (x y : Nat) (v a b : Tree) : Bool :=
  if bindT y ≤ bindT x then v.op == (y : Int) && (a.kind == 3 && (a.op == (x : Int) && b.name.data.toList == [107]))
  else v.op == (x : Int) && (a.name.data.toList == [105] && (b.kind == 3 && b.op == (y : Int)))
def bindB (x y : Nat) : Bool :=
  match parseP (bindTxt x y) with
  | .ok ⟨[], [[⟨_, _, [⟨k, o, n, u, [a, b], t⟩], _, _, _, _⟩]]⟩ => bindAsk x y ⟨k, o, n, u, [a, b], t⟩ a b
  | _ => false
theorem bind_all : ((List.range 10).all fun x => (List.range 10).all fun y => bindB x y) = true := by kernel_rfl
theorem bind_one (x y : Nat) (hx : x < 10) (hy : y < 10) : bindB x y = true := by
  have h := List.all_eq_true.1 bind_all x (List.mem_range.2 hx)
  exact List.all_eq_true.1 h y (List.mem_range.2 hy)
theorem bind_plain (x y : Nat) (hx : x < 10) (hy : y < 10) : ∃ (s : Stm) (v a b : Tree), parseP (bindTxt x y) = .ok ⟨[], [[s]]⟩ ∧ s.exprs = [v] ∧ v.kids = [a, b] ∧ bindAsk x y v a b = true := by
  have h := bind_one x y hx hy
  unfold bindB at h
  split at h
  · rename_i heq
    exact ⟨_, _, _, _, heq, rfl, rfl, h⟩
  · cases h
theorem bind_left {x y : Nat} {v a b : Tree} (h : bindAsk x y v a b = true) (hT : bindT y ≤ bindT x) : v.op = (y : Int) ∧ a.kind = 3 ∧ a.op = (x : Int) ∧ b.name = ⟨#[107]⟩ := by
  unfold bindAsk at h
  rw [if_pos hT] at h
  simp only [Bool.and_eq_true, beq_iff_eq] at h
  obtain ⟨h1, h2, h3, h4⟩ := h
  refine ⟨h1, h2, h3, ?_⟩
  cases hb : b.name with
  | mk d => rw [hb] at h4; cases d; simp at h4; rw [h4]
theorem bind_right {x y : Nat} {v a b : Tree} (h : bindAsk x y v a b = true) (hT : ¬ bindT y ≤ bindT x) : v.op = (x : Int) ∧ a.name = ⟨#[105]⟩ ∧ b.kind = 3 ∧ b.op = (y : Int) := by
  unfold bindAsk at h
  rw [if_neg hT] at h
  simp only [Bool.and_eq_true, beq_iff_eq] at h
  obtain ⟨h1, h2, h3, h4⟩ := h
  refine ⟨h1, ?_, h3, h4⟩
  cases hb : a.name with
  | mk d => rw [hb] at h2; cases d; simp at h2; rw [h2]
theorem bind_mem {lo B m n : Nat} {w : World} {tv : Value} {s : Stm} {v a b : Tree} (h : Thrs lo B m n w tv [[s]]) (hs : s.exprs = [v]) (hv : v.kids = [a, b]) :
    ∃ g0 o0 c0 g1 o1 c1 g2 o2 c2 g3 o3 c3 va vb, tv = .slice (some ⟨g0, o0, none⟩) 1 c0 ∧ g0 < B ∧ w.cell? ⟨g0, o0, none⟩ = some (.slice (some ⟨g1, o1, none⟩) 1 c1) ∧ g1 < B ∧
      w.cell? ⟨g1, o1 + 2, none⟩ = some (.slice (some ⟨g2, o2, none⟩) 1 c2) ∧ g2 < B ∧
      w.cell? ⟨g2, o2, none⟩ = some (.int .i64 v.kind) ∧ w.cell? ⟨g2, o2 + 1, none⟩ = some (.int .i64 v.op) ∧ w.cell? ⟨g2, o2 + 2, none⟩ = some (.string v.name) ∧ w.cell? ⟨g2, o2 + 3, none⟩ = some (.int .u64 v.value) ∧ w.cell? ⟨g2, o2 + 4, none⟩ = some (.slice (some ⟨g3, o3, none⟩) 2 c3) ∧ w.cell? ⟨g2, o2 + 5, none⟩ = some (.int .i64 v.at_) ∧ g3 < B ∧
      (w.cell? ⟨g3, o3, none⟩ = some (.int .i64 a.kind) ∧ w.cell? ⟨g3, o3 + 1, none⟩ = some (.int .i64 a.op) ∧ w.cell? ⟨g3, o3 + 2, none⟩ = some (.string a.name) ∧ w.cell? ⟨g3, o3 + 4, none⟩ = some va) ∧
      (w.cell? ⟨g3, o3 + 6, none⟩ = some (.int .i64 b.kind) ∧ w.cell? ⟨g3, o3 + 7, none⟩ = some (.int .i64 b.op) ∧ w.cell? ⟨g3, o3 + 8, none⟩ = some (.string b.name) ∧ w.cell? ⟨g3, o3 + 10, none⟩ = some vb) := by
  obtain ⟨ao, cap, rfl, _, h⟩ := h
  obtain ⟨g0, o0, tao, tcap, rfl, _, hg0, _, hc0, hS⟩ := h 0 [s] rfl
  obtain ⟨ao1, cap1, e1, _, hS⟩ := hS
  cases e1
  obtain ⟨g1, o1, x0, x1, x2, x3, x4, x5, x6, rfl, _, hg1, _, y0, y1, y2, y3, y4, y5, y6, hR⟩ := hS 0 s rfl
  cases n with
  | zero => exact hR.elim
  | succ n =>
    obtain ⟨_, _, _, eao, ecap, bao, bcap, lao, lcap, e2, hK, _⟩ := hR
    cases e2
    rw [hs] at hK y2
    obtain ⟨ao2, cap2, e3, _, hK⟩ := hK
    cases e3
    obtain ⟨g2, o2, z0, z1, z2, z3, z4, z5, rfl, _, hg2, _, p0, p1, p2, p3, p4, p5, hE⟩ := hK 0 v rfl
    cases m with
    | zero => exact hE.elim
    | succ m =>
      obtain ⟨_, kv, e4, hK2⟩ := hE
      cases e4
      rw [hv] at hK2
      obtain ⟨ao3, cap3, rfl, _, hK2⟩ := hK2
      obtain ⟨g3, o3, a0, a1, a2, a3, a4, a5, rfl, _, hg3, _, q0, q1, q2, q3, q4, q5, hA⟩ := hK2 0 a rfl
      obtain ⟨g4, o4, b0, b1, b2, b3, b4, b5, e5, _, hg4, _, r0, r1, r2, r3, r4, r5, hB⟩ := hK2 1 b rfl
      cases e5
      cases m with
      | zero => exact hA.elim
      | succ m =>
        obtain ⟨_, kva, e6, _⟩ := hA
        cases e6
        obtain ⟨_, kvb, e7, _⟩ := hB
        cases e7
        simp only [Nat.zero_mul, Nat.one_mul, Nat.add_zero] at hc0 y2 p0 p1 p2 p3 p4 p5 q0 q1 q2 q4 r0 r1 r2 r4
        exact ⟨_, _, _, _, _, _, _, _, _, _, _, _, _, _, rfl, hg0, hc0, hg1, y2, hg2, p0, p1, p2, p3, p4, p5, hg3, ⟨q0, q1, q2, q4⟩, r0, r1, r2, r4⟩
end Go.Proofs.YtfginegegaokbaaGreatDoor.Pr
