/- What the cards' listed variables give the walks, a world that meets the list; how one code, and a slice of codes, among the arguments are opened. Conditions: as each theorem says. -/
import Derived.Test.YtjiecfagblijhaaDoorCards
import Derived.Test.YtjiecfagblijhaaDoorTie
import Derived.Test.YtjiecfagblijhaaDoorCdNum
import Derived.Test.YtjiecfagblijhaaDoorCdGood
import Derived.WalkKit
import Derived.ProofKit
import Derived.OpenShut
import Derived.SizedLaws
import Derived.JoinedCond
import Derived.ChangeSame
import Derived.ChangeVars
import Derived.JoinedOf
import Derived.RowKit
import Derived.RowKitTokens
import Derived.LaidLaws
import Derived.LaidMore
import Derived.Lib.LaidTab
import Derived.Stop.LaidErr
import Derived.Deep.Slices
namespace Go.Proofs.YtjiecfagblijhaaDoor
open Go.ChangeShapes Go.WideShapes Go.ChangeAt Go.RowKit Go.Deep
set_option linter.unusedVariables false

theorem Tryd.own : ownKnob Tryd.prog.godebug = none := by kernel_rfl
theorem Tryd.laidOut : laidOutB Tryd.prog = true := by kernel_rfl

/-- What the rows list. -/
abbrev laidAll : List (String × DataW Unit) := Rows.codeUsesRow.laid
theorem vars_of_laid {W : World} (h : laidMetH Tryd.prog laidAll W) : Vars W.heap.size W := by
  have h' : laidMet Tryd.prog laidAll W := h
  have h3 : laidMet Tryd.prog ((varuint64pow10, Lib.tabData .u64 Lib.pow10Tab) :: []) W := h'.tail.tail
  exact Lib.tabBelow_of_tabIs (Lib.tabIs_of_head (g := 0) (t := 73) (e := 24) (n := 20) (by kernel_rfl) (by kernel_rfl) Tryd.underlying73 Tryd.underlying24 (by kernel_rfl) (by kernel_rfl) h3)
/-- How many steps the initialisers take. -/
abbrev doorSteps : Nat := 65
/-- A world that meets the list: what the program's own initialisers leave. -/
theorem door_met (os : Os) (args : Array Value) : laidMetH Tryd.prog laidAll ((World.doorLaid Tryd.prog doorSteps os).forCall (fun _ _ => 0) ⟨#[], args, []⟩).memory :=
  (laidMet_of_run' 8 (by kernel_rfl) (by kernel_rfl) : laidMet Tryd.prog laidAll _)

namespace Cd
theorem i64_wf {n : Int} (h : (Lit.int .i64 n).wf = true) : -9223372036854775808 ≤ n ∧ n ≤ 9223372036854775807 := by
  have h2 : (decide (IntKind.i64.min ≤ n) && decide (n ≤ IntKind.i64.max)) = true := h
  rw [Bool.and_eq_true, decide_eq_true_eq, decide_eq_true_eq, show IntKind.i64.min = -9223372036854775808 by decide, show IntKind.i64.max = 9223372036854775807 by decide] at h2
  exact h2
theorem u64_wf {n : Int} (h : (Lit.int .u64 n).wf = true) : 0 ≤ n ∧ n < 18446744073709551616 := by
  have h2 : (decide (IntKind.u64.min ≤ n) && decide (n ≤ IntKind.u64.max)) = true := h
  rw [Bool.and_eq_true, decide_eq_true_eq, decide_eq_true_eq, show IntKind.u64.min = 0 by decide, show IntKind.u64.max = 18446744073709551615 by decide] at h2
  omega
theorem u8_wf {n : Int} (h : (Lit.int .u8 n).wf = true) : 0 ≤ n ∧ n ≤ 255 := by
  have h2 : (decide (IntKind.u8.min ≤ n) && decide (n ≤ IntKind.u8.max)) = true := h
  rw [Bool.and_eq_true, decide_eq_true_eq, decide_eq_true_eq, show IntKind.u8.min = 0 by decide, show IntKind.u8.max = 255 by decide] at h2
  exact h2
/-- Eight cells that are read as a struct of seven ints and a uint64. -/
theorem read8 {H : Type} {enc : TypeId × Value → H} {P : Program} {W : World} {base fuel : Nat} {sp hd : Nat → Bool} {e : TypeId} {f0 f1 f2 f3 f4 f5 f6 f7 : Field} {cs : List Value} {y : DataW H × List MemPlace}
    (he : P.underlying e = some (.struct #[f0, f1, f2, f3, f4, f5, f6, f7]))
    (o0 : f0.offset = 0) (o1 : f1.offset = 1) (o2 : f2.offset = 2) (o3 : f3.offset = 3) (o4 : f4.offset = 4) (o5 : f5.offset = 5) (o6 : f6.offset = 6) (o7 : f7.offset = 7)
    (c0 : P.cellsOf f0.type = 1) (c1 : P.cellsOf f1.type = 1) (c2 : P.cellsOf f2.type = 1) (c3 : P.cellsOf f3.type = 1) (c4 : P.cellsOf f4.type = 1) (c5 : P.cellsOf f5.type = 1) (c6 : P.cellsOf f6.type = 1) (c7 : P.cellsOf f7.type = 1)
    (u0 : P.underlying f0.type = some (.int .i64)) (u1 : P.underlying f1.type = some (.int .i64)) (u2 : P.underlying f2.type = some (.int .i64)) (u3 : P.underlying f3.type = some (.int .i64)) (u4 : P.underlying f4.type = some (.int .i64)) (u5 : P.underlying f5.type = some (.int .i64)) (u6 : P.underlying f6.type = some (.int .u64)) (u7 : P.underlying f7.type = some (.int .i64))
    (hlen : cs.length = 8) (h : DataW.trod enc P W base sp true fuel e cs = some y) :
    ∃ x : Cd, x.fits ∧ cs = [.int .i64 x.op, .int .i64 x.dop, .int .i64 x.to, .int .i64 x.a, .int .i64 x.b, .int .i64 x.c, .int .u64 x.v, .int .i64 x.t] := by
  obtain ⟨xs, kk, hk, hxy, _, hxl, hfs⟩ := DataW.trod_struct he h
  match xs, hxl, cs, hlen with
  | [y0, y1, y2, y3, y4, y5, y6, y7], _, [x0, x1, x2, x3, x4, x5, x6, x7], _ =>
    have g0 := hfs 0 f0 rfl
    have g1 := hfs 1 f1 rfl
    have g2 := hfs 2 f2 rfl
    have g3 := hfs 3 f3 rfl
    have g4 := hfs 4 f4 rfl
    have g5 := hfs 5 f5 rfl
    have g6 := hfs 6 f6 rfl
    have g7 := hfs 7 f7 rfl
    simp [o0, o1, o2, o3, o4, o5, o6, o7, c0, c1, c2, c3, c4, c5, c6, c7] at g0 g1 g2 g3 g4 g5 g6 g7
    obtain ⟨z0, e0, _, w0⟩ := DataW.trod_int u0 g0
    obtain ⟨z1, e1, _, w1⟩ := DataW.trod_int u1 g1
    obtain ⟨z2, e2, _, w2⟩ := DataW.trod_int u2 g2
    obtain ⟨z3, e3, _, w3⟩ := DataW.trod_int u3 g3
    obtain ⟨z4, e4, _, w4⟩ := DataW.trod_int u4 g4
    obtain ⟨z5, e5, _, w5⟩ := DataW.trod_int u5 g5
    obtain ⟨z6, e6, _, w6⟩ := DataW.trod_int u6 g6
    obtain ⟨z7, e7, _, w7⟩ := DataW.trod_int u7 g7
    simp only [List.cons.injEq, and_true] at e0 e1 e2 e3 e4 e5 e6 e7
    subst e0 e1 e2 e3 e4 e5 e6 e7
    exact ⟨⟨z0, z1, z2, z3, z4, z5, z6, z7⟩, ⟨i64_wf w0, i64_wf w1, i64_wf w2, i64_wf w3, i64_wf w4, i64_wf w5, u64_wf w6, i64_wf w7⟩, rfl⟩
theorem cellsCode : Tryd.prog.cellsOf 26 = 8 := by kernel_rfl
theorem read_code {H : Type} {enc : TypeId × Value → H} {W : World} {base fuel : Nat} {sp hd : Nat → Bool} {cs : List Value} {y : DataW H × List MemPlace} (hlen : cs.length = 8) (h : DataW.trod enc Tryd.prog W base sp true fuel 26 cs = some y) :
    ∃ x : Cd, x.fits ∧ cs = [.int .i64 x.op, .int .i64 x.dop, .int .i64 x.to, .int .i64 x.a, .int .i64 x.b, .int .i64 x.c, .int .u64 x.v, .int .i64 x.t] :=
  read8 (hd := hd) Tryd.underlying26 rfl rfl rfl rfl rfl rfl rfl rfl (by kernel_rfl) (by kernel_rfl) (by kernel_rfl) (by kernel_rfl) (by kernel_rfl) (by kernel_rfl) (by kernel_rfl) (by kernel_rfl) (by kernel_rfl) (by kernel_rfl) (by kernel_rfl) (by kernel_rfl) (by kernel_rfl) (by kernel_rfl) (by kernel_rfl) (by kernel_rfl) hlen h
/-- One code among the arguments. -/
theorem code_open {H : Type} {enc : TypeId × Value → H} {W : World} {base : Nat} {v : Value} {d : DataW H} {p : List MemPlace}
    (hval : Value.okWide Tryd.prog W .any base 26 v) (h : DataW.Trod enc Tryd.prog W 0 (fun _ => true) true 26 v d p) :
    ∃ x : Cd, x.fits ∧ v = .agg #[.int .i64 x.op, .int .i64 x.dop, .int .i64 x.to, .int .i64 x.a, .int .i64 x.b, .int .i64 x.c, .int .u64 x.v, .int .i64 x.t] := by
  obtain ⟨cs, rfl, hs⟩ := okWide_struct Tryd.underlying26 hval
  rw [cellsCode] at hs
  obtain ⟨fuel, hf⟩ := h
  have hc : (Value.agg cs).cells = cs := rfl
  rw [hc] at hf
  obtain ⟨x, hx, e⟩ := read_code (hd := fun _ => true) (by simpa using hs) hf
  refine ⟨x, hx, ?_⟩
  have : cs = cs.toList.toArray := by simp
  rw [this, e]
/-- A slice of codes among the arguments. -/
theorem codes_open {H : Type} {enc : TypeId × Value → H} {W : World} {base : Nat} {v : Value} {d : DataW H} {p : List MemPlace}
    (hval : Value.okWide Tryd.prog W .any base 38 v) (h : DataW.Trod enc Tryd.prog W 0 (fun _ => true) true 38 v d p) (hlt : ∀ x ∈ p, x.block < W.heap.size)
    (hreach : ∀ es sp, d = .slice es sp → es.length ≤ 2199023255552) :
    ∃ (ao : Option Addr) (n cap : Nat) (cs : List Cd), v = .slice ao n cap ∧ n ≤ cap ∧ CodesAt W (.slice ao n cap) cs := by
  obtain ⟨a0, len, cap, rfl⟩ := okWide_slice Tryd.underlying38 hval
  obtain ⟨fuel, hf⟩ := h
  rcases open_slice Tryd.underlying38 hf with ⟨hcs, hx⟩ | ⟨a, len', cap', m, n, D, Pl, hcs, hb, hl, hm, hmm, hx, hel⟩
  · simp [Value.cells] at hcs
    obtain ⟨rfl, rfl, rfl⟩ := hcs
    exact ⟨none, 0, 0, [], rfl, Nat.le_refl _, none, 0, rfl, by simp, fun j q hj => by simp at hj⟩
  · simp [Value.cells] at hcs
    obtain ⟨rfl, rfl, rfl⟩ := hcs
    simp only [Prod.mk.injEq] at hx
    obtain ⟨rfl, rfl⟩ := hx
    simp only [if_true] at hmm
    have hlen := hreach _ _ rfl
    simp only [List.length_map, List.length_range] at hlen
    have each : ∀ i, i < len → ∃ x : Cd, x.fits ∧ ∀ j z, [Value.int .i64 x.op, .int .i64 x.dop, .int .i64 x.to, .int .i64 x.a, .int .i64 x.b, .int .i64 x.c, .int .u64 x.v, .int .i64 x.t][j]? = some z → W.cell? ((a.add (i * 8)).add j) = some z := by
      intro i hi
      obtain ⟨cs', h1, h2⟩ := hel i (by omega)
      rw [cellsCode] at h1
      obtain ⟨_, hlen8, hcell⟩ := World.cells?_some h1
      obtain ⟨x, hx, e⟩ := read_code (hd := fun _ => true) hlen8 h2
      refine ⟨x, hx, fun j z hz => ?_⟩
      have hj : j < 8 := by
        have := (List.getElem?_eq_some_iff.1 hz).1
        simpa using this
      rw [← e] at hz
      have := hcell j hj
      rw [hz] at this
      exact this
    haveI : Inhabited Cd := ⟨⟨0, 0, 0, 0, 0, 0, 0, 0⟩⟩
    obtain ⟨q, hq⟩ := choose_lt each
    refine ⟨some a, len, cap, (List.range len).map q, rfl, hl, some a, cap, by simp, by simpa using hlen, fun j x hj => ?_⟩
    have hjl : j < len := by
      have := (List.getElem?_eq_some_iff.1 hj).1
      simpa using this
    rw [List.getElem?_map, List.getElem?_range hjl] at hj
    simp only [Option.map_some, Option.some.injEq] at hj
    subst hj
    obtain ⟨b, off, spot⟩ := a
    obtain ⟨hfit, hr⟩ := hq j hjl
    have hs0 := (hq 0 (by omega)).2 0 _ rfl
    have hspot : spot = none := by simpa [Addr.add] using World.cell?_spot hs0
    subst hspot
    have hbW : b < W.heap.size := hlt (.cell b off) (by
      apply List.mem_append_left
      exact MemPlace.mem_row.2 ⟨0, by rw [cellsCode]; omega, by simp⟩)
    have r0 := hr 0 _ rfl
    have r1 := hr 1 _ rfl
    have r2 := hr 2 _ rfl
    have r3 := hr 3 _ rfl
    have r4 := hr 4 _ rfl
    have r5 := hr 5 _ rfl
    have r6 := hr 6 _ rfl
    have r7 := hr 7 _ rfl
    rw [add_plain, add_plain] at r0 r1 r2 r3 r4 r5 r6 r7
    exact ⟨hfit, b, off, rfl, hbW, r0, r1, r2, r3, r4, r5, r6, r7⟩
/-- The form's own reach, at such a slice. -/
theorem codes_reach {H : Type} {ts : List TypeId} {ds : List (DataW H)} {j : Nat} {d : DataW H} (hsz : (DataW.weightsEach Tryd.prog ts ds).all (· ≤ reachBytes) = true) (hj : ts[j]? = some 38) (hd : ds[j]? = some d) :
    ∀ es sp, d = .slice es sp → es.length ≤ 2199023255552 := by
  rintro es sp rfl
  have := sized_slice hsz hj hd Tryd.underlying38
  rw [show Tryd.prog.bytesOf 26 = 64 by kernel_rfl] at this
  simp only [reachBytes] at this
  omega
end Cd
end Go.Proofs.YtjiecfagblijhaaDoor
