/- Own texts laid together: TreePage, TreeNum, TreeRep, TreePart, TreeExprC, TreeBin, TreeEx, TreeKids. Conditions: as each theorem says. -/
import Derived.Test.YtfginegegaokbaaGreatDoorRows
import Derived.Test.YtfginegegaokbaaGreatDoorGTreeB
import Derived.WalkKit
import Derived.ProofKit
import Derived.OpenShut
import Derived.RegionTactic
import Derived.Lib.Builder
import Derived.Lib.AppendStr
import Derived.Lib.UnsafeStr
import Derived.Laws.Externs
import Derived.Test.YtfginegegaokbaaGreatDoorShelf
import Derived.Lib.ItoaMem
import Derived.Lib.ItoaLen
import Derived.Lib.AppendIntMem
import Derived.BigCall
import Derived.BigGuard
import Derived.Deep.RegionWith
import Derived.BigRegion
set_option linter.unusedVariables false
set_option linter.unusedSimpArgs false
namespace Go.Proofs.YtfginegegaokbaaGreatDoor
open Go.ChangeShapes Go.WideShapes Go.ChangeAt Go.RowKit
def PageAt (B b : Nat) (l : List UInt8) (d : Int) (w : World) : Prop :=
  B <= b /\ ∃ p v, w.heap[b]? = some (.cells #[p, v, .int .i64 d] 87 (0, 0)) /\ (p = .pointer none \/ p = .pointer (some ⟨b, 0, none⟩)) /\ w.ownsRow B 5 1 v l.length (Lib.byteCells l) /\ v.ownBlock ≠ some b
def PageUsed (B b : Nat) (l : List UInt8) (d : Int) (w : World) : Prop :=
  B <= b /\ ∃ v, w.heap[b]? = some (.cells #[.pointer (some ⟨b, 0, none⟩), v, .int .i64 d] 87 (0, 0)) /\ w.ownsRow B 5 1 v l.length (Lib.byteCells l) /\ v.ownBlock ≠ some b
theorem PageUsed.page {B b : Nat} {l : List UInt8} {d : Int} {w : World} (h : PageUsed B b l d w) : PageAt B b l d w := by
  obtain ⟨h1, v, h2, h3, h4⟩ := h
  exact ⟨h1, _, v, h2, .inr rfl, h3, h4⟩
theorem heap_lt {w : World} {b : Nat} {o : Obj} (h : w.heap[b]? = some o) : b < w.heap.size := by
  rcases Nat.lt_or_ge b w.heap.size with h' | h'
  · exact h'
  · simp [Array.getElem?_eq_none h'] at h
theorem PageAt.lt {B b : Nat} {l : List UInt8} {d : Int} {w : World} (h : PageAt B b l d w) : b < w.heap.size := by
  obtain ⟨_, p, v, hb, _⟩ := h
  exact heap_lt hb
theorem PageAt.base {B b : Nat} {l : List UInt8} {d : Int} {w : World} (h : PageAt B b l d w) : B <= w.heap.size := by have := h.lt; have := h.1; omega
theorem PageAt.drew {B b : Nat} {l : List UInt8} {d : Int} {w : World} (h : PageAt B b l d w) : PageAt B b l d w.drew := h
theorem PageAt.alloc {B b : Nat} {l : List UInt8} {d : Int} {w : World} (h : PageAt B b l d w) (o : Obj) : PageAt B b l d (w.alloc o) := by
  obtain ⟨h1, p, v, h2, h3, h4, h5⟩ := h
  exact ⟨h1, p, v, (Lib.alloc_old w o b (heap_lt h2)).trans h2, h3, h4.alloc o, h5⟩

def Stay (B b : Nat) (w w' : World) : Prop := Below B w w' /\ ∀ k cs t fr, k ≠ b -> t ≠ 5 -> w.heap[k]? = some (.cells cs t fr) -> w'.heap[k]? = some (.cells cs t fr)
theorem Stay.refl (B b : Nat) (w : World) : Stay B b w w := ⟨Below.refl _ _, fun _ _ _ _ _ _ h => h⟩
theorem Stay.trans {B b : Nat} {a w w' : World} (h : Stay B b a w) (k : Stay B b w w') : Stay B b a w' := ⟨h.1.trans k.1, fun i cs t fr hi ht hc => k.2 i cs t fr hi ht (h.2 i cs t fr hi ht hc)⟩
theorem Stay.of_below {B b : Nat} {w w' : World} (h : Below w.heap.size w w') (hB : B <= w.heap.size) : Stay B b w w' := ⟨h.mono hB, fun k cs t fr _ _ hk => (h.block k (heap_lt hk)).trans hk⟩
theorem Stay.alloc {B b : Nat} {a w : World} (h : Stay B b a w) (hB : B <= w.heap.size) (o : Obj) : Stay B b a (w.alloc o) := h.trans (Stay.of_below ((Below.refl _ _).alloc (Nat.le_refl _) o) hB)
theorem Stay.set {B b : Nat} {a w : World} (h : Stay B b a w) (hB : B <= b) (off : Nat) (u : Value) : Stay B b a (w.setCell ⟨b, off, none⟩ u) :=
  h.trans ⟨(Below.refl _ _).setCell (p := ⟨b, off, none⟩) hB u, fun k cs t fr hk _ hc => (Below.heap_setCell w ⟨b, off, none⟩ u k hk).trans hc⟩
theorem Stay.grown {B b : Nat} {a w w' : World} {v : Value} {n : Nat} {xs : List Value} (h : Stay B b a w) (hown : w.ownsRow B 5 1 v n xs) (hg : w.grownBy w' v.ownBlock) (hB : B <= w.heap.size) : Stay B b a w' := by
  refine h.trans ⟨(Below.refl _ _).grown hg hB (fun k hk => (hown.lt k hk).1), fun k cs t fr _ ht hc => ?_⟩
  refine (hg.block k (heap_lt hc) fun e => ?_).trans hc
  rcases hown.2 with ⟨rfl, _⟩ | ⟨g, cap, cur, rfl, _, hgg, _⟩
  · simp [Value.ownBlock] at e
  · simp only [Value.ownBlock, Option.some.injEq] at e
    subst e
    rw [hgg] at hc
    simp only [Option.some.injEq, Obj.cells.injEq] at hc
    exact ht hc.2.1.symm
theorem Stay.from_alloc {B b : Nat} {w w' : World} {o : Obj} (hB : B <= w.heap.size) (h : Stay B b (w.alloc o) w') : Stay B b w w' := ((Stay.refl B b w).alloc hB o).trans h
theorem PageAt.below {B b : Nat} {l : List UInt8} {d : Int} {w w' : World} (h : PageAt B b l d w) (hb : Below w.heap.size w w') : PageAt B b l d w' := by
  obtain ⟨h1, p, v, h2, h3, h4, h5⟩ := h
  refine ⟨h1, p, v, (hb.block b (heap_lt h2)).trans h2, h3, ?_, h5⟩
  exact h4.kept (row := none) ⟨hb.os, hb.tape, hb.output, hb.size, fun k hk _ => hb.block k hk⟩ (by cases hv : v.ownBlock <;> simp)

theorem sizeBuilder : (Tryz.prog.info? 85).map (·.size) = some 2 := by kernel_rfl
theorem liesBuilder : liesAt Tryz.prog Tryz.prog.depth 87 (3 / Tryz.prog.cellsOf 87) 0 85 1 = true := by kernel_rfl
theorem infoByte : (Tryz.prog.info? 5).map (fun i => (i.zero, i.size, i.bytes)) = some (some (.int .u8 0), 1, 1) := by kernel_rfl
theorem cellsByte : Tryz.prog.cellsOf 5 = 1 := by kernel_rfl

set_option maxHeartbeats 1000000 in
set_option maxRecDepth 100000 in
theorem copyCheck_used (b : Nat) (w : World) (h0 : w.cell? ⟨b, 0, none⟩ = some (.pointer (some ⟨b, 0, none⟩))) :
    Calls Tryz.prog 77 #[.pointer (some ⟨b, 0, none⟩)] w fun e w' => e = .returned (.tuple #[]) /\ w' = w := by
  obtain ⟨j, hj, _⟩ := Option.map_eq_some_iff.1 sizeBuilder
  go_enter Tryz.func77, Tryz.ntmps77
  go_wp2
  rw [Lib.run_neq_ptr_same w _ Tryz.underlying83 hj]
  go_wp2
  go_end0
  exact ⟨rfl, rfl⟩

set_option maxHeartbeats 1000000 in
set_option maxRecDepth 100000 in
theorem copyCheck_fresh (b : Nat) (w : World) (h0 : w.cell? ⟨b, 0, none⟩ = some (.pointer none)) (hsh : w.shape? b = some (87, 3)) (hfz : w.frozen? ⟨b, 0, none⟩ = false) :
    Calls Tryz.prog 77 #[.pointer (some ⟨b, 0, none⟩)] w fun e w' => e = .returned (.tuple #[]) /\ w' = w.setCell ⟨b, 0, none⟩ (.pointer (some ⟨b, 0, none⟩)) := by
  obtain ⟨j, hj, hjs⟩ := Option.map_eq_some_iff.1 sizeBuilder
  go_enter Tryz.func77, Tryz.ntmps77
  go_wp2
  rw [Lib.run_to_unsafe w ⟨b, 0, none⟩ Tryz.underlying83 Tryz.underlying135 hj (by rw [hjs]; decide) hsh (Nat.zero_lt_succ 2)]
  simp only [Result.andThen]
  rw [Oper.upon_value]
  go_wp2
  rw [run_callFunc_extern Tryz.func100 (by kernel_rfl) (by kernel_rfl) (by kernel_rfl) (e := Extern.AbiNoEscape.same) (by kernel_rfl)]
  rw [Lib.run_noEscape]
  simp only [Result.andThen]
  rw [Oper.upon_value]
  go_wp2
  rw [Lib.run_from_unsafe w ⟨b, 0, none⟩ Tryz.underlying135 Tryz.underlying83 hj hsh liesBuilder]
  simp only [Result.andThen]
  rw [Oper.upon_value]
  go_wp2
  go_end0
  exact ⟨rfl, rfl⟩

theorem copyCheck_any (B b : Nat) (l : List UInt8) (d : Int) (w : World) (h : PageAt B b l d w) :
    Calls Tryz.prog 77 #[.pointer (some ⟨b, 0, none⟩)] w fun e w' => e = .returned (.tuple #[]) /\ PageUsed B b l d w' /\ Stay B b w w' := by
  obtain ⟨h1, p, v, h2, h3, h4, h5⟩ := h
  have hc : w.cell? ⟨b, 0, none⟩ = some p := by rw [Lib.cell_of_heap h2]; rfl
  rcases h3 with rfl | rfl
  · refine (copyCheck_fresh b w hc (by simp [World.shape?, h2]) (Lib.frozen_of_heap h2 0)).mono ?_
    rintro e w' ⟨rfl, rfl⟩
    refine ⟨rfl, ⟨h1, v, ?_, ?_, h5⟩, (Stay.refl B b w).set h1 0 _⟩
    · simp [World.setCell, Array.getElem?_modify, h2]
    · exact h4.kept (row := some b) ⟨rfl, rfl, rfl, by simp [World.setCell], fun k _ hk => Below.heap_setCell _ _ _ _ (fun e => hk (by simp [e]))⟩ (Or.inr h5)
  · refine (copyCheck_used b w hc).mono ?_
    rintro e w' ⟨rfl, rfl⟩
    exact ⟨rfl, ⟨h1, v, h2, h4, h5⟩, Stay.refl B b _⟩

theorem page_put {B b : Nat} {v v' : Value} {l : List UInt8} {d : Int} {w : World} (hB : B <= b) (hb : w.heap[b]? = some (.cells #[.pointer (some ⟨b, 0, none⟩), v, .int .i64 d] 87 (0, 0))) (hown : w.ownsRow B 5 1 v' l.length (Lib.byteCells l)) :
    PageUsed B b l d (w.setCell ⟨b, 1, none⟩ v') := by
  have hne := Lib.ownBlock_ne hown hb (by decide)
  refine ⟨hB, v', ?_, ?_, hne⟩
  · simp [World.setCell, Array.getElem?_modify, hb]
  · exact hown.kept (row := some b) ⟨rfl, rfl, rfl, by simp [World.setCell], fun k _ hk => Below.heap_setCell _ _ _ _ (fun e => hk (by simp [e]))⟩ (Or.inr hne)

set_option maxHeartbeats 2000000 in
set_option maxRecDepth 100000 in
theorem writeByte_any (B b : Nat) (l : List UInt8) (d : Int) (c : UInt8) (w : World) (h : PageAt B b l d w) (hlen : l.length + 1 <= 140737488355328) :
    Calls Tryz.prog 51 #[.pointer (some ⟨b, 0, none⟩), .int .u8 c.toNat] w fun e w' => e = .returned .nilIface /\ PageUsed B b (l ++ [c]) d w' /\ Stay B b w w' := by
  obtain ⟨i0, hi, hz0, hz1, hz2⟩ := info_parts infoByte
  have hBw := h.base
  go_enter Tryz.func51, Tryz.ntmps51
  go_wp2_with (go_at_call 77; refine (copyCheck_any B b l d _ h).mono ?_)
  rintro e w1 ⟨rfl, h1, hb1⟩
  obtain ⟨hB, v, hbk, hown, hne⟩ := h1
  have c0 : w1.cell? ⟨b, 0, none⟩ = some (.pointer (some ⟨b, 0, none⟩)) := by rw [Lib.cell_of_heap hbk]; rfl
  have c1 : w1.cell? ⟨b, 1, none⟩ = some v := by rw [Lib.cell_of_heap hbk]; rfl
  go_wp2_with (at_builtin; refine wpList_append_own _ rfl _ _ 22 rfl B 5 i0 (.int .u8 0) 1 1 Tryz.underlying22 hi hz0 hz1 hz2 rfl (by decide) _ _ _ rfl (hown.alloc _) ⟨w1.heap.size, 0, none⟩ 1 1 [.int .u8 c.toNat] rfl rfl ?c1 ?c2 ?c3 ?c4 ?c5 ?_)
  case c1 =>
    intro j u hj
    match j, hj with
    | 0, hj => simp at hj; subst hj; simp [Addr.add]
  case c2 => intro u hu; simp at hu; subst hu; rfl
  case c3 => unfold maxLen; omega
  case c4 => omega
  case c5 => have := hb1.1.size; simp; omega
  intro v' w2 hown' hgrow _
  have hlt := heap_lt hbk
  have hb2 : w2.heap[b]? = some (.cells #[.pointer (some ⟨b, 0, none⟩), v, .int .i64 d] 87 (0, 0)) := by
    rw [hgrow.block b (by simp; omega) (fun e => hne e.symm), Lib.alloc_old w1 _ b hlt]
    exact hbk
  have d0 : w2.cell? ⟨b, 0, none⟩ = some (.pointer (some ⟨b, 0, none⟩)) := by rw [Lib.cell_of_heap hb2]; rfl
  have d1 : w2.cell? ⟨b, 1, none⟩ = some v := by rw [Lib.cell_of_heap hb2]; rfl
  have f1 : w2.frozen? ⟨b, 1, none⟩ = false := Lib.frozen_of_heap hb2 1
  obtain ⟨g, cap, rfl⟩ : ∃ g cap, v' = .slice (some ⟨g, 0, none⟩) (l.length + 1) cap := by
    rcases hown'.2 with ⟨_, h0⟩ | ⟨g, cap, cur, hv, _⟩
    · omega
    · exact ⟨g, cap, hv⟩
  go_wp2
  go_ret
  refine ⟨rfl, ?_, ?_⟩
  · exact page_put hB hb2 (by simpa [Lib.byteCells] using hown')
  · exact ((hb1.alloc (by have := hb1.1.size; omega) _).grown (hown.alloc _) hgrow (by have := hb1.1.size; simp; omega)).set hB 1 _

set_option maxHeartbeats 2000000 in
set_option maxRecDepth 100000 in
theorem writeString_any (B b : Nat) (l : List UInt8) (d : Int) (s : ByteArray) (w : World) (h : PageAt B b l d w) (hlen : l.length + s.size <= 140737488355328) :
    Calls Tryz.prog 48 #[.pointer (some ⟨b, 0, none⟩), .string s] w fun e w' => e = .returned (.tuple #[.int .i64 s.size, .nilIface]) /\ PageUsed B b (l ++ bys s) d w' /\ Stay B b w w' := by
  obtain ⟨i0, hi, hz0, hz1, hz2⟩ := info_parts infoByte
  have hBw := h.base
  go_enter Tryz.func48, Tryz.ntmps48
  go_wp2_with (go_at_call 77; refine (copyCheck_any B b l d _ h).mono ?_)
  rintro e w1 ⟨rfl, h1, hb1⟩
  obtain ⟨hB, v, hbk, hown, hne⟩ := h1
  have c0 : w1.cell? ⟨b, 0, none⟩ = some (.pointer (some ⟨b, 0, none⟩)) := by rw [Lib.cell_of_heap hbk]; rfl
  have c1 : w1.cell? ⟨b, 1, none⟩ = some v := by rw [Lib.cell_of_heap hbk]; rfl
  go_wp2_with (at_builtin; refine Lib.wpList_append_own_string _ rfl _ _ 22 9 rfl B 5 i0 Tryz.underlying22 Tryz.underlying9 hi hz0 hz1 hz2 _ _ _ rfl hown s rfl ?c3 ?c4 ?c5 ?_)
  case c3 => unfold maxLen; omega
  case c4 => omega
  case c5 => have := hb1.1.size; omega
  intro v' w2 hown' hgrow _
  have hlt := heap_lt hbk
  have hb2 : w2.heap[b]? = some (.cells #[.pointer (some ⟨b, 0, none⟩), v, .int .i64 d] 87 (0, 0)) := by
    rw [hgrow.block b hlt (fun e => hne e.symm)]
    exact hbk
  have d0 : w2.cell? ⟨b, 0, none⟩ = some (.pointer (some ⟨b, 0, none⟩)) := by rw [Lib.cell_of_heap hb2]; rfl
  have d1 : w2.cell? ⟨b, 1, none⟩ = some v := by rw [Lib.cell_of_heap hb2]; rfl
  have f1 : w2.frozen? ⟨b, 1, none⟩ = false := Lib.frozen_of_heap hb2 1
  obtain ⟨ao, n', cap, rfl⟩ : ∃ ao n' cap, v' = .slice ao n' cap := by
    rcases hown'.2 with ⟨hv, _⟩ | ⟨g, cap, cur, hv, _⟩
    · exact ⟨_, _, _, hv⟩
    · exact ⟨_, _, _, hv⟩
  go_wp2
  go_ret2
  refine ⟨rfl, ?_, ?_⟩
  · refine page_put hB hb2 ?_
    rw [List.length_append, bys_length, Lib.byteCells_append]
    exact hown'
  · exact (hb1.grown hown hgrow (by have := hb1.1.size; omega)).set hB 1 _

set_option maxHeartbeats 1000000 in
set_option maxRecDepth 100000 in
theorem pageString_some (B b : Nat) (l : List UInt8) (d : Int) (w : World) (h : PageAt B b l d w) (h0 : l ≠ []) :
    Calls Tryz.prog 30 #[.pointer (some ⟨b, 0, none⟩)] w fun e w' => e = .returned (.string (bstr l)) /\ Below B w w' := by
  obtain ⟨hB, p, v, hbk, _, hown, hne⟩ := h
  have hl0 : l.length ≠ 0 := by simpa using h0
  obtain ⟨g, cap, cur, rfl, hbg, hg, hnc, hcm, hcs, htake⟩ : ∃ g cap cur, v = .slice (some ⟨g, 0, none⟩) l.length cap /\ B <= g /\ w.heap[g]? = some (.cells cur 5 (0, 0)) /\ l.length <= cap /\ cap <= maxLen /\ cur.size = cap * 1 /\ cur.toList.take (l.length * 1) = Lib.byteCells l := by
    rcases hown.2 with ⟨_, hz⟩ | ⟨g, cap, cur, hv, r⟩
    · exact absurd hz hl0
    · exact ⟨g, cap, cur, hv, r⟩
  have c1 : w.drew.cell? ⟨b, 1, none⟩ = some (.slice (some ⟨g, 0, none⟩) l.length cap) := by
    have : w.drew.heap[b]? = some (.cells #[p, .slice (some ⟨g, 0, none⟩) l.length cap, .int .i64 d] 87 (0, 0)) := hbk
    rw [Lib.cell_of_heap this]; rfl
  have hSD : (Builtin.unsafeSliceData_ #[22] 132 #[.slice (some ⟨g, 0, none⟩) l.length cap]).run Tryz.prog w.drew = .ok (.pointer (some ⟨g, 0, none⟩)) w.drew :=
    Lib.run_unsafeSliceData_row _ _ _ _ _ _ (by omega)
  have hUS : (Builtin.unsafeString_ #[132, 3] 9 #[.pointer (some ⟨g, 0, none⟩), .int .i64 l.length]).run Tryz.prog w.drew = .ok (.string (bstr l)) (w.drew.freeze ⟨g, 0, none⟩ l.length) := by
    refine Lib.run_unsafeString_row w.drew 132 3 9 5 Tryz.underlying132 cellsByte g cur.size (by have hg' : w.drew.heap[g]? = some (.cells cur 5 (0, 0)) := hg; simp [World.shape?, hg']) l h0 (by omega) (by unfold maxLen at hcm; omega) ?_
    intro j x hx
    have := hown.cells (g := g) rfl j (.int .u8 x.toNat) (by simp [Lib.byteCells, hx])
    exact this
  go_enter Tryz.func30, Tryz.ntmps30
  go_wp2
  go_region
  all_goals (go_wp2; go_ret; exact ⟨rfl, Lib.below_freeze (Below.drew (Below.refl B w)) (p := ⟨g, 0, none⟩) hbg _⟩)
end Go.Proofs.YtfginegegaokbaaGreatDoor
namespace Go.Proofs.YtfginegegaokbaaGreatDoor
open Go.ChangeShapes Go.WideShapes Go.ChangeAt Go.RowKit Go.Lib Go.Sort
def Vars (B : Nat) (w : World) : Prop := Lib.TabBelow Tryz.prog B w varuint64pow10 .u64 Lib.pow10Tab
theorem Vars.here {B : Nat} {w : World} (h : Vars B w) : Lib.TabIs Tryz.prog w varuint64pow10 .u64 Lib.pow10Tab := Lib.TabBelow.here h
theorem Vars.on {B : Nat} {w w1 : World} (h : Vars B w) (hb : Below B w w1) : Vars B w1 := Lib.TabBelow.on h hb
theorem Vars.mono {B B' : Nat} {w : World} (h : Vars B w) (hB : B <= B') : Vars B' w := fun w' hb => h w' (hb.mono hB)

set_option maxHeartbeats 6400000 in
set_option maxRecDepth 100000 in
theorem iFormatUint_any (u : Nat) (hu64 : u < 18446744073709551616) (w : World) (htab : Lib.TabIs Tryz.prog w varuint64pow10 .u64 Lib.pow10Tab) :
    Calls Tryz.prog 135 #[.int .u64 u, .int .i64 10] w fun e w' => e = .returned (.string (bstr (Lib.decDigits u))) /\ ∃ k os, w' = grow (w.drewN k) os := by
  by_cases hs : u < 100
  · go_enter Tryz.func135, Tryz.ntmps135
    go_wp2_with (go_at_call 111; refine (Tryz.internal_strconv_small u hs _).mono ?_; rintro e w' ⟨rfl, rfl⟩)
    go_ret
    exact ⟨rfl, 0, #[], by simp [World.drewN_zero]⟩
  · have hu1 : 1 <= u := by omega
    have hnd20 : Lib.nDigits u <= 20 := by have := Lib.numDigits_eq u hu1 hu64; split at this <;> omega
    have hb3 : Lib.nDigits u <= 24 := by omega
    have hal : Tryz.prog.arrayLen 196 = 24 := by simp [Program.arrayLen, Tryz.underlying196]
    have hsl1 : ∀ W, (Instr.sliceAt 196 (.pointer (some ⟨w.heap.size, 0, none⟩)) none (some (.int .i64 (Lib.nDigits u : Int))) none).run Tryz.prog W = .ok (.slice (some ⟨w.heap.size, 0, none⟩) (Lib.nDigits u) 24) W := fun W => by
      rw [run_sliceAt_array_h W 196 ⟨w.heap.size, 0, none⟩ (by simp [Program.arrayLen, Program.elem, Tryz.underlying196]) .i64 (Lib.nDigits u : Int) (by omega) (by rw [hal]; omega)]
      go_simp
    have hH0 := Lib.holds_zero0 w 196 (Lib.nDigits u) (by omega)
    have hfmt := Tryz.internal_strconv_formatBase10 w.heap.size 0 24 u (Array.replicate (Lib.nDigits u) 0) (w.alloc (.cells Lib.zeros24 196)) hH0 (by rw [Array.size_replicate]; exact Lib.lt_pow_nDigits u) hu64 (by rw [Array.size_replicate]; omega)
    rw [Array.size_replicate] at hfmt
    have HH0 := Lib.hid hH0
    clear hH0 hal
    go_enter Tryz.func135, Tryz.ntmps135
    go_wp2_with (first
      | (go_at_call 112; refine (Tryz.internal_strconv_numDigits u hu1 hu64 _ (Lib.tabIs_alloc htab _)).mono ?_; rintro e w' ⟨rfl, rfl⟩))
    go_at_call 113
    refine hfmt.mono ?_
    rintro e w' ⟨rfl, k, v', dk, rfl, hF⟩
    have hcv : (convert 22 9 (.slice (some ⟨w.heap.size, 0, none⟩) (Lib.nDigits u) 24)).run Tryz.prog ((putRow (fun (b : UInt8) => Value.int .u8 (b.toNat : Int)) (w.alloc (.cells Lib.zeros24 196)) w.heap.size 0 dk).drewN k) = .ok (.string ⟨(Lib.decDigits u).toArray⟩) ((putRow (fun (b : UInt8) => Value.int .u8 (b.toNat : Int)) (w.alloc (.cells Lib.zeros24 196)) w.heap.size 0 dk).drewN k) := by
      have h := run_convert_bytes_back (P := Tryz.prog) ((putRow (fun (b : UInt8) => Value.int .u8 (b.toNat : Int)) (w.alloc (.cells Lib.zeros24 196)) w.heap.size 0 dk).drewN k) 22 9 5 ⟨w.heap.size, 0, none⟩ 24 (Lib.decDigits u) Tryz.underlying22 Tryz.underlying5 Tryz.underlying9 (fun j hj => by
        rw [Lib.row_is_numeral hF j hj, Lib.add_plain, World.cell?_drewN]
        exact cell?_putRow (fun (b : UInt8) => Value.int .u8 (b.toNat : Int)) _ w.heap.size 0 _ dk HH0.out (by rw [hF.size, Array.size_replicate]) j (by rw [hF.size]; rw [Lib.decDigits_length] at hj; exact hj))
      rw [Lib.decDigits_length] at h
      exact h
    go_wp2
    go_ret
    obtain ⟨os, eo⟩ := Lib.fin_at w (.cells Lib.zeros24 196) dk k 0
    exact ⟨rfl, k, os, eo⟩

theorem formatUint_any (u : Nat) (hu64 : u < 18446744073709551616) (B : Nat) (w : World) (hV : Vars B w) :
    Calls Tryz.prog 115 #[.int .u64 u, .int .i64 10] w fun e w' => e = .returned (.string (bstr (Lib.decDigits u))) /\ Below w.heap.size w w' := by
  go_enter Tryz.func115, Tryz.ntmps115
  go_wp2_with (go_at_call 135; refine (iFormatUint_any u hu64 _ hV.here).mono ?_; rintro e w' ⟨rfl, k, os, rfl⟩)
  go_ret
  exact ⟨rfl, Lib.below_grow _ _ (Nat.le_refl _) k os⟩

theorem itoa_any (n : Int) (h0 : -9223372036854775808 <= n) (h1 : n <= 9223372036854775807) (B : Nat) (w : World) (hV : Vars B w) :
    Calls Tryz.prog 49 #[.int .i64 n] w fun e w' => e = .returned (.string (bstr (Lib.itoa n))) /\ Below w.heap.size w w' := by
  refine (Tryz.strconv_Itoa n h0 h1 w hV.here).mono ?_
  rintro e w' ⟨rfl, k, os, rfl⟩
  exact ⟨rfl, Lib.below_grow _ _ (Nat.le_refl _) k os⟩
theorem decDigits_len (u : Nat) (h : u < 18446744073709551616) : (Lib.decDigits u).length <= 20 := by rw [Lib.decDigits_length]; exact Lib.nDigits_le20 u h
end Go.Proofs.YtfginegegaokbaaGreatDoor
namespace Go.Proofs.YtfginegegaokbaaGreatDoor
open Go.ChangeShapes Go.WideShapes Go.ChangeAt Go.RowKit
def Kids (lo B : Nat) (w : World) (R : Value -> Tree -> Prop) (v : Value) (ks : List Tree) : Prop :=
  ∃ ao cap, v = .slice ao ks.length cap /\ ks.length <= 4294967296 /\ ∀ i k, ks[i]? = some k -> ∃ g off c0 c1 c2 c3 c4 c5, ao = some ⟨g, off, none⟩ /\ lo <= g /\ g < B /\ (∃ cs fr, w.heap[g]? = some (.cells cs 57 fr)) /\
    w.cell? ⟨g, off + i * 6, none⟩ = some c0 /\ w.cell? ⟨g, off + i * 6 + 1, none⟩ = some c1 /\ w.cell? ⟨g, off + i * 6 + 2, none⟩ = some c2 /\ w.cell? ⟨g, off + i * 6 + 3, none⟩ = some c3 /\ w.cell? ⟨g, off + i * 6 + 4, none⟩ = some c4 /\ w.cell? ⟨g, off + i * 6 + 5, none⟩ = some c5 /\
    R (.agg #[c0, c1, c2, c3, c4, c5]) k

def ERep (lo B : Nat) (w : World) : Nat -> Value -> Tree -> Prop
  | 0, _, _ => False
  | n + 1, v, t => t.value < 18446744073709551616 /\ ∃ kv, v = .agg #[.int .i64 t.kind, .int .i64 t.op, .string t.name, .int .u64 t.value, kv, .int .i64 t.at_] /\ Kids lo B w (fun v' t' => ERep lo B w n v' t') kv t.kids

def Same35 (lo B : Nat) (w w' : World) : Prop := ∀ g cs fr, lo <= g -> g < B -> w.heap[g]? = some (.cells cs 57 fr) -> w'.heap[g]? = some (.cells cs 57 fr)
theorem Same35.of_below {lo B : Nat} {w w' : World} (hb : Below B w w') : Same35 lo B w w' := fun g cs fr _ hg h => (hb.block g hg).trans h
theorem Same35.refl (lo B : Nat) (w : World) : Same35 lo B w w := fun _ _ _ _ _ h => h
theorem Kids.carry {lo lo' B B' : Nat} {w w' : World} {R R' : Value -> Tree -> Prop} {v : Value} {ks : List Tree} (h : Kids lo B w R v ks) (hlo : lo' <= lo) (hB : B <= B') (hb : Same35 lo B w w') (hR : ∀ v k, R v k -> R' v k) : Kids lo' B' w' R' v ks := by
  obtain ⟨ao, cap, rfl, hl, h⟩ := h
  refine ⟨ao, cap, rfl, hl, fun i k hk => ?_⟩
  obtain ⟨g, off, c0, c1, c2, c3, c4, c5, e, hgl, hg, ⟨cs, fr, hc⟩, h0, h1, h2, h3, h4, h5, hr⟩ := h i k hk
  have hc' := hb g cs fr hgl hg hc
  have key : ∀ o, w'.cell? ⟨g, o, none⟩ = w.cell? ⟨g, o, none⟩ := fun o => World.cell?_of_block (by rw [hc', hc])
  exact ⟨g, off, c0, c1, c2, c3, c4, c5, e, by omega, by omega, ⟨cs, fr, hc'⟩, (key _).trans h0, (key _).trans h1, (key _).trans h2, (key _).trans h3, (key _).trans h4, (key _).trans h5, hR _ _ hr⟩
theorem ERep.carry {lo lo' B B' : Nat} {w w' : World} (hlo : lo' <= lo) (hB : B <= B') (hb : Same35 lo B w w') : ∀ {n : Nat} {v : Value} {t : Tree}, ERep lo B w n v t -> ERep lo' B' w' n v t
  | 0, _, _, h => h.elim
  | n + 1, v, t, ⟨h1, kv, h2, h3⟩ => ⟨h1, kv, h2, h3.carry hlo hB hb fun _ _ hr => ERep.carry hlo hB hb hr⟩
theorem ERep.mono {lo B B' : Nat} {w w' : World} (hB : B <= B') (hb : Below B w w') {n : Nat} {v : Value} {t : Tree} (h : ERep lo B w n v t) : ERep lo B' w' n v t := h.carry (Nat.le_refl _) hB (Same35.of_below hb)
theorem Kids.on {lo B : Nat} {w w' : World} {n : Nat} {v : Value} {ks : List Tree} (h : Kids lo B w (fun v' t' => ERep lo B w n v' t') v ks) (hb : Below B w w') : Kids lo B w' (fun v' t' => ERep lo B w' n v' t') v ks :=
  h.carry (Nat.le_refl _) (Nat.le_refl _) (Same35.of_below hb) fun _ _ hr => hr.mono (Nat.le_refl _) hb
theorem ERep.lift {lo B : Nat} {w : World} : ∀ {n : Nat} {v : Value} {t : Tree}, ERep lo B w n v t -> ERep lo B w (n + 1) v t
  | 0, _, _, h => h.elim
  | n + 1, v, t, ⟨h1, kv, h2, h3⟩ => ⟨h1, kv, h2, h3.carry (Nat.le_refl _) (Nat.le_refl _) (Same35.refl _ _ _) fun _ _ hr => ERep.lift hr⟩
theorem ERep.up {lo B : Nat} {w : World} {n : Nat} {v : Value} {t : Tree} (h : ERep lo B w n v t) : ∀ {m : Nat}, n <= m -> ERep lo B w m v t := fun {m} hm => by
  induction m with
  | zero => obtain rfl : n = 0 := by omega
            exact h
  | succ m ih =>
    by_cases e : n = m + 1
    · subst e; exact h
    · exact (ih (by omega)).lift

def Wrote (B b : Nat) (l : List UInt8) (d : Int) (w : World) (x : List UInt8) (e : Ending) (w' : World) : Prop := e = .returned (.tuple #[]) /\ PageAt B b (l ++ x) d w' /\ Stay B b w w'

def ExprC (n : Nat) : Prop := ∀ (B b : Nat) (l : List UInt8) (d : Int) (t : Tree) (v : Value) (p : Nat) (w : World), PageAt B b l d w -> ERep 0 B w n v t -> Vars B w -> p <= 100 -> l.length + (etext n t p).length <= 70368744177664 ->
    Calls Tryz.prog 102 #[.pointer (some ⟨b, 0, none⟩), v, .int .i64 p] w (Wrote B b l d w (etext n t p))
set_option maxHeartbeats 2000000 in
set_option maxRecDepth 100000 in
theorem part_of {n : Nat} (ih : ExprC n) (B b : Nat) (l : List UInt8) (d : Int) (ks : List Tree) (v : Value) (i p : Nat) (w : World) (hP : PageAt B b l d w) (hK : Kids 0 B w (fun v' t' => ERep 0 B w n v' t') v ks) (hV : Vars B w) (hi : i <= 2) (hp : p <= 100)
    (hlen : l.length + (epart n ks i p).length <= 70368744177664) :
    Calls Tryz.prog 81 #[.pointer (some ⟨b, 0, none⟩), v, .int .i64 i, .int .i64 p] w (Wrote B b l d w (epart n ks i p)) := by
  obtain ⟨ao, cap, rfl, hkl, hK⟩ := hK
  by_cases hlt : i < ks.length
  · obtain ⟨k, hk⟩ : ∃ k, ks[i]? = some k := ⟨ks[i], by simp [hlt]⟩
    obtain ⟨g, off, c0, c1, c2, c3, c4, c5, rfl, _, hg, _, h0, h1, h2, h3, h4, h5, hr⟩ := hK i k hk
    rw [epart_some hk] at hlen ⊢
    clear hK hk
    go_enter Tryz.func81, Tryz.ntmps81
    go_wp2_with (go_at_call 102; refine (ih B b l d k _ p _ hP hr hV hp hlen).mono ?_; rintro e w' ⟨rfl, hP', hb'⟩)
    go_end0
    exact ⟨rfl, hP', hb'⟩
  · have hnone : ks[i]? = none := by simp; omega
    rw [epart_none hnone] at hlen ⊢
    simp only [List.length_cons, List.length_nil] at hlen
    clear hK hnone
    go_enter Tryz.func81, Tryz.ntmps81
    go_wp2_with (go_at_call 48; refine (writeString_any B b l d ⟨#[63]⟩ _ hP (by simp [ByteArray.size]; omega)).mono ?_; rintro e w' ⟨rfl, hP', hb'⟩)
    go_end0
    exact ⟨rfl, hP'.page, hb'⟩
theorem part_at {n : Nat} (ih : ExprC n) (B b : Nat) (l : List UInt8) (d : Int) (ks : List Tree) (v : Value) (i p : Nat) (q : Int) (hq : Hid (q = p)) (w : World) (hP : PageAt B b l d w) (hK : Kids 0 B w (fun v' t' => ERep 0 B w n v' t') v ks) (hV : Vars B w) (hi : i <= 2) (hp : p <= 100)
    (hlen : l.length + (epart n ks i p).length <= 70368744177664) :
    Calls Tryz.prog 81 #[.pointer (some ⟨b, 0, none⟩), v, .int .i64 i, .int .i64 q] w (Wrote B b l d w (epart n ks i p)) := by
  rw [hq.out]
  exact part_of ih B b l d ks v i p w hP hK hV hi hp hlen
theorem op_cases (o : Int) : o = 0 \/ o = 1 \/ o = 2 \/ o = 3 \/ o = 4 \/ o = 5 \/ o = 6 \/ o = 7 \/ o = 8 \/ o = 9 \/ (¬ o = 0 /\ ¬ o = 1 /\ ¬ o = 2 /\ ¬ o = 3 /\ ¬ o = 4 /\ ¬ o = 5 /\ ¬ o = 6 /\ ¬ o = 7 /\ ¬ o = 8 /\ ¬ o = 9) := by omega
theorem tight_any (o : Int) (w : World) :
    Calls Tryz.prog 136 #[.int .i64 o] w fun e w' => e = .returned (.int .i64 (tightN o : Int)) /\ w' = w := by
  rcases op_cases o with rfl | rfl | rfl | rfl | rfl | rfl | rfl | rfl | rfl | rfl | ⟨e0, e1, e2, e3, e4, e5, e6, e7, e8, e9⟩
  case inr.inr.inr.inr.inr.inr.inr.inr.inr.inr =>
    have ht : tightN o = 0 := by simp [tightN, *]
    go_enter Tryz.func136, Tryz.ntmps136
    go_wp2
    go_ret
    exact ⟨by rw [ht]; rfl, rfl⟩
  all_goals
    go_enter Tryz.func136, Tryz.ntmps136
    go_wp2
    go_ret
    exact ⟨rfl, rfl⟩

theorem signs_any (o : Nat) (ho : o <= 9) (w : World) :
    Calls Tryz.prog 41 #[] w fun e w' => ∃ g, e = .returned (.slice (some ⟨g, 0, none⟩) 10 10) /\ w'.cell? ⟨g, o, none⟩ = some (.string (bstr (signL o))) /\ Below w.heap.size w w' := by
  go_enter Tryz.func41, Tryz.ntmps41
  go_wp2
  go_ret
  refine ⟨_, rfl, ?_, (Below.refl _ _).alloc (Nat.le_refl _) _⟩
  rcases op_cases o with h | h | h | h | h | h | h | h | h | h | h
  case inr.inr.inr.inr.inr.inr.inr.inr.inr.inr => omega
  all_goals
    (obtain rfl : o = _ := Int.ofNat.inj h
     simp [go_sem, signL, bstr])

set_option maxHeartbeats 4000000 in
set_option maxRecDepth 100000 in
theorem cell_of {n : Nat} (ih : ExprC n) (B b : Nat) (l : List UInt8) (d : Int) (s : ByteArray) (ks : List Tree) (v : Value) (w : World) (hP : PageAt B b l d w) (hK : Kids 0 B w (fun v' t' => ERep 0 B w n v' t') v ks) (hV : Vars B w)
    (hlen : l.length + (cellText n s ks).length <= 70368744177664) :
    Calls Tryz.prog 80 #[.pointer (some ⟨b, 0, none⟩), .string s, v] w (Wrote B b l d w (cellText n s ks)) := by
  have HT : Hid (l ++ cellText n s ks = l ++ bys s ++ [91] ++ epart n ks 0 0 ++ [93]) := by show _ = _; simp [cellText]
  have hl : (l ++ cellText n s ks).length <= 70368744177664 := by simpa using hlen
  rw [HT.out] at hl
  simp only [List.length_append, List.length_cons, List.length_nil, bys_length] at hl
  go_enter Tryz.func80, Tryz.ntmps80
  go_wp2_with (go_at_call 48; refine (writeString_any B b l d s _ hP (by omega)).mono ?_; rintro e w1 ⟨rfl, hP1, hb1⟩)
  go_wp2_with (go_at_call 51; refine (writeByte_any B b _ d 91 _ hP1.page (by simp only [List.length_append, bys_length]; omega)).mono ?_; rintro e w2 ⟨rfl, hP2, hb2⟩)
  go_wp2_with (go_at_call 81; refine (part_of ih B b _ d ks v 0 0 _ hP2.page (hK.on (hb1.trans hb2).1) (hV.on (hb1.trans hb2).1) (by omega) (by omega) (by simp only [List.length_append, bys_length, List.length_cons, List.length_nil]; omega)).mono ?_; rintro e w3 ⟨rfl, hP3, hb3⟩)
  go_wp2_with (go_at_call 51; refine (writeByte_any B b _ d 93 _ hP3 (by simp only [List.length_append, bys_length, List.length_cons, List.length_nil]; omega)).mono ?_; rintro e w4 ⟨rfl, hP4, hb4⟩)
  go_end0
  exact ⟨rfl, by rw [HT.out]; exact hP4.page, ((hb1.trans hb2).trans hb3).trans hb4⟩

set_option maxHeartbeats 4000000 in
set_option maxRecDepth 100000 in
theorem pick_of {n : Nat} (ih : ExprC n) (B b : Nat) (l : List UInt8) (d : Int) (ks : List Tree) (v : Value) (w : World) (hP : PageAt B b l d w) (hK : Kids 0 B w (fun v' t' => ERep 0 B w n v' t') v ks) (hV : Vars B w)
    (hlen : l.length + (pickText n ks).length <= 70368744177664) :
    Calls Tryz.prog 117 #[.pointer (some ⟨b, 0, none⟩), v] w (Wrote B b l d w (pickText n ks)) := by
  have HT : Hid (l ++ pickText n ks = l ++ bys ⟨#[112, 105, 99, 107, 40]⟩ ++ epart n ks 0 0 ++ bys ⟨#[44, 32]⟩ ++ epart n ks 1 0 ++ bys ⟨#[44, 32]⟩ ++ epart n ks 2 0 ++ [41]) := by show _ = _; simp [pickText, bys]
  have hl : (l ++ pickText n ks).length <= 70368744177664 := by simpa using hlen
  rw [HT.out] at hl
  simp only [List.length_append, List.length_cons, List.length_nil, bys_length] at hl
  have e1 : (ByteArray.mk #[112, 105, 99, 107, 40]).size = 5 := rfl
  have e2 : (ByteArray.mk #[44, 32]).size = 2 := rfl
  rw [e1, e2] at hl
  go_enter Tryz.func117, Tryz.ntmps117
  go_wp2_with (go_at_call 48; refine (writeString_any B b l d ⟨#[112, 105, 99, 107, 40]⟩ _ hP (by rw [e1]; omega)).mono ?_; rintro e w1 ⟨rfl, hP1, hb1⟩)
  go_wp2_with (go_at_call 81; refine (part_of ih B b _ d ks v 0 0 _ hP1.page (hK.on hb1.1) (hV.on hb1.1) (by omega) (by omega) (by simp only [List.length_append, bys_length, List.length_cons, List.length_nil, e1]; omega)).mono ?_; rintro e w2 ⟨rfl, hP2, hb2⟩)
  go_wp2_with (go_at_call 48; refine (writeString_any B b _ d ⟨#[44, 32]⟩ _ hP2 (by simp only [List.length_append, bys_length, List.length_cons, List.length_nil, e1, e2]; omega)).mono ?_; rintro e w3 ⟨rfl, hP3, hb3⟩)
  have hb13 := (hb1.trans hb2).trans hb3
  go_wp2_with (go_at_call 81; refine (part_of ih B b _ d ks v 1 0 _ hP3.page (hK.on hb13.1) (hV.on hb13.1) (by omega) (by omega) (by simp only [List.length_append, bys_length, List.length_cons, List.length_nil, e1, e2]; omega)).mono ?_; rintro e w4 ⟨rfl, hP4, hb4⟩)
  go_wp2_with (go_at_call 48; refine (writeString_any B b _ d ⟨#[44, 32]⟩ _ hP4 (by simp only [List.length_append, bys_length, List.length_cons, List.length_nil, e1, e2]; omega)).mono ?_; rintro e w5 ⟨rfl, hP5, hb5⟩)
  have hb15 := (hb13.trans hb4).trans hb5
  go_wp2_with (go_at_call 81; refine (part_of ih B b _ d ks v 2 0 _ hP5.page (hK.on hb15.1) (hV.on hb15.1) (by omega) (by omega) (by simp only [List.length_append, bys_length, List.length_cons, List.length_nil, e1, e2]; omega)).mono ?_; rintro e w6 ⟨rfl, hP6, hb6⟩)
  go_wp2_with (go_at_call 51; refine (writeByte_any B b _ d 41 _ hP6 (by simp only [List.length_append, bys_length, List.length_cons, List.length_nil, e1, e2]; omega)).mono ?_; rintro e w7 ⟨rfl, hP7, hb7⟩)
  go_end0
  exact ⟨rfl, by rw [HT.out]; exact hP7.page, (hb15.trans hb6).trans hb7⟩
theorem Stay.drew {B b : Nat} {a w : World} (h : Stay B b a w) : Stay B b a w.drew := ⟨h.1.drew, h.2⟩
theorem Stay.of_drew {B b : Nat} {w w' : World} (h : Below w.drew.heap.size w.drew w') (hB : B <= w.heap.size) : Stay B b w w' :=
  ⟨⟨h.os, h.tape, h.output, h.size, fun k hk => h.block k (Nat.lt_of_lt_of_le hk hB)⟩, fun k cs t fr _ _ hk => (h.block k (heap_lt hk)).trans hk⟩
theorem box_cells {w : World} {k : Nat} {x0 x1 x2 x3 x4 x5 : Value} (h : w.heap[k]? = some (.cells #[x0, x1, x2, x3, x4, x5] 57 (0, 0))) :
    w.cell? ⟨k, 0, none⟩ = some x0 /\ w.cell? ⟨k, 1, none⟩ = some x1 /\ w.cell? ⟨k, 2, none⟩ = some x2 /\ w.cell? ⟨k, 3, none⟩ = some x3 /\ w.cell? ⟨k, 4, none⟩ = some x4 /\ w.cell? ⟨k, 5, none⟩ = some x5 := by
  refine ⟨?_, ?_, ?_, ?_, ?_, ?_⟩ <;> (rw [Lib.cell_of_heap h]; rfl)

set_option maxHeartbeats 4000000 in
set_option maxRecDepth 100000 in
theorem binary_core {n : Nat} (ih : ExprC n) (B b : Nat) (l : List UInt8) (d : Int) (t : Tree) (v : Value) (p : Nat) (w : World) (hP : PageAt B b l d w) (hE : ERep 0 B w (n + 1) v t) (hV : Vars B w) (hp : p <= 100) (h0 : tightN t.op ≠ 0) (hnl : ¬ tightN t.op < p)
    (hlen : l.length + (binText n t).length <= 70368744177664) :
    Calls Tryz.prog 116 #[.pointer (some ⟨b, 0, none⟩), v, .int .i64 p] w (Wrote B b l d w (binText n t)) := by
  obtain ⟨hv64, kv, rfl, hK⟩ := hE
  obtain ⟨tk, top, tn, tv, ks, tat⟩ := t
  dsimp only at *
  obtain ⟨o, rfl, ho⟩ : ∃ o : Nat, top = o /\ o <= 9 := by
    by_cases h : 0 <= top /\ top <= 9
    · exact ⟨top.toNat, by omega, by omega⟩
    · exact absurd (tightN_none top (by omega)) h0
  have HT : Hid (l ++ binText n ⟨tk, o, tn, tv, ks, tat⟩ = l ++ epart n ks 0 (tightN o) ++ [32] ++ bys (bstr (signL o)) ++ [32] ++ epart n ks 1 (tightN o + 1)) := by show _ = _; simp [binText, bys_bstr]
  have hl : (l ++ binText n ⟨tk, o, tn, tv, ks, tat⟩).length <= 70368744177664 := by simpa using hlen
  rw [HT.out] at hl
  simp only [List.length_append, List.length_cons, List.length_nil, bys_length] at hl
  have ht7 := tightN_le (o : Int)
  obtain ⟨T, hT⟩ : ∃ T, T = tightN (o : Int) := ⟨_, rfl⟩
  have Htight := tight_any (o : Int)
  rw [<- hT] at Htight h0 hnl hl HT ht7
  clear hT hlen
  have hBw := hP.base
  have hlt := hP.lt
  have hA : Stay B b w (w.alloc (.cells #[.int .i64 tk, .int .i64 (o : Int), .string tn, .int .u64 tv, kv, .int .i64 tat] 57)) := (Stay.refl _ _ _).alloc hBw _
  have hbox : (w.alloc (.cells #[.int .i64 tk, .int .i64 (o : Int), .string tn, .int .u64 tv, kv, .int .i64 tat] 57)).heap[w.heap.size]? = some (.cells #[.int .i64 tk, .int .i64 (o : Int), .string tn, .int .u64 tv, kv, .int .i64 tat] 57 (0, 0)) := heap_alloc_new w _
  have HB : Hid (w.heap.size ≠ b) := by show _ ≠ _; omega
  have HBox := Lib.hid hbox
  clear hbox
  have hlen1 : ((epart n ks 0 T).length) <= 70368744177664 := by omega
  go_enter Tryz.func116, Tryz.ntmps116
  go_wp2_with (go_at_call 136; refine (Htight _).mono ?_; rintro e w' ⟨rfl, rfl⟩)
  go_wp2_with (go_at_call 81; refine (part_of ih B b l d ks kv 0 T _ (hP.alloc _) (hK.on hA.1) (hV.on hA.1) (by omega) (by omega) (by omega)).mono ?_; rintro e w1 ⟨rfl, hP1, hb1⟩)
  have hbx1 := hb1.2 _ _ _ _ HB.out (by decide) HBox.out
  obtain ⟨a0, a1, a2, a3, a4, a5⟩ := box_cells hbx1
  go_wp2_with (go_at_call 51; refine (writeByte_any B b _ d 32 _ hP1 (by simp only [List.length_append]; omega)).mono ?_; rintro e w2 ⟨rfl, hP2, hb2⟩)
  have hbx2 := hb2.2 _ _ _ _ HB.out (by decide) hbx1
  clear a0 a1 a2 a3 a4 a5
  obtain ⟨a0, a1, a2, a3, a4, a5⟩ := box_cells hbx2
  have HP2 := Lib.hid hP2
  have Hb2 := Lib.hid hb2
  clear hb2 hP2
  go_wp2
  go_region_with (first
    | (go_at_call 41; refine (signs_any o ho _).mono ?_; rintro e w3 ⟨g, rfl, hc3, hb3⟩; have hP3 := (HP2.out.page.drew).below hb3; have hbx3 := (hb3.block w.heap.size (heap_lt hbx2)).trans hbx2; obtain ⟨z0, z1, z2, z3, z4, z5⟩ := box_cells hbx3)
    | (go_at_call 48; refine (writeString_any B b _ d (bstr (signL o)) _ (by assumption) (by simp only [List.length_append, List.length_cons, List.length_nil]; omega)).mono ?_; rintro e w4 ⟨rfl, hP4, hb4⟩))
  all_goals (
    have hb2 := Hb2.out
    have hb03 : Stay B b w w3 := ((hA.trans hb1).trans hb2).trans (Stay.of_drew hb3 (Nat.le_trans hBw (Nat.le_trans (by simp) (Nat.le_trans hb1.1.size hb2.1.size))))
    have hbx4 := hb4.2 _ _ _ _ HB.out (by decide) hbx3
    clear hb2 hb3 hc3 a0 a1 a2 a3 a4 a5 z0 z1 z2 z3 z4 z5
    obtain ⟨a0, a1, a2, a3, a4, a5⟩ := box_cells hbx4
    go_wp2_with (go_at_call 51; refine (writeByte_any B b _ d 32 _ hP4.page (by simp only [List.length_append, List.length_cons, List.length_nil, bys_length]; omega)).mono ?_; rintro e w5 ⟨rfl, hP5, hb5⟩; have hbx5 := hb5.2 _ _ _ _ HB.out (by decide) hbx4; clear a0 a1 a2 a3 a4 a5; obtain ⟨a0, a1, a2, a3, a4, a5⟩ := box_cells hbx5)
    have hb05 := (hb03.trans hb4).trans hb5
    go_wp2_with (go_at_call 81; refine (part_at ih B b _ d ks kv 1 (T + 1) ((T : Int) + 1) (by show _ = _; omega) _ hP5.page (hK.on hb05.1) (hV.on hb05.1) (by omega) (by omega) (by simp only [List.length_append, List.length_cons, List.length_nil, bys_length]; omega)).mono ?_; rintro e w6 ⟨rfl, hP6, hb6⟩)
    go_end0
    exact ⟨rfl, by rw [HT.out]; exact hP6, hb05.trans hb6⟩)

set_option maxHeartbeats 4000000 in
set_option maxRecDepth 100000 in
theorem binary_of {n : Nat} (ih : ExprC n) (B b : Nat) (l : List UInt8) (d : Int) (t : Tree) (v : Value) (p : Nat) (w : World) (hP : PageAt B b l d w) (hE : ERep 0 B w (n + 1) v t) (hV : Vars B w) (hp : p <= 100)
    (hlen : l.length + (binTextAt n t p).length <= 70368744177664) :
    Calls Tryz.prog 116 #[.pointer (some ⟨b, 0, none⟩), v, .int .i64 p] w (Wrote B b l d w (binTextAt n t p)) := by
  have hE0 := hE
  obtain ⟨hv64, kv, rfl, hK⟩ := hE
  have hBw := hP.base
  have hlt := hP.lt
  have ht7 := tightN_le t.op
  have HB : Hid (w.heap.size ≠ b) := by show _ ≠ _; omega
  have hA : Stay B b w (w.alloc (.cells #[.int .i64 t.kind, .int .i64 t.op, .string t.name, .int .u64 t.value, kv, .int .i64 t.at_] 57)) := (Stay.refl _ _ _).alloc hBw _
  have HBox := Lib.hid (show (w.alloc (.cells #[.int .i64 t.kind, .int .i64 t.op, .string t.name, .int .u64 t.value, kv, .int .i64 t.at_] 57)).heap[w.heap.size]? = some (.cells #[.int .i64 t.kind, .int .i64 t.op, .string t.name, .int .u64 t.value, kv, .int .i64 t.at_] 57 (0, 0)) from heap_alloc_new w _)
  by_cases h0 : tightN t.op = 0
  · have e : binTextAt n t p = [63] := by simp [binTextAt, h0]
    rw [e] at hlen ⊢
    simp only [List.length_cons, List.length_nil] at hlen
    have Htight := tight_any t.op
    rw [h0] at Htight
    clear e
    go_enter Tryz.func116, Tryz.ntmps116
    go_wp2_with (first | (go_at_call 136; refine (Htight _).mono ?_; rintro e w' ⟨rfl, rfl⟩) | (go_at_call 48; refine (writeString_any B b l d ⟨#[63]⟩ _ (hP.alloc _) (by simp [ByteArray.size]; omega)).mono ?_; rintro e w1 ⟨rfl, hP1, hb1⟩))
    go_end0
    exact ⟨rfl, hP1.page, hA.trans hb1⟩
  · by_cases hlp : tightN t.op < p
    · have e : binTextAt n t p = [40] ++ binText n t ++ [41] := by simp [binTextAt, h0, hlp]
      have HT : Hid (l ++ binTextAt n t p = l ++ [40] ++ binText n t ++ [41]) := by show _ = _; rw [e]; simp
      rw [e] at hlen
      simp only [List.length_append, List.length_cons, List.length_nil] at hlen
      have Htight := tight_any t.op
      obtain ⟨T, hT⟩ : ∃ T, T = tightN t.op := ⟨_, rfl⟩
      rw [<- hT] at Htight h0 hlp ht7
      have HT0 := Lib.hid hT
      clear e hT
      go_enter Tryz.func116, Tryz.ntmps116
      go_wp2_with (first | (go_at_call 136; refine (Htight _).mono ?_; rintro e w' ⟨rfl, rfl⟩) | (go_at_call 51; refine (writeByte_any B b l d 40 _ (hP.alloc _) (by omega)).mono ?_; rintro e w1 ⟨rfl, hP1, hb1⟩; have hbx1 := hb1.2 _ _ _ _ HB.out (by decide) HBox.out; obtain ⟨a0, a1, a2, a3, a4, a5⟩ := box_cells hbx1))
      have hb01 := hA.trans hb1
      go_wp2_with (go_at_call 116; refine (binary_core ih B b _ d t _ T _ hP1.page (hE0.mono (Nat.le_refl _) hb01.1) (hV.on hb01.1) (by omega) (by rw [<- HT0.out]; exact h0) (by rw [<- HT0.out]; omega) (by simp only [List.length_append, List.length_cons, List.length_nil]; omega)).mono ?_; rintro e w2 ⟨rfl, hP2, hb2⟩)
      go_wp2_with (go_at_call 51; refine (writeByte_any B b _ d 41 _ hP2 (by simp only [List.length_append, List.length_cons, List.length_nil]; omega)).mono ?_; rintro e w3 ⟨rfl, hP3, hb3⟩)
      go_end0
      exact ⟨rfl, by rw [HT.out]; exact hP3.page, (hb01.trans hb2).trans hb3⟩
    · have e : binTextAt n t p = binText n t := by simp [binTextAt, h0, hlp]
      rw [e] at hlen ⊢
      exact binary_core ih B b l d t _ p w hP hE0 hV hp h0 hlp hlen
theorem kind_cases (k : Int) : k = 0 \/ k = 1 \/ k = 2 \/ k = 3 \/ k = 4 \/ k = 5 \/ (k ≠ 0 /\ k ≠ 1 /\ k ≠ 2 /\ k ≠ 3 /\ k ≠ 4 /\ k ≠ 5) := by omega

set_option maxHeartbeats 4000000 in
set_option maxRecDepth 100000 in
theorem expr_step {n : Nat} (ih : ExprC n) : ExprC (n + 1) := by
  intro B b l d t v p w hP hE hV hp hlen
  have hE0 := hE
  obtain ⟨hv64, kv, rfl, hK⟩ := hE
  have hBw := hP.base
  have hlt := hP.lt
  have HB : Hid (w.heap.size ≠ b) := by show _ ≠ _; omega
  have hA : Stay B b w (w.alloc (.cells #[.int .i64 t.kind, .int .i64 t.op, .string t.name, .int .u64 t.value, kv, .int .i64 t.at_] 57)) := (Stay.refl _ _ _).alloc hBw _
  have HBox := Lib.hid (show (w.alloc (.cells #[.int .i64 t.kind, .int .i64 t.op, .string t.name, .int .u64 t.value, kv, .int .i64 t.at_] 57)).heap[w.heap.size]? = some (.cells #[.int .i64 t.kind, .int .i64 t.op, .string t.name, .int .u64 t.value, kv, .int .i64 t.at_] 57 (0, 0)) from heap_alloc_new w _)
  have hPA := hP.alloc (.cells #[.int .i64 t.kind, .int .i64 t.op, .string t.name, .int .u64 t.value, kv, .int .i64 t.at_] 57)
  rcases kind_cases t.kind with hk | hk | hk | hk | hk | hk | ⟨k0, k1, k2, k3, k4, k5⟩
  · rw [etext_lit n t p hk] at hlen ⊢
    have hdl := decDigits_len t.value hv64
    obtain ⟨ds, hds⟩ : ∃ ds, ds = Lib.decDigits t.value := ⟨_, rfl⟩
    have Hfmt := formatUint_any t.value hv64
    rw [<- hds] at hlen hdl Hfmt ⊢
    clear hds
    rw [hk] at hA hPA HBox ⊢
    go_enter Tryz.func102, Tryz.ntmps102
    go_wp2
    go_region_with (first
      | (go_at_call 115; refine (Hfmt B _ (hV.on hA.drew.1)).mono ?_; rintro e w1 ⟨rfl, hb1⟩; have hP1 := hPA.drew.below hb1)
      | (go_at_call 48; refine (writeString_any B b l d (bstr ds) _ hP1 (by rw [bstr_size]; omega)).mono ?_; rintro e w2 ⟨rfl, hP2, hb2⟩))
    all_goals (
      go_wp2
      go_end0
      exact ⟨rfl, hP2.page, (hA.trans (Stay.of_drew hb1 (Nat.le_trans hBw (by simp)))).trans hb2⟩)
  · rw [etext_name n t p hk] at hlen ⊢
    rw [bys_length] at hlen
    rw [hk] at hA hPA HBox ⊢
    go_enter Tryz.func102, Tryz.ntmps102
    go_wp2
    go_region_with (go_at_call 48; refine (writeString_any B b l d t.name _ hPA.drew (by omega)).mono ?_; rintro e w2 ⟨rfl, hP2, hb2⟩)
    all_goals (
      go_wp2
      go_end0
      exact ⟨rfl, hP2.page, hA.drew.trans hb2⟩)
  · rw [etext_cell n t p hk] at hlen ⊢
    rw [hk] at hA hPA HBox ⊢
    go_enter Tryz.func102, Tryz.ntmps102
    go_wp2_with (go_at_call 80; refine (cell_of ih B b l d t.name t.kids kv _ hPA (hK.on hA.1) (hV.on hA.1) hlen).mono ?_; rintro e w2 ⟨rfl, hP2, hb2⟩)
    go_end0
    exact ⟨rfl, hP2, hA.trans hb2⟩
  · rw [etext_bin n t p hk] at hlen ⊢
    have Hb := binary_of ih B b l d t _ p _ hPA (hE0.mono (Nat.le_refl _) hA.1) (hV.on hA.1) hp hlen
    rw [hk] at hA hPA HBox Hb ⊢
    go_enter Tryz.func102, Tryz.ntmps102
    go_wp2_with (go_at_call 116; refine Hb.mono ?_; rintro e w2 ⟨rfl, hP2, hb2⟩)
    go_end0
    exact ⟨rfl, hP2, hA.trans hb2⟩
  · rw [etext_not n t p hk] at hlen ⊢
    simp only [List.length_append, List.length_cons, List.length_nil] at hlen
    rw [hk] at hA hPA HBox ⊢
    go_enter Tryz.func102, Tryz.ntmps102
    go_wp2_with (go_at_call 51; refine (writeByte_any B b l d 126 _ hPA (by omega)).mono ?_; rintro e w1 ⟨rfl, hP1, hb1⟩; have hbx1 := hb1.2 _ _ _ _ HB.out (by decide) HBox.out; obtain ⟨a0, a1, a2, a3, a4, a5⟩ := box_cells hbx1)
    have hb01 := hA.trans hb1
    go_wp2_with (go_at_call 81; refine (part_of ih B b _ d t.kids kv 0 9 _ hP1.page (hK.on hb01.1) (hV.on hb01.1) (by omega) (by omega) (by simp only [List.length_append, List.length_cons, List.length_nil]; omega)).mono ?_; rintro e w2 ⟨rfl, hP2, hb2⟩)
    go_end0
    exact ⟨rfl, by simpa using hP2, hb01.trans hb2⟩
  · rw [etext_pick n t p hk] at hlen ⊢
    rw [hk] at hA hPA HBox ⊢
    go_enter Tryz.func102, Tryz.ntmps102
    go_wp2_with (go_at_call 117; refine (pick_of ih B b l d t.kids kv _ hPA (hK.on hA.1) (hV.on hA.1) hlen).mono ?_; rintro e w2 ⟨rfl, hP2, hb2⟩)
    go_end0
    exact ⟨rfl, hP2, hA.trans hb2⟩
  · rw [etext_else n t p k0 k1 k2 k3 k4 k5] at hlen ⊢
    simp only [List.length_cons, List.length_nil] at hlen
    go_enter Tryz.func102, Tryz.ntmps102
    go_wp2_with (go_at_call 48; refine (writeString_any B b l d ⟨#[63]⟩ _ hPA (by simp [ByteArray.size]; omega)).mono ?_; rintro e w1 ⟨rfl, hP1, hb1⟩)
    go_end0
    exact ⟨rfl, hP1.page, hA.trans hb1⟩

theorem expr_all : ∀ n, ExprC n
  | 0 => fun B b l d t v p w _ hE => hE.elim
  | n + 1 => expr_step (expr_all n)

theorem etext_ne : ∀ (n : Nat) (t : Tree) (p : Nat), t.kind ≠ 1 -> etext (n + 1) t p ≠ [] := by
  intro n t p h1
  rcases kind_cases t.kind with hk | hk | hk | hk | hk | hk | ⟨k0, k1, k2, k3, k4, k5⟩
  · rw [etext_lit n t p hk]
    intro e
    have := Lib.decDigits_length t.value
    have := Lib.nDigits_pos t.value
    rw [e] at *
    simp at *
    omega
  · exact absurd hk h1
  · rw [etext_cell n t p hk]; simp [cellText]
  · rw [etext_bin n t p hk]; unfold binTextAt; split
    · simp
    · split <;> simp [binText]
  · rw [etext_not n t p hk]; simp
  · rw [etext_pick n t p hk]; simp [pickText]
  · rw [etext_else n t p k0 k1 k2 k3 k4 k5]; simp
theorem alloc_at (w : World) (o : Obj) (k : Nat) : (w.alloc o).heap[k]? = if k = w.heap.size then some o else w.heap[k]? := by
  show (w.heap.push o)[k]? = _
  rw [Array.getElem?_push]
theorem alloc_size (w : World) (o : Obj) : (w.alloc o).heap.size = w.heap.size + 1 := by simp
def litT (v : Nat) : Tree := ⟨0, 0, ⟨#[]⟩, v, [], 0⟩
def nameT (s : ByteArray) : Tree := ⟨1, 0, s, 0, [], 0⟩
def cellT (s : ByteArray) (x : Tree) : Tree := ⟨2, 0, s, 0, [x], 0⟩
def binT (o : Int) (x y : Tree) : Tree := ⟨3, o, ⟨#[]⟩, 0, [x, y], 0⟩
def notT (x : Tree) : Tree := ⟨4, 0, ⟨#[]⟩, 0, [x], 0⟩
def pickT (x y z : Tree) : Tree := ⟨5, 0, ⟨#[]⟩, 0, [x, y, z], 0⟩

theorem kids0 {lo B : Nat} {w : World} {R : Value -> Tree -> Prop} : Kids lo B w R (.slice none 0 0) [] := ⟨none, 0, rfl, by simp, fun i k h => by simp at h⟩
theorem kids1 {lo B : Nat} {w : World} {R : Value -> Tree -> Prop} {g : Nat} {fr : Nat × Nat} {x0 x1 x2 x3 x4 x5 : Value} {x : Tree} (hg : w.heap[g]? = some (.cells #[x0, x1, x2, x3, x4, x5] 57 fr)) (hlo : lo <= g) (hB : g < B) (hx : R (.agg #[x0, x1, x2, x3, x4, x5]) x) :
    Kids lo B w R (.slice (some ⟨g, 0, none⟩) 1 1) [x] := by
  refine ⟨_, _, rfl, by simp, fun i k h => ?_⟩
  match i, h with
  | 0, h => simp at h; subst h; exact ⟨g, 0, x0, x1, x2, x3, x4, x5, rfl, hlo, hB, ⟨_, _, hg⟩, by simp [World.cell?, hg], by simp [World.cell?, hg], by simp [World.cell?, hg], by simp [World.cell?, hg], by simp [World.cell?, hg], by simp [World.cell?, hg], hx⟩
theorem kids2 {lo B : Nat} {w : World} {R : Value -> Tree -> Prop} {g : Nat} {fr : Nat × Nat} {x0 x1 x2 x3 x4 x5 y0 y1 y2 y3 y4 y5 : Value} {x y : Tree} (hg : w.heap[g]? = some (.cells #[x0, x1, x2, x3, x4, x5, y0, y1, y2, y3, y4, y5] 57 fr)) (hlo : lo <= g) (hB : g < B) (hx : R (.agg #[x0, x1, x2, x3, x4, x5]) x) (hy : R (.agg #[y0, y1, y2, y3, y4, y5]) y) :
    Kids lo B w R (.slice (some ⟨g, 0, none⟩) 2 2) [x, y] := by
  refine ⟨_, _, rfl, by simp, fun i k h => ?_⟩
  match i, h with
  | 0, h => simp at h; subst h; exact ⟨g, 0, x0, x1, x2, x3, x4, x5, rfl, hlo, hB, ⟨_, _, hg⟩, by simp [World.cell?, hg], by simp [World.cell?, hg], by simp [World.cell?, hg], by simp [World.cell?, hg], by simp [World.cell?, hg], by simp [World.cell?, hg], hx⟩
  | 1, h => simp at h; subst h; exact ⟨g, 0, y0, y1, y2, y3, y4, y5, rfl, hlo, hB, ⟨_, _, hg⟩, by simp [World.cell?, hg], by simp [World.cell?, hg], by simp [World.cell?, hg], by simp [World.cell?, hg], by simp [World.cell?, hg], by simp [World.cell?, hg], hy⟩
theorem kids3 {lo B : Nat} {w : World} {R : Value -> Tree -> Prop} {g : Nat} {fr : Nat × Nat} {x0 x1 x2 x3 x4 x5 y0 y1 y2 y3 y4 y5 z0 z1 z2 z3 z4 z5 : Value} {x y z : Tree} (hg : w.heap[g]? = some (.cells #[x0, x1, x2, x3, x4, x5, y0, y1, y2, y3, y4, y5, z0, z1, z2, z3, z4, z5] 57 fr)) (hlo : lo <= g) (hB : g < B) (hx : R (.agg #[x0, x1, x2, x3, x4, x5]) x) (hy : R (.agg #[y0, y1, y2, y3, y4, y5]) y) (hz : R (.agg #[z0, z1, z2, z3, z4, z5]) z) :
    Kids lo B w R (.slice (some ⟨g, 0, none⟩) 3 3) [x, y, z] := by
  refine ⟨_, _, rfl, by simp, fun i k h => ?_⟩
  match i, h with
  | 0, h => simp at h; subst h; exact ⟨g, 0, x0, x1, x2, x3, x4, x5, rfl, hlo, hB, ⟨_, _, hg⟩, by simp [World.cell?, hg], by simp [World.cell?, hg], by simp [World.cell?, hg], by simp [World.cell?, hg], by simp [World.cell?, hg], by simp [World.cell?, hg], hx⟩
  | 1, h => simp at h; subst h; exact ⟨g, 0, y0, y1, y2, y3, y4, y5, rfl, hlo, hB, ⟨_, _, hg⟩, by simp [World.cell?, hg], by simp [World.cell?, hg], by simp [World.cell?, hg], by simp [World.cell?, hg], by simp [World.cell?, hg], by simp [World.cell?, hg], hy⟩
  | 2, h => simp at h; subst h; exact ⟨g, 0, z0, z1, z2, z3, z4, z5, rfl, hlo, hB, ⟨_, _, hg⟩, by simp [World.cell?, hg], by simp [World.cell?, hg], by simp [World.cell?, hg], by simp [World.cell?, hg], by simp [World.cell?, hg], by simp [World.cell?, hg], hz⟩

theorem erep_lit {lo B : Nat} {w : World} {n v : Nat} (h : v < 18446744073709551616) : ERep lo B w (n + 1) (.agg #[.int .i64 0, .int .i64 0, .string ⟨#[]⟩, .int .u64 v, .slice none 0 0, .int .i64 0]) (litT v) := ⟨h, _, rfl, kids0⟩
theorem erep_name {lo B : Nat} {w : World} {n : Nat} (s : ByteArray) : ERep lo B w (n + 1) (.agg #[.int .i64 1, .int .i64 0, .string s, .int .u64 0, .slice none 0 0, .int .i64 0]) (nameT s) := ⟨by simp [nameT], _, rfl, kids0⟩
end Go.Proofs.YtfginegegaokbaaGreatDoor
