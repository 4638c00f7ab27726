/- The reader of package parse in memory, as plain data, and what its small functions do. Conditions: the reader lies in a block of its own, its tokens and signs in others. -/
import Derived.Test.YtfginegegaokbaaGreatDoorPPlain
import Derived.Test.YtfginegegaokbaaGreatDoorLxTok
import Derived.Test.YtfginegegaokbaaGreatDoorMakeRet
import Derived.Test.YtfginegegaokbaaGreatDoorStmRep
import Derived.BigRegion
namespace Go.Proofs.YtfginegegaokbaaGreatDoor.Pr
open Go.ChangeShapes Go.WideShapes Go.ChangeAt Go.RowKit
open Lx (Tok)
set_option linter.unusedVariables false
set_option linter.unusedSimpArgs false

def fitT (t : Tok) : Prop := t.kind ≤ 4 ∧ t.text.length ≤ 65536 ∧ t.value < 18446744073709551616 ∧ t.at_ ≤ 65536
/-- A token's four cells. -/
def TokAt (w : World) (g o : Nat) (t : Tok) : Prop :=
  w.cell? ⟨g, o, none⟩ = some (.int .i64 (t.kind : Int)) ∧ w.cell? ⟨g, o + 1, none⟩ = some (.string (bstr t.text)) ∧ w.cell? ⟨g, o + 2, none⟩ = some (.int .u64 (t.value : Int)) ∧ w.cell? ⟨g, o + 3, none⟩ = some (.int .i64 (t.at_ : Int))
def ToksAt (w : World) (g off : Nat) (ts : List Tok) : Prop :=
  (∃ cs fr, w.heap[g]? = some (.cells cs 48 fr)) ∧ ∀ (i : Nat) (t : Tok), ts[i]? = some t → fitT t ∧ TokAt w g (off + i * 4) t
/-- What was wrong first. -/
def ErrAt (w : World) (v : Value) : Option (Nat × Nat) → Prop
  | none => v = .nilIface
  | some e => ∃ fb, v = .iface 96 (.pointer (some ⟨fb, 0, none⟩)) ∧ w.heap[fb]? = some (.cells #[.int .i64 (e.2 : Int), .iface 38 (.int .i64 (e.1 : Int))] 100 (0, 0))
def signCells : Array Value := (signs10.map fun s => Value.string (bstr s)).toArray
/-- The reader in block br. -/
def RdAt (B br : Nat) (r : Rd) (w : World) : Prop :=
  B ≤ br ∧ r.good ∧ r.ts.length ≤ 65537 ∧ ∃ g off cap sg ev, w.heap[br]? = some (.cells #[.slice (some ⟨g, off, none⟩) r.ts.length cap, .slice (some ⟨sg, 0, none⟩) 10 10, ev] 81 (0, 0)) ∧ r.ts.length ≤ cap ∧ cap ≤ 9223372036854775807 ∧ ToksAt w g off r.ts ∧
    w.heap[sg]? = some (.cells signCells 9 (0, 0)) ∧ ErrAt w ev r.err
theorem RdAt.lt {B br : Nat} {r : Rd} {w : World} (h : RdAt B br r w) : br < w.heap.size := by
  obtain ⟨_, _, _, g, off, cap, sg, ev, hb, _⟩ := h
  exact heap_lt hb
theorem RdAt.base {B br : Nat} {r : Rd} {w : World} (h : RdAt B br r w) : B ≤ w.heap.size := by have := h.lt; have := h.1; omega
theorem ToksAt.same {w w' : World} {g off : Nat} {ts : List Tok} (h : ToksAt w g off ts) (hs : w'.heap[g]? = w.heap[g]?) : ToksAt w' g off ts := by
  obtain ⟨⟨cs, fr, hg⟩, ht⟩ := h
  refine ⟨⟨cs, fr, hs.trans hg⟩, fun i t hi => ?_⟩
  obtain ⟨hf, a, b, c, d⟩ := ht i t hi
  have key : ∀ o, w'.cell? ⟨g, o, none⟩ = w.cell? ⟨g, o, none⟩ := fun o => World.cell?_of_block hs
  exact ⟨hf, (key _).trans a, (key _).trans b, (key _).trans c, (key _).trans d⟩
theorem ErrAt.same {w w' : World} {v : Value} {e : Option (Nat × Nat)} (h : ErrAt w v e) (hs : ∀ (fb : Nat) (cs : Array Value) (fr : Nat × Nat), w.heap[fb]? = some (.cells cs 100 fr) → w'.heap[fb]? = w.heap[fb]?) : ErrAt w' v e := by
  cases e with
  | none => exact h
  | some e => obtain ⟨fb, e1, e2⟩ := h; exact ⟨fb, e1, (hs fb _ _ e2).trans e2⟩
/-- Types whose blocks the reader's state is in. -/
def rdType (t : TypeId) : Prop := t = 81 ∨ t = 48 ∨ t = 9 ∨ t = 100
/-- Blocks of the reader's types stand as they stood. -/
theorem RdAt.keep {B br : Nat} {r : Rd} {w w' : World} (h : RdAt B br r w) (hs : ∀ (k : Nat) (cs : Array Value) (t : TypeId) (fr : Nat × Nat), w.heap[k]? = some (.cells cs t fr) → rdType t → w'.heap[k]? = w.heap[k]?) : RdAt B br r w' := by
  obtain ⟨h1, h2, h3, g, off, cap, sg, ev, hb, hc, hc2, ht, hsg, he⟩ := h
  obtain ⟨⟨cs, fr, hg⟩, _⟩ := id ht
  refine ⟨h1, h2, h3, g, off, cap, sg, ev, (hs _ _ _ _ hb (Or.inl rfl)).trans hb, hc, hc2, ht.same (hs _ _ _ _ hg (Or.inr (Or.inl rfl))), (hs _ _ _ _ hsg (Or.inr (Or.inr (Or.inl rfl)))).trans hsg, he.same fun fb cs fr hf => hs _ _ _ _ hf (Or.inr (Or.inr (Or.inr rfl)))⟩
theorem RdAt.below {B br : Nat} {r : Rd} {w w' : World} (h : RdAt B br r w) (hb : Below w.heap.size w w') : RdAt B br r w' := h.keep fun k cs t fr hk _ => hb.block k (heap_lt hk)
theorem RdAt.alloc {B br : Nat} {r : Rd} {w : World} (h : RdAt B br r w) (o : Obj) : RdAt B br r (w.alloc o) := h.below ((Below.refl _ _).alloc (Nat.le_refl _) o)
/-- Another block than the reader's is written. -/
theorem RdAt.step {B br : Nat} {r : Rd} {w w' : World} {j : Nat} {cs : Array Value} {t : TypeId} {fr : Nat × Nat} (h : RdAt B br r w) (hg : w.grownBy w' (some j)) (hj : w.heap[j]? = some (.cells cs t fr)) (ht : ¬ rdType t) : RdAt B br r w' :=
  h.keep fun k cs' t' fr' hk hr => hg.block k (heap_lt hk) (fun e => by simp only [Option.some.injEq] at e; subst e; rw [hj] at hk; cases hk; exact ht hr)
theorem RdAt.set {B br : Nat} {r : Rd} {w : World} {j : Nat} {cs : Array Value} {t : TypeId} {fr : Nat × Nat} (h : RdAt B br r w) (hj : w.heap[j]? = some (.cells cs t fr)) (ht : ¬ rdType t) (o : Nat) (u : Value) : RdAt B br r (w.setCell ⟨j, o, none⟩ u) := h.step (set_grown w j o u) hj ht
theorem good_head {r : Rd} (h : r.good) : r.ts[0]? = some r.here := by
  rw [h.cons]; rfl
theorem three_cells {w : World} {k : Nat} {t : TypeId} {x0 x1 x2 : Value} (h : w.heap[k]? = some (.cells #[x0, x1, x2] t (0, 0))) :
    w.cell? ⟨k, 0, none⟩ = some x0 ∧ w.cell? ⟨k, 1, none⟩ = some x1 ∧ w.cell? ⟨k, 2, none⟩ = some x2 := by
  refine ⟨?_, ?_, ?_⟩ <;> (rw [Lib.cell_of_heap h]; rfl)

set_option maxHeartbeats 2000000 in
set_option maxRecDepth 100000 in
/-- reader.here -/
theorem here_any (B br : Nat) (r : Rd) (w : World) (h : RdAt B br r w) :
    Calls Tryz.prog 45 #[.pointer (some ⟨br, 0, none⟩)] w fun e w' => e = .returned (.agg #[.int .i64 (r.here.kind : Int), .string (bstr r.here.text), .int .u64 (r.here.value : Int), .int .i64 (r.here.at_ : Int)]) ∧
      w' = w.alloc (.cells #[.int .i64 (r.here.kind : Int), .string (bstr r.here.text), .int .u64 (r.here.value : Int), .int .i64 (r.here.at_ : Int)] 48) := by
  obtain ⟨h1, h2, h3, g, off, cap, sg, ev, hb, hc, hc2, ht, hsg, he⟩ := h
  obtain ⟨hf, a, b, c, d⟩ := ht.2 0 r.here (good_head h2)
  have hlt := heap_lt hb
  obtain ⟨⟨cs, fr, hgg⟩, _⟩ := ht
  have hglt := heap_lt hgg
  obtain ⟨b0, b1, b2⟩ := three_cells hb
  have hpos := h2.pos
  simp only [Nat.zero_mul, Nat.add_zero] at a b c d
  generalize r.here = T at *
  clear hb hsg he h2 hgg
  go_enter Tryz.func45, Tryz.ntmps45
  go_wp2
  exact bodyPost_ret (v := .agg #[.int .i64 (T.kind : Int), .string (bstr T.text), .int .u64 (T.value : Int), .int .i64 (T.at_ : Int)]) (by simp [results, Tryz.results45, go_sem]) rfl ⟨rfl, rfl⟩

/-- The reader's tokens are others. -/
theorem RdAt.moved {B br : Nat} {r : Rd} {w : World} (h : RdAt B br r w) (k : Nat) (hk : k < r.ts.length) (e : Option (Nat × Nat)) (he : e = r.err) (hg : (⟨r.ts.drop k, e⟩ : Rd).good) {g off cap sg : Nat} {ev : Value}
    (hb : w.heap[br]? = some (.cells #[.slice (some ⟨g, off, none⟩) r.ts.length cap, .slice (some ⟨sg, 0, none⟩) 10 10, ev] 81 (0, 0))) :
    RdAt B br ⟨r.ts.drop k, e⟩ (w.setCell ⟨br, 0, none⟩ (.slice (some ⟨g, off + k * 4, none⟩) (r.ts.length - k) (cap - k))) := by
  obtain ⟨h1, h2, h3, g', off', cap', sg', ev', hb', hc, hc2, ht, hsg, her⟩ := h
  rw [hb] at hb'
  simp only [Option.some.injEq, Obj.cells.injEq, Array.mk.injEq, List.cons.injEq, Value.slice.injEq, Addr.mk.injEq, and_true, true_and] at hb'
  obtain ⟨⟨⟨rfl, rfl⟩, rfl⟩, rfl, rfl⟩ := hb'
  have other : ∀ (j : Nat) (cs : Array Value) (t : TypeId) (fr : Nat × Nat), w.heap[j]? = some (.cells cs t fr) → t ≠ 81 → (w.setCell ⟨br, 0, none⟩ (.slice (some ⟨g, off + k * 4, none⟩) (r.ts.length - k) (cap - k))).heap[j]? = w.heap[j]? := fun j cs t fr hj hne =>
    Below.heap_setCell _ _ _ _ (show j ≠ br from fun e => by subst e; rw [hb] at hj; cases hj; exact hne rfl)
  have ht0 := ht
  obtain ⟨⟨cs, fr, hgg⟩, htok⟩ := ht0
  have hlen : (r.ts.drop k).length = r.ts.length - k := List.length_drop
  have hs := set_heap hb 0 (.slice (some ⟨g, off + k * 4, none⟩) (r.ts.length - k) (cap - k))
  refine ⟨h1, hg, by rw [hlen]; omega, g, off + k * 4, cap - k, sg, ev, ?_, by rw [hlen]; omega, by omega, ?_, (other _ _ _ _ hsg (by decide)).trans hsg, ?_⟩
  · rw [hlen]; exact hs
  · have hT := ht.same (other _ _ _ _ hgg (by decide))
    refine ⟨hT.1, fun i t hi => ?_⟩
    rw [List.getElem?_drop] at hi
    have := hT.2 (k + i) t hi
    rw [show off + (k + i) * 4 = off + k * 4 + i * 4 by omega] at this
    exact this
  · subst he; exact her.same fun fb cs fr hf => other _ _ _ _ hf (by decide)
theorem drop_head_good {r : Rd} (h : r.good) (hl : 1 < r.ts.length) : (⟨r.ts.drop 1, r.err⟩ : Rd).good := by
  have := h.next
  unfold Rd.next at this
  rw [if_pos hl] at this
  exact this
/-- What a step of the reader that answers nothing leaves. -/
def Stepped (B br : Nat) (w : World) (r' : Rd) (e : Ending) (w' : World) : Prop := e = .returned (.tuple #[]) ∧ RdAt B br r' w' ∧ w.grownBy w' (some br)

set_option maxHeartbeats 2000000 in
set_option maxRecDepth 100000 in
/-- reader.next -/
theorem rnext_any (B br : Nat) (r : Rd) (w : World) (h : RdAt B br r w) : Calls Tryz.prog 95 #[.pointer (some ⟨br, 0, none⟩)] w (Stepped B br w r.next) := by
  have h0 := h
  obtain ⟨h1, h2, h3, g, off, cap, sg, ev, hb, hc, hc2, ht, hsg, he⟩ := h
  have hlt := heap_lt hb
  obtain ⟨b0, b1, b2⟩ := three_cells hb
  have f0 : w.frozen? ⟨br, 0, none⟩ = false := Lib.frozen_of_heap hb 0
  have hpos := h2.pos
  by_cases hl : 1 < r.ts.length
  · have hm := h0.moved 1 hl r.err rfl (drop_head_good h2 hl) hb
    have en : r.next = ⟨r.ts.drop 1, r.err⟩ := by unfold Rd.next; rw [if_pos hl]
    have HM := Lib.hid hm
    rw [en]
    clear hm hb hsg he ht h0 en
    go_enter Tryz.func95, Tryz.ntmps95
    go_wp2
    go_end0
    exact ⟨rfl, HM.out, set_grown _ _ _ _⟩
  · have en : r.next = r := by unfold Rd.next; rw [if_neg hl]
    rw [en]
    have H0 := Lib.hid h0
    clear hb hsg he ht h0 en
    go_enter Tryz.func95, Tryz.ntmps95
    go_wp2
    go_end0
    exact ⟨rfl, H0.out, grownBy_refl _ _⟩
theorem tok_kind (k : Int) (s : ByteArray) (v a : Int) (w : World) : (Instr.field 48 (.agg #[.int .i64 k, .string s, .int .u64 v, .int .i64 a]) 0).run Tryz.prog w = .ok (.int .i64 k) w := by kernel_rfl
theorem tok_text (k : Int) (s : ByteArray) (v a : Int) (w : World) : (Instr.field 48 (.agg #[.int .i64 k, .string s, .int .u64 v, .int .i64 a]) 1).run Tryz.prog w = .ok (.string s) w := by kernel_rfl
theorem tok_at (k : Int) (s : ByteArray) (v a : Int) (w : World) : (Instr.field 48 (.agg #[.int .i64 k, .string s, .int .u64 v, .int .i64 a]) 3).run Tryz.prog w = .ok (.int .i64 a) w := by kernel_rfl
theorem RdAt.drew {B br : Nat} {r : Rd} {w : World} (h : RdAt B br r w) : RdAt B br r w.drew := h.keep fun _ _ _ _ _ _ => rfl
theorem grown_drew {a w : World} {row : Option Nat} (h : a.grownBy w row) : a.grownBy w.drew row := ⟨h.os, h.tape, h.output, h.size, h.block⟩
/-- What is wrong is told. -/
theorem failed_world {B br n : Nat} {r : Rd} {w W : World} {g off cap sg : Nat} {ev : Value} (h : RdAt B br r w) (hr : r.err = none)
    (hb : w.heap[br]? = some (.cells #[.slice (some ⟨g, off, none⟩) r.ts.length cap, .slice (some ⟨sg, 0, none⟩) 10 10, ev] 81 (0, 0)))
    (hW : W = (((w.setCell ⟨br, 2, none⟩ (.iface 96 (.pointer (some ⟨w.heap.size + 1, 0, none⟩)))).alloc (.cells #[.int .i64 (r.here.kind : Int), .string (bstr r.here.text), .int .u64 (r.here.value : Int), .int .i64 (r.here.at_ : Int)] 48)).alloc (.cells #[.int .i64 (r.here.at_ : Int), .iface 38 (.int .i64 (n : Int))] 100))) :
    RdAt B br ⟨r.ts, some (n, r.here.at_)⟩ W ∧ w.grownBy W (some br) ∧ W.heap[br]? = some (.cells #[.slice (some ⟨g, off, none⟩) r.ts.length cap, .slice (some ⟨sg, 0, none⟩) 10 10, .iface 96 (.pointer (some ⟨w.heap.size + 1, 0, none⟩))] 81 (0, 0)) := by
  have hlt := heap_lt hb
  have hG : w.grownBy W (some br) := by
    rw [hW]
    exact grownBy_trans (grownBy_trans (set_grown w br 2 _) (World.grownBy_alloc _ _ _)) (World.grownBy_alloc _ _ _)
  have hbW : W.heap[br]? = some (.cells #[.slice (some ⟨g, off, none⟩) r.ts.length cap, .slice (some ⟨sg, 0, none⟩) 10 10, .iface 96 (.pointer (some ⟨w.heap.size + 1, 0, none⟩))] 81 (0, 0)) := by
    rw [hW, alloc_at, if_neg (by simp [World.setCell]; omega), alloc_at, if_neg (by simp [World.setCell]; omega)]
    exact set_heap hb 2 _
  have hfb : W.heap[w.heap.size + 1]? = some (.cells #[.int .i64 (r.here.at_ : Int), .iface 38 (.int .i64 (n : Int))] 100 (0, 0)) := by
    rw [hW, alloc_at, if_pos (by simp [World.setCell])]
  obtain ⟨h1, h2, h3, g', off', cap', sg', ev', hb', hc, hc2, ht, hsg, her⟩ := h
  rw [hb] at hb'
  simp only [Option.some.injEq, Obj.cells.injEq, Array.mk.injEq, List.cons.injEq, Value.slice.injEq, Addr.mk.injEq, and_true, true_and] at hb'
  obtain ⟨⟨⟨rfl, rfl⟩, rfl⟩, rfl, rfl⟩ := hb'
  have other : ∀ (j : Nat) (cs : Array Value) (t : TypeId) (fr : Nat × Nat), w.heap[j]? = some (.cells cs t fr) → t ≠ 81 → W.heap[j]? = w.heap[j]? := fun j cs t fr hj hne =>
    hG.block j (heap_lt hj) (fun e => by simp only [Option.some.injEq] at e; subst e; rw [hb] at hj; cases hj; exact hne rfl)
  obtain ⟨⟨cs, fr, hgg⟩, _⟩ := id ht
  exact ⟨⟨h1, h2, h3, g, off, cap, sg, _, hbW, hc, hc2, ht.same (other _ _ _ _ hgg (by decide)), (other _ _ _ _ hsg (by decide)).trans hsg, _, rfl, hfb⟩, hG, hbW⟩
theorem fail_is (n : Nat) (r : Rd) : r.fail n = ⟨r.ts.drop (r.ts.length - 1), match r.err with | none => some (n, r.here.at_) | some e => some e⟩ := rfl

set_option maxHeartbeats 4000000 in
set_option maxRecDepth 100000 in
/-- reader.fail -/
theorem fail_any (B br n : Nat) (r : Rd) (w : World) (h : RdAt B br r w) (hn : n ≤ 8) : Calls Tryz.prog 43 #[.pointer (some ⟨br, 0, none⟩), .int .i64 (n : Int)] w (Stepped B br w (r.fail n)) := by
  have h0 := h
  have hh := here_any B br r w h
  have hgf := h.2.1.fail n
  obtain ⟨h1, h2, h3, g, off, cap, sg, ev, hb, hc, hc2, ht, hsg, he⟩ := h
  have hlt := heap_lt hb
  obtain ⟨b0, b1, b2⟩ := three_cells hb
  have f0 : w.frozen? ⟨br, 0, none⟩ = false := Lib.frozen_of_heap hb 0
  have f2 : w.frozen? ⟨br, 2, none⟩ = false := Lib.frozen_of_heap hb 2
  have hpos := h2.pos
  cases hr : r.err with
  | none =>
    rw [hr] at he
    obtain rfl : ev = .nilIface := he
    have hf := tok_at
    obtain ⟨W, hW⟩ : ∃ W, W = (((w.setCell ⟨br, 2, none⟩ (.iface 96 (.pointer (some ⟨w.heap.size + 1, 0, none⟩)))).alloc (.cells #[.int .i64 (r.here.kind : Int), .string (bstr r.here.text), .int .u64 (r.here.value : Int), .int .i64 (r.here.at_ : Int)] 48)).alloc (.cells #[.int .i64 (r.here.at_ : Int), .iface 38 (.int .i64 (n : Int))] 100)) := ⟨_, rfl⟩
    obtain ⟨hR, hG, hbW⟩ := failed_world h0 hr hb hW
    have hltW := heap_lt hbW
    obtain ⟨c0, c1, c2⟩ := three_cells hbW
    have g0 : W.frozen? ⟨br, 0, none⟩ = false := Lib.frozen_of_heap hbW 0
    have hm := hR.moved (r.ts.length - 1) (by show r.ts.length - 1 < r.ts.length; omega) (some (n, r.here.at_)) rfl (by rw [fail_is, hr] at hgf; exact hgf) hbW
    have HM := Lib.hid hm.drew
    have ef : r.fail n = ⟨r.ts.drop (r.ts.length - 1), some (n, r.here.at_)⟩ := by rw [fail_is, hr]
    rw [ef]
    clear hb hsg ht hm hR hbW ef hgf
    go_enter Tryz.func43, Tryz.ntmps43
    go_wp2_with (first | (go_at_call 45; refine hh.mono ?_; rintro e w' ⟨rfl, rfl⟩) | (go_at_call 36; refine (Lx.wrap_any _ _ _).mono ?_; rintro e w' ⟨rfl, rfl⟩))
    rw [← hW]
    clear hW
    go_region
    all_goals go_end0
    all_goals exact ⟨rfl, HM.out, grown_drew (grownBy_trans hG (set_grown _ _ _ _))⟩
  | some e0 =>
    have hm := h0.moved (r.ts.length - 1) (by omega) (some e0) hr.symm (by rw [fail_is, hr] at hgf; exact hgf) hb
    have ef : r.fail n = ⟨r.ts.drop (r.ts.length - 1), some e0⟩ := by rw [fail_is, hr]
    rw [ef]
    have HM := Lib.hid hm.drew
    rw [hr] at he
    obtain ⟨fb, rfl, hfb⟩ := he
    clear hb hsg ht hm ef hgf hr h0 hh
    go_enter Tryz.func43, Tryz.ntmps43
    go_wp2
    go_region
    all_goals go_end0
    all_goals exact ⟨rfl, HM.out, grown_drew (set_grown _ _ _ _)⟩
end Go.Proofs.YtfginegegaokbaaGreatDoor.Pr
