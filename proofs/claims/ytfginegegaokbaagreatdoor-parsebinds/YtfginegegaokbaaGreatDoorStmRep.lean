/- Statements in memory, as plain data; and page.block, where its statements are written as they should be. -/
import Derived.Test.YtfginegegaokbaaGreatDoorTextLine
namespace Go.Proofs.YtfginegegaokbaaGreatDoor
open Go.ChangeShapes Go.WideShapes Go.ChangeAt Go.RowKit
set_option linter.unusedVariables false
set_option linter.unusedSimpArgs false

/-- A slice of statements that lies in blocks of statements from lo on and below block B, each of which is as R says. -/
def Stms (lo B : Nat) (w : World) (R : Value → Stm → Prop) (v : Value) (ss : List Stm) : Prop :=
  ∃ ao cap, v = .slice ao ss.length cap ∧ ss.length ≤ 4294967296 ∧ ∀ i s, ss[i]? = some s → ∃ g off c0 c1 c2 c3 c4 c5 c6, ao = some ⟨g, off, none⟩ ∧ lo ≤ g ∧ g < B ∧ (∃ cs fr, w.heap[g]? = some (.cells cs 60 fr) ∧ fr = (0, 0) ∧ off = 0) ∧
    w.cell? ⟨g, off + i * 7, none⟩ = some c0 ∧ w.cell? ⟨g, off + i * 7 + 1, none⟩ = some c1 ∧ w.cell? ⟨g, off + i * 7 + 2, none⟩ = some c2 ∧ w.cell? ⟨g, off + i * 7 + 3, none⟩ = some c3 ∧ w.cell? ⟨g, off + i * 7 + 4, none⟩ = some c4 ∧ w.cell? ⟨g, off + i * 7 + 5, none⟩ = some c5 ∧ w.cell? ⟨g, off + i * 7 + 6, none⟩ = some c6 ∧
    R (.agg #[c0, c1, c2, c3, c4, c5, c6]) s

/-- The value is this statement. -/
def SRep (lo B : Nat) (w : World) (m : Nat) : Nat → Value → Stm → Prop
  | 0, _, _ => False
  | n + 1, v, s => -9223372036854775808 ≤ s.count ∧ s.count ≤ 9223372036854775807 ∧ s.name.size ≤ 35184372088832 ∧ ∃ eao ecap bao bcap lao lcap, v = .agg #[.int .i64 s.kind, .string s.name, .slice eao s.exprs.length ecap, .int .i64 s.count, .slice bao s.body.length bcap, .slice lao s.els.length lcap, .int .i64 s.at_] ∧
      Kids lo B w (fun v' t' => ERep lo B w m v' t') (.slice eao s.exprs.length ecap) s.exprs ∧ Stms lo B w (fun v' s' => SRep lo B w m n v' s') (.slice bao s.body.length bcap) s.body ∧ Stms lo B w (fun v' s' => SRep lo B w m n v' s') (.slice lao s.els.length lcap) s.els

def Same45 (lo B : Nat) (w w' : World) : Prop := ∀ g cs fr, lo ≤ g → g < B → w.heap[g]? = some (.cells cs 60 fr) → w'.heap[g]? = some (.cells cs 60 fr)
theorem Same45.of_below {lo B : Nat} {w w' : World} (hb : Below B w w') : Same45 lo B w w' := fun g cs fr _ hg h => (hb.block g hg).trans h
theorem Stms.carry {lo lo' B B' : Nat} {w w' : World} {R R' : Value → Stm → Prop} {v : Value} {ss : List Stm} (h : Stms lo B w R v ss) (hlo : lo' ≤ lo) (hB : B ≤ B') (hb : Same45 lo B w w') (hR : ∀ v k, R v k → R' v k) : Stms lo' B' w' R' v ss := by
  obtain ⟨ao, cap, rfl, hl, h⟩ := h
  refine ⟨ao, cap, rfl, hl, fun i k hk => ?_⟩
  obtain ⟨g, off, c0, c1, c2, c3, c4, c5, c6, e, hgl, hg, ⟨cs, fr, hc, hz⟩, h0, h1, h2, h3, h4, h5, h6, hr⟩ := h i k hk
  have hc' := hb g cs fr hgl hg hc
  have key : ∀ o, w'.cell? ⟨g, o, none⟩ = w.cell? ⟨g, o, none⟩ := fun o => World.cell?_of_block (by rw [hc', hc])
  exact ⟨g, off, c0, c1, c2, c3, c4, c5, c6, e, by omega, by omega, ⟨cs, fr, hc', hz⟩, (key _).trans h0, (key _).trans h1, (key _).trans h2, (key _).trans h3, (key _).trans h4, (key _).trans h5, (key _).trans h6, hR _ _ hr⟩
theorem SRep.carry {lo lo' B B' m : Nat} {w w' : World} (hlo : lo' ≤ lo) (hB : B ≤ B') (h35 : Same35 lo B w w') (h45 : Same45 lo B w w') : ∀ {n : Nat} {v : Value} {s : Stm}, SRep lo B w m n v s → SRep lo' B' w' m n v s
  | 0, _, _, h => h.elim
  | n + 1, v, s, ⟨h1, h2, hn, eao, ecap, bao, bcap, lao, lcap, h3, h4, h5, h6⟩ =>
    ⟨h1, h2, hn, eao, ecap, bao, bcap, lao, lcap, h3, h4.carry hlo hB h35 fun _ _ hr => ERep.carry hlo hB h35 hr, h5.carry hlo hB h45 fun _ _ hr => SRep.carry hlo hB h35 h45 hr, h6.carry hlo hB h45 fun _ _ hr => SRep.carry hlo hB h35 h45 hr⟩
theorem SRep.on {lo B m n : Nat} {w w' : World} {v : Value} {s : Stm} (h : SRep lo B w m n v s) (hb : Below B w w') : SRep lo B w' m n v s := h.carry (Nat.le_refl _) (Nat.le_refl _) (Same35.of_below hb) (Same45.of_below hb)
theorem Stms.on {lo B m n : Nat} {w w' : World} {v : Value} {ss : List Stm} (h : Stms lo B w (fun v' s' => SRep lo B w m n v' s') v ss) (hb : Below B w w') : Stms lo B w' (fun v' s' => SRep lo B w' m n v' s') v ss :=
  h.carry (Nat.le_refl _) (Nat.le_refl _) (Same45.of_below hb) fun _ _ hr => hr.on hb

/-- What page.stmt does, up to a depth. -/
def StmtC (m n : Nat) : Prop := ∀ (B b : Nat) (l : List UInt8) (d : Nat) (s : Stm) (v : Value) (w : World), PageAt B b l d w → SRep 0 B w m n v s → Vars B w → d + n ≤ 1000000 → l.length + (stext m n d s).length ≤ 70368744177664 →
    Calls Tryz.prog 52 #[.pointer (some ⟨b, 0, none⟩), v] w (Wrote B b l d w (stext m n d s))

theorem PageAt.deepen {B b : Nat} {l : List UInt8} {d : Int} {w : World} (h : PageAt B b l d w) (d' : Int) : PageAt B b l d' (w.setCell ⟨b, 2, none⟩ (.int .i64 d')) := by
  obtain ⟨h1, p, v, h2, h3, h4, h5⟩ := h
  refine ⟨h1, p, v, ?_, h3, ?_, h5⟩
  · simp [World.setCell, Array.getElem?_modify, h2]
  · exact h4.kept (row := some b) ⟨rfl, rfl, rfl, by simp [World.setCell], fun k _ hk => Below.heap_setCell _ _ _ _ (fun e => hk (by simp [e]))⟩ (Or.inr h5)
theorem deep_free {B b : Nat} {l : List UInt8} {d : Int} {w : World} (h : PageAt B b l d w) : w.frozen? ⟨b, 2, none⟩ = false := by
  obtain ⟨_, p, v, hb, _⟩ := h
  exact Lib.frozen_of_heap hb 2
theorem btext_take (m n d : Nat) (ss : List Stm) (k : Nat) (s : Stm) (h : ss[k]? = some s) : btext m n d (ss.take (k + 1)) = btext m n d (ss.take k) ++ stext m n d s := by
  have e : ss.take (k + 1) = ss.take k ++ [s] := by
    rw [List.take_add_one, h]; rfl
  simp [btext, e]
theorem btext_le (m n d : Nat) (ss : List Stm) (k : Nat) : (btext m n d (ss.take k)).length ≤ (btext m n d ss).length := by
  have : btext m n d ss = btext m n d (ss.take k) ++ btext m n d (ss.drop k) := by
    simp only [btext, ← List.flatten_append, ← List.map_append, List.take_append_drop]
  rw [this, List.length_append]; omega
theorem stmt_cells {w : World} {k : Nat} {x0 x1 x2 x3 x4 x5 x6 : Value} (h : w.heap[k]? = some (.cells #[x0, x1, x2, x3, x4, x5, x6] 60 (0, 0))) :
    w.cell? ⟨k, 0, none⟩ = some x0 ∧ w.cell? ⟨k, 1, none⟩ = some x1 ∧ w.cell? ⟨k, 2, none⟩ = some x2 ∧ w.cell? ⟨k, 3, none⟩ = some x3 ∧ w.cell? ⟨k, 4, none⟩ = some x4 ∧ w.cell? ⟨k, 5, none⟩ = some x5 ∧ w.cell? ⟨k, 6, none⟩ = some x6 := by
  refine ⟨?_, ?_, ?_, ?_, ?_, ?_, ?_⟩ <;> (rw [Lib.cell_of_heap h]; rfl)

set_option maxHeartbeats 2000000 in
set_option maxRecDepth 100000 in
theorem block_of {m n : Nat} (ih : StmtC m n) (B b : Nat) (l : List UInt8) (d : Nat) (ss : List Stm) (v : Value) (w : World) (hP : PageAt B b l d w) (hS : Stms 0 B w (fun v' s' => SRep 0 B w m n v' s') v ss) (hV : Vars B w) (hd : d + 1 + n ≤ 1000000)
    (hlen : l.length + (btext m n (d + 1) ss).length ≤ 70368744177664) :
    Calls Tryz.prog 29 #[.pointer (some ⟨b, 0, none⟩), v] w (Wrote B b l d w (btext m n (d + 1) ss)) := by
  have hB := hP.1
  have hc := deep_cell hP
  have hf := deep_free hP
  have HS := Lib.hid hS
  obtain ⟨ao, cap, rfl, hkl, _⟩ := hS
  have hPd : PageAt B b l ((d : Int) + 1) (w.setCell ⟨b, 2, none⟩ (.int .i64 ((d : Int) + 1))) := hP.deepen _
  have hSd : Stay B b w (w.setCell ⟨b, 2, none⟩ (.int .i64 ((d : Int) + 1))) := (Stay.refl _ _ _).set hB 2 _
  go_enter Tryz.func29, Tryz.ntmps29
  go_wp2
  go_loopw [15] (fun i wr => ∃ k : Nat, k ≤ ss.length ∧ i = .int .i64 k ∧ PageAt B b (l ++ btext m n (d + 1) (ss.take k)) ((d : Int) + 1) wr ∧ Stay B b w wr) (fun i _ => ss.length - (intOf i).toNat)
  case atStart => exact ⟨0, Nat.zero_le _, rfl, by simpa [btext] using hPd, hSd⟩
  case round =>
    obtain ⟨k, hk, rfl, hPr, hSr⟩ := hrel
    have hBr := hPr.base
    by_cases hlt : k < ss.length
    · obtain ⟨s, hs⟩ : ∃ s, ss[k]? = some s := ⟨ss[k], by simp [hlt]⟩
      obtain ⟨ao', cap', e, _, hK⟩ := HS.out.on hSr.1
      cases e
      obtain ⟨g, off, c0, c1, c2, c3, c4, c5, c6, rfl, _, hg, _, h0, h1, h2, h3, h4, h5, h6, hr⟩ := hK k s hs
      have HT := Lib.hid (btext_take m n (d + 1) ss k s hs)
      have hle := btext_le m n (d + 1) ss (k + 1)
      rw [HT.out, List.length_append] at hle
      have hr0 := hr
      cases n with
      | zero => exact hr.elim
      | succ n =>
      obtain ⟨hc1, hc2, hnm, eao, ecap, bao, bcap, lao, lcap, hv, _, _, _⟩ := hr
      simp only [Value.agg.injEq, Array.mk.injEq, List.cons.injEq, and_true] at hv
      obtain ⟨rfl, rfl, rfl, rfl, rfl, rfl, rfl⟩ := hv
      have Hr0 := Lib.hid hr0
      clear hK hs hr0
      have hA := (Stay.refl B b wr).alloc hBr (.cells #[.int .i64 s.kind, .string s.name, .slice eao s.exprs.length ecap, .int .i64 s.count, .slice bao s.body.length bcap, .slice lao s.els.length lcap, .int .i64 s.at_] 60)
      go_wp2_with (go_at_call 52; refine (ih B b _ (d + 1) s _ _ (hPr.alloc _) (Hr0.out.on hA.1) ((hV.on hSr.1).on hA.1) (by omega) (by simp only [List.length_append]; omega)).mono ?_; rintro e w1 ⟨rfl, hP1, hb1⟩)
      go_roundw
      case rel => exact ⟨k + 1, by omega, by go_num, by rw [HT.out, ← List.append_assoc]; exact hP1, hSr.trans (hA.trans hb1)⟩
      case measure => simp [intOf]; omega
    · obtain rfl : k = ss.length := by omega
      rw [List.take_length] at hPr
      have hcr := deep_cell hPr
      have hfr := deep_free hPr
      go_wp2
      go_end0
      refine ⟨rfl, ?_, hSr.set hB 2 _⟩
      exact hPr.deepen _
end Go.Proofs.YtfginegegaokbaaGreatDoor
