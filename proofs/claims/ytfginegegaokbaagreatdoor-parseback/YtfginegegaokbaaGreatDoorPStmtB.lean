/- A statement with its blocks, under way and whole, in memory; what the reader's choice does. Conditions: as in PRead. -/
import Derived.Test.YtfginegegaokbaaGreatDoorPSimple
namespace Go.Proofs.YtfginegegaokbaaGreatDoor.Pr
open Go.ChangeShapes Go.WideShapes Go.ChangeAt Go.RowKit
open Lx (Tok)
set_option linter.unusedVariables false
set_option linter.unusedSimpArgs false

/-- A block's statements, in blocks behind sb. -/
def Blk (sb n : Nat) (w : World) (v : Value) (ss : List Stm) : Prop := ∃ a b, sb < a ∧ b ≤ w.heap.size ∧ Stms a b w (fun v' s' => SRep a b w bigM n v' s') v ss
theorem Blk.nil {sb n : Nat} {w : World} (h : sb < w.heap.size) : Blk sb n w (.slice none 0 0) [] := ⟨w.heap.size, w.heap.size, h, Nat.le_refl _, stms0⟩
theorem Blk.on {sb n : Nat} {w w' : World} {v : Value} {ss : List Stm} (h : Blk sb n w v ss) (hz : w.heap.size ≤ w'.heap.size) (h35 : ∀ lo hi, sb < lo → Same35 lo hi w w') (h45 : ∀ lo hi, sb < lo → Same45 lo hi w w') : Blk sb n w' v ss := by
  obtain ⟨a, b, h1, h2, h3⟩ := h
  exact ⟨a, b, h1, by omega, h3.carry (Nat.le_refl _) (Nat.le_refl _) (h45 a b h1) fun _ _ hr => hr.carry (Nat.le_refl _) (Nat.le_refl _) (h35 a b h1) (h45 a b h1)⟩
/-- A statement under way in block sb; w0: the world in which it began. -/
def StF (B br : Nat) (w0 : World) (sb n : Nat) (s : Stm) (rr : Rd) (w : World) : Prop :=
  RdAt B br rr w ∧ w0.grownBy w (some br) ∧ ∃ eao ecap bao bcap lao lcap, w.heap[sb]? = some (.cells #[.int .i64 s.kind, .string s.name, .slice eao s.exprs.length ecap, .int .i64 s.count, .slice bao s.body.length bcap, .slice lao s.els.length lcap, .int .i64 s.at_] 60 (0, 0)) ∧
    ExRow w0.heap.size w (.slice eao s.exprs.length ecap) s.exprs ∧ Blk sb n w (.slice bao s.body.length bcap) s.body ∧ Blk sb n w (.slice lao s.els.length lcap) s.els
theorem StV.full {B br sb : Nat} {w0 w : World} {s : Stm} {rr : Rd} (h : StV B br w0 sb s rr w) (n : Nat) (hb : s.body = []) (hl : s.els = []) : StF B br w0 sb n s rr w := by
  obtain ⟨h1, h2, eao, ecap, h3, h4⟩ := h
  refine ⟨h1, h2, eao, ecap, none, 0, none, 0, ?_, h4, ?_, ?_⟩
  · rw [hb, hl]; exact h3
  · rw [hb]; exact Blk.nil (heap_lt h3)
  · rw [hl]; exact Blk.nil (heap_lt h3)
theorem RdAt.same45 {B br : Nat} {r : Rd} {w w' : World} (h : RdAt B br r w) (hg : w.grownBy w' (some br)) (lo hi : Nat) : Same45 lo hi w w' := fun k cs fr _ _ hk => h.heap hg hk (by decide)
theorem StF.on {B br sb n : Nat} {w0 w w' : World} {s : Stm} {rr rr' : Rd} (h : StF B br w0 sb n s rr w) (h' : RdAt B br rr' w') (hg : w.grownBy w' (some br)) : StF B br w0 sb n s rr' w' := by
  obtain ⟨h1, h2, eao, ecap, bao, bcap, lao, lcap, h3, h4, h5, h6⟩ := h
  exact ⟨h', grownBy_trans h2 hg, eao, ecap, bao, bcap, lao, lcap, h1.heap hg h3 (by decide), h4.same hg.size fun k cs fr hk => h1.heap hg hk (by decide), h5.on hg.size (fun lo hi _ => h1.same35 hg lo hi) (fun lo hi _ => h1.same45 hg lo hi), h6.on hg.size (fun lo hi _ => h1.same35 hg lo hi) (fun lo hi _ => h1.same45 hg lo hi)⟩
theorem StF.cells {B br sb n : Nat} {w0 w : World} {s : Stm} {rr : Rd} (h : StF B br w0 sb n s rr w) : ∃ eao ecap bao bcap lao lcap, w.heap[sb]? = some (.cells #[.int .i64 s.kind, .string s.name, .slice eao s.exprs.length ecap, .int .i64 s.count, .slice bao s.body.length bcap, .slice lao s.els.length lcap, .int .i64 s.at_] 60 (0, 0)) := by
  obtain ⟨h1, h2, eao, ecap, bao, bcap, lao, lcap, h3, _⟩ := h
  exact ⟨eao, ecap, bao, bcap, lao, lcap, h3⟩
theorem set_same {w : World} {sb : Nat} {cs : Array Value} {fr : Nat × Nat} (h : w.heap[sb]? = some (.cells cs 60 fr)) (j : Nat) (u : Value) : (∀ lo hi, sb < lo → Same35 lo hi w (w.setCell ⟨sb, j, none⟩ u)) ∧ (∀ lo hi, sb < lo → Same45 lo hi w (w.setCell ⟨sb, j, none⟩ u)) := by
  refine ⟨fun lo hi hlo k c f h1 h2 hk => ?_, fun lo hi hlo k c f h1 h2 hk => ?_⟩ <;> exact (Below.heap_setCell _ _ _ _ (show k ≠ sb by omega)).trans hk
/-- The body is set. -/
theorem StF.body {B br sb n : Nat} {w0 w : World} {s : Stm} {rr : Rd} (h : StF B br w0 sb n s rr w) (hsb : w0.heap.size ≤ sb) {ao : Option Addr} {cap : Nat} {ss : List Stm} (hB : Blk sb n w (.slice ao ss.length cap) ss) : StF B br w0 sb n { s with body := ss } rr (w.setCell ⟨sb, 4, none⟩ (.slice ao ss.length cap)) := by
  obtain ⟨h1, h2, eao, ecap, bao, bcap, lao, lcap, h3, h4, h5, h6⟩ := h
  obtain ⟨q35, q45⟩ := set_same h3 4 (.slice ao ss.length cap)
  have hz : w.heap.size ≤ (w.setCell ⟨sb, 4, none⟩ (.slice ao ss.length cap)).heap.size := by simp [World.setCell]
  exact ⟨h1.set h3 notRdS _ _, grown_set h2 hsb _ _, eao, ecap, ao, cap, lao, lcap, set_heap h3 4 _, h4.same hz (TSame.of_set h3 (by decide) _ _), hB.on hz q35 q45, h6.on hz q35 q45⟩
theorem StF.els {B br sb n : Nat} {w0 w : World} {s : Stm} {rr : Rd} (h : StF B br w0 sb n s rr w) (hsb : w0.heap.size ≤ sb) {ao : Option Addr} {cap : Nat} {ss : List Stm} (hB : Blk sb n w (.slice ao ss.length cap) ss) : StF B br w0 sb n { s with els := ss } rr (w.setCell ⟨sb, 5, none⟩ (.slice ao ss.length cap)) := by
  obtain ⟨h1, h2, eao, ecap, bao, bcap, lao, lcap, h3, h4, h5, h6⟩ := h
  obtain ⟨q35, q45⟩ := set_same h3 5 (.slice ao ss.length cap)
  have hz : w.heap.size ≤ (w.setCell ⟨sb, 5, none⟩ (.slice ao ss.length cap)).heap.size := by simp [World.setCell]
  exact ⟨h1.set h3 notRdS _ _, grown_set h2 hsb _ _, eao, ecap, bao, bcap, ao, cap, set_heap h3 5 _, h4.same hz (TSame.of_set h3 (by decide) _ _), h5.on hz q35 q45, hB.on hz q35 q45⟩
theorem StF.name {B br sb n : Nat} {w0 w : World} {s : Stm} {rr : Rd} (h : StF B br w0 sb n s rr w) (hsb : w0.heap.size ≤ sb) (x : ByteArray) : StF B br w0 sb n { s with name := x } rr (w.setCell ⟨sb, 1, none⟩ (.string x)) := by
  obtain ⟨h1, h2, eao, ecap, bao, bcap, lao, lcap, h3, h4, h5, h6⟩ := h
  obtain ⟨q35, q45⟩ := set_same h3 1 (.string x)
  have hz : w.heap.size ≤ (w.setCell ⟨sb, 1, none⟩ (.string x)).heap.size := by simp [World.setCell]
  exact ⟨h1.set h3 notRdS _ _, grown_set h2 hsb _ _, eao, ecap, bao, bcap, lao, lcap, set_heap h3 1 _, h4.same hz (TSame.of_set h3 (by decide) _ _), h5.on hz q35 q45, h6.on hz q35 q45⟩
theorem StF.count {B br sb n : Nat} {w0 w : World} {s : Stm} {rr : Rd} (h : StF B br w0 sb n s rr w) (hsb : w0.heap.size ≤ sb) (x : Int) : StF B br w0 sb n { s with count := x } rr (w.setCell ⟨sb, 3, none⟩ (.int .i64 x)) := by
  obtain ⟨h1, h2, eao, ecap, bao, bcap, lao, lcap, h3, h4, h5, h6⟩ := h
  obtain ⟨q35, q45⟩ := set_same h3 3 (.int .i64 x)
  have hz : w.heap.size ≤ (w.setCell ⟨sb, 3, none⟩ (.int .i64 x)).heap.size := by simp [World.setCell]
  exact ⟨h1.set h3 notRdS _ _, grown_set h2 hsb _ _, eao, ecap, bao, bcap, lao, lcap, set_heap h3 3 _, h4.same hz (TSame.of_set h3 (by decide) _ _), h5.on hz q35 q45, h6.on hz q35 q45⟩
/-- What block does, up to a depth. -/
def RBlC (f : Nat) : Prop := ∀ (B br deep : Nat) (r : Rd) (w : World), RdAt B br r w → deep + f = 41 →
  Calls Tryz.prog 47 #[.pointer (some ⟨br, 0, none⟩), .int .i64 (deep : Int)] w fun e w' => ∃ v, e = .returned v ∧ Stms w.heap.size w'.heap.size w' (fun v' s' => SRep w.heap.size w'.heap.size w' bigM (f + 1) v' s') v (blockOf (stP f) deep r).1 ∧ RdAt B br (blockOf (stP f) deep r).2 w' ∧ w.grownBy w' (some br)
theorem stms_slice {lo B : Nat} {w : World} {R : Value → Stm → Prop} {v : Value} {ss : List Stm} (h : Stms lo B w R v ss) : ∃ ao cap, v = .slice ao ss.length cap := by obtain ⟨ao, cap, e, _⟩ := h; exact ⟨ao, cap, e⟩
theorem choice_eq (bl : BlP) (deep : Nat) (s : Stm) (r : Rd) : choiceOf bl deep s r = if (bl (deep + 1) ((valueP deep s (r.want [40])).2.want [41])).2.is kElse = true then
    ({ (valueP deep s (r.want [40])).1 with body := (bl (deep + 1) ((valueP deep s (r.want [40])).2.want [41])).1, els := (bl (deep + 1) (bl (deep + 1) ((valueP deep s (r.want [40])).2.want [41])).2.next).1 }, (bl (deep + 1) (bl (deep + 1) ((valueP deep s (r.want [40])).2.want [41])).2.next).2)
    else ({ (valueP deep s (r.want [40])).1 with body := (bl (deep + 1) ((valueP deep s (r.want [40])).2.want [41])).1 }, (bl (deep + 1) ((valueP deep s (r.want [40])).2.want [41])).2) := rfl
set_option maxHeartbeats 4000000 in
set_option maxRecDepth 100000 in
/-- reader.choice -/
theorem choice_any {f : Nat} (ih : RBlC f) (B br : Nat) (w0 : World) (sb deep : Nat) (a : Int) (rr : Rd) (w : World) (h : StV B br w0 sb ⟨3, ⟨#[]⟩, [], 0, [], [], a⟩ rr w) (hsb : w0.heap.size ≤ sb) (hd : deep + 1 + f = 41) :
    Calls Tryz.prog 98 #[.pointer (some ⟨br, 0, none⟩), .pointer (some ⟨sb, 0, none⟩), .int .i64 (deep : Int)] w fun e w' => e = .returned (.tuple #[]) ∧ StF B br w0 sb (f + 1) (choiceOf (blockOf (stP f)) deep ⟨3, ⟨#[]⟩, [], 0, [], [], a⟩ rr).1 (choiceOf (blockOf (stP f)) deep ⟨3, ⟨#[]⟩, [], 0, [], [], a⟩ rr).2 w' := by
  rw [choice_eq]
  obtain ⟨r1, e1⟩ : ∃ x, rr.want [40] = x := ⟨_, rfl⟩
  have W1 := want_any B br rr ⟨#[40]⟩ [40] rfl w h.1
  rw [e1] at W1 ⊢
  have hvb : (valueP deep ⟨3, ⟨#[]⟩, [], 0, [], [], a⟩ r1).1.body = [] ∧ (valueP deep ⟨3, ⟨#[]⟩, [], 0, [], [], a⟩ r1).1.els = [] := ⟨rfl, rfl⟩
  have V2 := fun w' h' => value_any B br w0 sb deep ⟨3, ⟨#[]⟩, [], 0, [], [], a⟩ r1 w' h' hsb (by simp) (by omega)
  obtain ⟨s2, r2, e2⟩ : ∃ s x, valueP deep ⟨3, ⟨#[]⟩, [], 0, [], [], a⟩ r1 = (s, x) := ⟨_, _, rfl⟩
  rw [e2] at V2 hvb ⊢
  simp only at V2 hvb ⊢
  obtain ⟨r3, e3⟩ : ∃ x, r2.want [41] = x := ⟨_, rfl⟩
  have W3 := fun w' h' => want_any B br r2 ⟨#[41]⟩ [41] rfl w' h'
  rw [e3] at W3 ⊢
  obtain ⟨b4, r4, e4⟩ : ∃ s x, blockOf (stP f) (deep + 1) r3 = (s, x) := ⟨_, _, rfl⟩
  have B4 : ∀ w', RdAt B br r3 w' → Calls Tryz.prog 47 #[.pointer (some ⟨br, 0, none⟩), .int .i64 ((deep : Int) + 1)] w' fun e w2 => ∃ v, e = .returned v ∧ Stms w'.heap.size w2.heap.size w2 (fun v' s' => SRep w'.heap.size w2.heap.size w2 bigM (f + 1) v' s') v b4 ∧ RdAt B br r4 w2 ∧ w'.grownBy w2 (some br) := fun w' h' => by
    have := ih B br (deep + 1) r3 w' h' (by omega)
    rw [e4] at this
    exact this
  rw [e4]
  simp only
  have H := Lib.hid h
  have hdd : deep ≤ 40 := by omega
  have HVB := Lib.hid hvb
  clear h e1 e2 e3 e4 hvb
  cases hi : r4.is kElse with
  | false =>
    simp only [Bool.false_eq_true, if_false]
    go_enter Tryz.func98, Tryz.ntmps98
    go_wp2_with (first
      | (go_at_call 73; refine (take_no B br r4 ⟨#[101, 108, 115, 101]⟩ kElse rfl _ st5.out.1 hi).mono ?_; rintro e w6 ⟨rfl, h6, g6⟩; have st6 := st5.out.on h6 g6)
      | (go_at_call 47; refine (B4 _ st3.out.1).mono ?_; rintro e w4 ⟨v4, rfl, S4, h4, g4⟩; obtain ⟨ao4, cap4, rfl⟩ := stms_slice S4; have f4 := (st3.out.on h4 g4).full (f + 1) HVB.out.1 HVB.out.2; have hlb := st3.out.cells.2.2.2.2; have st5 := Lib.hid (f4.body hsb (ss := b4) ⟨_, _, hlb, Nat.le_refl _, S4⟩); obtain ⟨x1, x2, x3, x4, x5, x6, hcc⟩ := f4.cells; obtain ⟨c0, c1, c2, c3, c4, c5, c6⟩ := stmt_cells hcc; have fz := Lib.frozen_of_heap hcc 4; have hl4 := heap_lt hcc)
      | (go_at_call 46; refine (W3 _ st2.out.1).mono ?_; rintro e w3 ⟨rfl, h3, g3⟩; have st3 := Lib.hid (st2.out.on h3 g3))
      | (go_at_call 110; refine (V2 _ st1.out).mono ?_; rintro e w2 ⟨rfl, st2'⟩; have st2 := Lib.hid st2')
      | (go_at_call 46; refine W1.mono ?_; rintro e w1 ⟨rfl, h1, g1⟩; have st1 := Lib.hid (H.out.on h1 g1)))
    go_end0
    exact ⟨rfl, st6⟩
  | true =>
    simp only [if_true]
    obtain ⟨l5, r5, e5⟩ : ∃ s x, blockOf (stP f) (deep + 1) r4.next = (s, x) := ⟨_, _, rfl⟩
    have B5 : ∀ w', RdAt B br r4.next w' → Calls Tryz.prog 47 #[.pointer (some ⟨br, 0, none⟩), .int .i64 ((deep : Int) + 1)] w' fun e w2 => ∃ v, e = .returned v ∧ Stms w'.heap.size w2.heap.size w2 (fun v' s' => SRep w'.heap.size w2.heap.size w2 bigM (f + 1) v' s') v l5 ∧ RdAt B br r5 w2 ∧ w'.grownBy w2 (some br) := fun w' h' => by
      have := ih B br (deep + 1) r4.next w' h' (by omega)
      rw [e5] at this
      exact this
    rw [e5]
    simp only
    clear e5
    go_enter Tryz.func98, Tryz.ntmps98
    go_wp2_with (first
      | (go_at_call 47; refine (B5 _ st6.out.1).mono ?_; rintro e w7 ⟨v7, rfl, S7, h7, g7⟩; obtain ⟨ao7, cap7, rfl⟩ := stms_slice S7; have f7 := st6.out.on h7 g7; obtain ⟨x1, x2, x3, x4, x5, x6, hcc6⟩ := st6.out.cells; have hlb7 := heap_lt hcc6; have st8 := Lib.hid (f7.els hsb (ss := l5) ⟨_, _, hlb7, Nat.le_refl _, S7⟩); obtain ⟨x1, x2, x3, x4, x5, x6, hcc7⟩ := f7.cells; obtain ⟨c0, c1, c2, c3, c4, c5, c6⟩ := stmt_cells hcc7; have fz7 := Lib.frozen_of_heap hcc7 5; have hl7 := heap_lt hcc7)
      | (go_at_call 73; refine (take_yes B br r4 ⟨#[101, 108, 115, 101]⟩ kElse rfl _ st5.out.1 hi).mono ?_; rintro e w6 ⟨rfl, h6, g6⟩; have st6 := Lib.hid (st5.out.on h6 g6))
      | (go_at_call 47; refine (B4 _ st3.out.1).mono ?_; rintro e w4 ⟨v4, rfl, S4, h4, g4⟩; obtain ⟨ao4, cap4, rfl⟩ := stms_slice S4; have f4 := (st3.out.on h4 g4).full (f + 1) HVB.out.1 HVB.out.2; have hlb := st3.out.cells.2.2.2.2; have st5 := Lib.hid (f4.body hsb (ss := b4) ⟨_, _, hlb, Nat.le_refl _, S4⟩); obtain ⟨x1, x2, x3, x4, x5, x6, hcc⟩ := f4.cells; obtain ⟨c0, c1, c2, c3, c4, c5, c6⟩ := stmt_cells hcc; have fz := Lib.frozen_of_heap hcc 4; have hl4 := heap_lt hcc)
      | (go_at_call 46; refine (W3 _ st2.out.1).mono ?_; rintro e w3 ⟨rfl, h3, g3⟩; have st3 := Lib.hid (st2.out.on h3 g3))
      | (go_at_call 110; refine (V2 _ st1.out).mono ?_; rintro e w2 ⟨rfl, st2'⟩; have st2 := Lib.hid st2')
      | (go_at_call 46; refine W1.mono ?_; rintro e w1 ⟨rfl, h1, g1⟩; have st1 := Lib.hid (H.out.on h1 g1)))
    go_end0
    exact ⟨rfl, st8.out⟩
end Go.Proofs.YtfginegegaokbaaGreatDoor.Pr
