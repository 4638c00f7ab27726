/- What the reader's unary does. Conditions: as in PRead. -/
import Derived.Test.YtfginegegaokbaaGreatDoorPExprC
import Derived.Deep.RegionWith
namespace Go.Proofs.YtfginegegaokbaaGreatDoor.Pr
open Go.ChangeShapes Go.WideShapes Go.ChangeAt Go.RowKit
open Lx (Tok)
set_option linter.unusedVariables false
set_option linter.unusedSimpArgs false

theorem ne_text {l x : List UInt8} (h : l ≠ x) : ((bstr l).toList == x) = false := by rw [bstr_toList]; exact beq_eq_false_iff_ne.2 h
theorem eq_text {l x : List UInt8} (h : l = x) : ((bstr l).toList == x) = true := by rw [bstr_toList, h]; exact beq_self_eq_true x
/-- What unary has made before it looks. -/
@[reducible] def unW (w : World) (T : Tok) : World := ((w.alloc zeroE).alloc (tokO T)).alloc (tokO T)
theorem un_start {B br : Nat} {r : Rd} {w : World} (h : RdAt B br r w) : RdAt B br r (unW w r.here) ∧ w.grownBy (unW w r.here) (some br) ∧ (unW w r.here).heap[w.heap.size]? = some zeroE ∧ (unW w r.here).heap[w.heap.size + 2]? = some (tokO r.here) :=
  ⟨((h.alloc _).alloc _).alloc _, grown_alloc (grown_alloc (World.grownBy_alloc w _ _) _) _, by rw [alloc_at, if_neg (by simp; omega), alloc_at, if_neg (by simp), alloc_at, if_pos rfl], by rw [alloc_at, if_pos (by simp)]⟩
/-- The end: nothing. -/
theorem un_none {B br : Nat} {r r' : Rd} {w w5 : World} {x0 x1 x2 x3 x4 x5 : Value} (hg : w.grownBy w5 (some br)) (h : RdAt B br r' w5) (hz : w5.heap[w.heap.size]? = some (.cells #[x0, x1, x2, x3, x4, x5] 57 (0, 0))) (hl : r'.ts.length ≤ r.ts.length) :
    Mde B br w r (tree0, r') (.returned (.agg #[.int .i64 0, .int .i64 0, .string ⟨#[]⟩, .int .u64 0, .slice none 0 0, .int .i64 0])) (put6 w5 w.heap.size (.int .i64 0) (.int .i64 0) (.string ⟨#[]⟩) (.int .u64 0) (.slice none 0 0) (.int .i64 0)) :=
  ⟨_, rfl, erep_leaf (show 1 ≤ r.ts.length + 1 - r'.ts.length by omega) 0 0 _ 0 _ (by decide), h.put6 hz _ _ _ _ _ _, grown_put6 hg (Nat.le_refl _) _ _ _ _ _ _⟩
set_option maxHeartbeats 4000000 in
set_option maxRecDepth 100000 in
/-- unary, where no expression begins -/
theorem un_no (B br deep : Nat) (r : Rd) (w : World) (h : RdAt B br r w) (hb : beginsB r.here = false) :
    Calls Tryz.prog 142 #[.pointer (some ⟨br, 0, none⟩), .int .i64 (deep : Int)] w (Mde B br w r (tree0, r.fail 2)) := by
  obtain ⟨hW, hG, hz, hf⟩ := un_start h
  have hl := fail_le 2 h.2.1
  have hh := here_any B br r _ (h.alloc zeroE)
  have hbg := begins_any r.here (unW w r.here)
  rw [hb] at hbg
  have HW := Lib.hid hW
  have HG := Lib.hid hG
  have HZ := Lib.hid hz
  have HL := Lib.hid hl
  have F := fun w' h' => fail_any B br 2 r w' h' (by omega)
  clear hW hG hz hf hl h hb
  generalize r.here = T at *
  go_enter Tryz.func142, Tryz.ntmps142
  go_wp2_with (first
    | (go_at_call 43; refine (F _ (HW.out.below hb1)).mono ?_; rintro e w2 ⟨rfl, h2, g2⟩; have z2 := (HW.out.below hb1).heap g2 ((hb1.block _ (heap_lt HZ.out)).trans HZ.out) (by decide); obtain ⟨d0, d1, d2, d3, d4, d5⟩ := box_free z2; obtain ⟨x0, x1, x2, x3, x4, x5⟩ := box_cells z2; have hz2 := heap_lt z2)
    | (go_at_call 154; refine hbg.mono ?_; rintro e w1 ⟨rfl, hb1⟩)
    | (go_at_call 45; refine hh.mono ?_; rintro e w' ⟨rfl, rfl⟩))
  have hP := put6_heap z2 (.int .i64 0) (.int .i64 0) (.string ⟨#[]⟩) (.int .u64 0) (.slice none 0 0) (.int .i64 0)
  obtain ⟨q0, q1, q2, q3, q4, q5⟩ := box_cells hP
  exact bodyPost_ret (v := .agg #[.int .i64 0, .int .i64 0, .string ⟨#[]⟩, .int .u64 0, .slice none 0 0, .int .i64 0]) (by simp [results, Tryz.results142, go_sem, q0, q1, q2, q3, q4, q5]) rfl
    (un_none (grownBy_trans (grownBy_trans HG.out (grownBy_below hb1)) g2) h2 z2 HL.out)
set_option maxHeartbeats 4000000 in
set_option maxRecDepth 100000 in
/-- unary, too deep -/
theorem un_deep (B br deep : Nat) (r : Rd) (w : World) (h : RdAt B br r w) (hb : beginsB r.here = true) (hd : 40 < deep) (hd2 : deep ≤ 41) :
    Calls Tryz.prog 142 #[.pointer (some ⟨br, 0, none⟩), .int .i64 (deep : Int)] w (Mde B br w r (tree0, r.fail 6)) := by
  obtain ⟨hW, hG, hz, hf⟩ := un_start h
  have hl := fail_le 6 h.2.1
  have hh := here_any B br r _ (h.alloc zeroE)
  have hbg := begins_any r.here (unW w r.here)
  rw [hb] at hbg
  have HW := Lib.hid hW
  have HG := Lib.hid hG
  have HZ := Lib.hid hz
  have HL := Lib.hid hl
  have F := fun w' h' => fail_any B br 6 r w' h' (by omega)
  clear hW hG hz hf hl h hb
  generalize r.here = T at *
  go_enter Tryz.func142, Tryz.ntmps142
  go_wp2_with (first
    | (go_at_call 43; refine (F _ (HW.out.below hb1)).mono ?_; rintro e w2 ⟨rfl, h2, g2⟩; have z2 := (HW.out.below hb1).heap g2 ((hb1.block _ (heap_lt HZ.out)).trans HZ.out) (by decide); obtain ⟨d0, d1, d2, d3, d4, d5⟩ := box_free z2; obtain ⟨x0, x1, x2, x3, x4, x5⟩ := box_cells z2; have hz2 := heap_lt z2)
    | (go_at_call 154; refine hbg.mono ?_; rintro e w1 ⟨rfl, hb1⟩)
    | (go_at_call 45; refine hh.mono ?_; rintro e w' ⟨rfl, rfl⟩))
  have hP := put6_heap z2 (.int .i64 0) (.int .i64 0) (.string ⟨#[]⟩) (.int .u64 0) (.slice none 0 0) (.int .i64 0)
  obtain ⟨q0, q1, q2, q3, q4, q5⟩ := box_cells hP
  exact bodyPost_ret (v := .agg #[.int .i64 0, .int .i64 0, .string ⟨#[]⟩, .int .u64 0, .slice none 0 0, .int .i64 0]) (by simp [results, Tryz.results142, go_sem, q0, q1, q2, q3, q4, q5]) rfl
    (un_none (grownBy_trans (grownBy_trans HG.out (grownBy_below hb1)) g2) h2 z2 HL.out)

/-- What stands when unary has gone behind its first token. -/
def UnAt (B br : Nat) (w : World) (T : Tok) (r' : Rd) (w2 : World) : Prop :=
  RdAt B br r' w2 ∧ w.grownBy w2 (some br) ∧ w2.heap[w.heap.size]? = some zeroE ∧ w2.heap[w.heap.size + 2]? = some (tokO T)
theorem UnAt.on {B br : Nat} {w w2 w3 : World} {T : Tok} {r r' : Rd} (h : UnAt B br w T r w2) (h' : RdAt B br r' w3) (hg : w2.grownBy w3 (some br)) : UnAt B br w T r' w3 :=
  ⟨h', grownBy_trans h.2.1 hg, h.1.heap hg h.2.2.1 (by decide), h.1.heap hg h.2.2.2 (by decide)⟩
theorem un_next {B br : Nat} {w w1 : World} {T : Tok} {r : Rd} (hW : RdAt B br r (unW w T)) (hG : w.grownBy (unW w T) (some br)) (hz : (unW w T).heap[w.heap.size]? = some zeroE) (hf : (unW w T).heap[w.heap.size + 2]? = some (tokO T)) (hb : Below (unW w T).heap.size (unW w T) w1) : UnAt B br w T r w1 :=
  ⟨hW.below hb, grownBy_trans hG (grownBy_below hb), (hb.block _ (heap_lt hz)).trans hz, (hb.block _ (heap_lt hf)).trans hf⟩
set_option maxHeartbeats 4000000 in
set_option maxRecDepth 100000 in
/-- unary, of a number -/
theorem un_digits (B br deep : Nat) (r : Rd) (w : World) (h : RdAt B br r w) (hb : beginsB r.here = true) (hd : deep ≤ 40) (h1 : r.here.text ≠ [126]) (h2 : r.here.text ≠ kPick) (h3 : r.here.text ≠ [40]) (hk : r.here.kind = 3) :
    Calls Tryz.prog 142 #[.pointer (some ⟨br, 0, none⟩), .int .i64 (deep : Int)] w (Mde B br w r (⟨0, 0, ⟨#[]⟩, r.here.value, [], r.here.at_⟩, r.next)) := by
  obtain ⟨hW, hG, hz, hf⟩ := un_start h
  have hl := (to_next r).2.1 h.2.1
  have hh := here_any B br r _ (h.alloc zeroE)
  have hbg := begins_any r.here (unW w r.here)
  rw [hb] at hbg
  have hv : r.here.value < 18446744073709551616 := by
    obtain ⟨_, g2, _, g, off, cap, sg, ev, _, _, _, ht, _⟩ := h
    exact (ht.2 0 r.here (good_head g2)).1.2.2.1
  have HU := fun w1 hb => Lib.hid (un_next hW hG hz hf (w1 := w1) hb)
  have HL := Lib.hid hl
  have F := fun w' h' => rnext_any B br r w' h'
  have x1 := ne_text h1
  have x2 : ((bstr r.here.text).toList == [112, 105, 99, 107]) = false := ne_text h2
  have x3 := ne_text h3
  have hk1 : 3 ≤ ((r.here.kind : Nat) : Int) := by omega
  have hk2 : ((r.here.kind : Nat) : Int) ≤ 3 := by omega
  have HV := Lib.hid hv
  clear hW hG hz hf hl h hb h1 h2 h3 hk hv
  generalize r.here = T at *
  go_enter Tryz.func142, Tryz.ntmps142
  go_wp2_with (first
    | (go_at_call 95; refine (F _ u1.out.1).mono ?_; rintro e w2 ⟨rfl, h2, g2⟩; have u2 := Lib.hid (u1.out.on h2 g2); have z2 := u2.out.2.2.1; obtain ⟨d0, d1, d2, d3, d4, d5⟩ := box_free z2; obtain ⟨x0, x1, x2, x3, x4, x5⟩ := box_cells z2; have hz2 := heap_lt z2; obtain ⟨t0, t1, t2, t3⟩ := four_tok u2.out.2.2.2)
    | (go_at_call 154; refine hbg.mono ?_; rintro e w1 ⟨rfl, hb1⟩; have u1 := HU _ hb1)
    | (go_at_call 45; refine hh.mono ?_; rintro e w' ⟨rfl, rfl⟩))
  have hP := put6_heap z2 (.int .i64 0) (.int .i64 0) (.string ⟨#[]⟩) (.int .u64 (T.value : Int)) (.slice none 0 0) (.int .i64 (T.at_ : Int))
  obtain ⟨q0, q1, q2, q3, q4, q5⟩ := box_cells hP
  exact bodyPost_ret (v := .agg #[.int .i64 0, .int .i64 0, .string ⟨#[]⟩, .int .u64 (T.value : Int), .slice none 0 0, .int .i64 (T.at_ : Int)]) (by simp [results, Tryz.results142, go_sem, q0, q1, q2, q3, q4, q5]) rfl
    ⟨_, rfl, erep_leaf (by have := HL.out; unfold gap; simp only; omega) 0 0 _ T.value _ HV.out, h2.put6 z2 _ _ _ _ _ _, grown_put6 u2.out.2.1 (Nat.le_refl _) _ _ _ _ _ _⟩
set_option maxHeartbeats 4000000 in
set_option maxRecDepth 100000 in
/-- unary, of a name -/
theorem un_name {f : Nat} (ih : RExC f) (B br deep : Nat) (r : Rd) (w : World) (h : RdAt B br r w) (hb : beginsB r.here = true) (hd : deep + 1 + f = 41) (h1 : r.here.text ≠ [126]) (h2 : r.here.text ≠ kPick) (h3 : r.here.text ≠ [40]) (hk : r.here.kind ≠ 3) :
    Calls Tryz.prog 142 #[.pointer (some ⟨br, 0, none⟩), .int .i64 (deep : Int)] w (Mde B br w r (namedOf (exprP f) r.here deep r.next)) := by
  obtain ⟨hW, hG, hz, hf⟩ := un_start h
  have hl := (to_next r).2.1 h.2.1
  have hh := here_any B br r _ (h.alloc zeroE)
  have hbg := begins_any r.here (unW w r.here)
  rw [hb] at hbg
  have HU := fun w1 hb => Lib.hid (un_next hW hG hz hf (w1 := w1) hb)
  have F := fun w' h' => rnext_any B br r w' h'
  have N := fun w' h' => named_of ih B br deep r.here r.next w' h' hd
  have lN : (namedOf (exprP f) r.here deep r.next).2.ts.length ≤ r.next.ts.length := (to_named (to_expr f) r.here deep r.next).2.1 h.2.1.next
  obtain ⟨t4, r4, e4⟩ : ∃ t x, namedOf (exprP f) r.here deep r.next = (t, x) := ⟨_, _, rfl⟩
  rw [e4] at N lN ⊢
  have HL : Hid (r4.ts.length ≤ r.next.ts.length ∧ r.next.ts.length ≤ r.ts.length) := ⟨lN, hl⟩
  have x1 := ne_text h1
  have x2 : ((bstr r.here.text).toList == [112, 105, 99, 107]) = false := ne_text h2
  have x3 := ne_text h3
  have hk1 : ¬ ((r.here.kind : Nat) : Int) = 3 := by omega
  have hdd : deep ≤ 40 := by omega
  clear hW hG hz hf hl h hb h1 h2 h3 hk e4 lN
  generalize r.here = T at *
  go_enter Tryz.func142, Tryz.ntmps142
  go_wp2_with (first
    | (go_at_call 156; refine (N _ u2.out.1).mono ?_; rintro e w3 ⟨v3, rfl, E3, h3, g3⟩; obtain ⟨ao3, kl3, cap3, rfl⟩ := erep_agg E3; have u3 := Lib.hid (u2.out.on h3 g3); have z3 := u3.out.2.2.1; obtain ⟨d0, d1, d2, d3, d4, d5⟩ := box_free z3; obtain ⟨x0, x1, x2, x3, x4, x5⟩ := box_cells z3; have hz3 := heap_lt z3)
    | (go_at_call 95; refine (F _ u1.out.1).mono ?_; rintro e w2 ⟨rfl, h2, g2⟩; have u2 := Lib.hid (u1.out.on h2 g2); obtain ⟨t0, t1, t2, t3⟩ := four_tok u2.out.2.2.2)
    | (go_at_call 154; refine hbg.mono ?_; rintro e w1 ⟨rfl, hb1⟩; have u1 := HU _ hb1)
    | (go_at_call 45; refine hh.mono ?_; rintro e w' ⟨rfl, rfl⟩))
  have hP := put6_heap z3 (.int .i64 t4.kind) (.int .i64 t4.op) (.string t4.name) (.int .u64 (t4.value : Int)) (.slice ao3 kl3 cap3) (.int .i64 t4.at_)
  obtain ⟨q0, q1, q2, q3, q4, q5⟩ := box_cells hP
  obtain ⟨l1, l2⟩ := HL.out
  have s2 := u2.out.2.1.size
  have hlt2 := heap_lt u2.out.2.2.2
  have res : ERep w.heap.size (put6 w3 w.heap.size (.int .i64 t4.kind) (.int .i64 t4.op) (.string t4.name) (.int .u64 (t4.value : Int)) (.slice ao3 kl3 cap3) (.int .i64 t4.at_)).heap.size (put6 w3 w.heap.size (.int .i64 t4.kind) (.int .i64 t4.op) (.string t4.name) (.int .u64 (t4.value : Int)) (.slice ao3 kl3 cap3) (.int .i64 t4.at_)) (gap r r4) _ t4 :=
    (E3.carry s2 (by rw [put6_size]; exact Nat.le_refl _) fun g cs fr hlo hhi hc => (put6_other _ _ _ _ _ _ _ _ g (by omega)).trans hc).up (by unfold gap; omega)
  exact bodyPost_ret (v := .agg #[.int .i64 t4.kind, .int .i64 t4.op, .string t4.name, .int .u64 (t4.value : Int), .slice ao3 kl3 cap3, .int .i64 t4.at_]) (by simp [results, Tryz.results142, go_sem, q0, q1, q2, q3, q4, q5]) rfl
    ⟨_, rfl, res, h3.put6 z3 _ _ _ _ _ _, grown_put6 u3.out.2.1 (Nat.le_refl _) _ _ _ _ _ _⟩
set_option maxHeartbeats 4000000 in
set_option maxRecDepth 100000 in
/-- unary, in brackets -/
theorem un_open {f : Nat} (ih : RExC f) (B br deep : Nat) (r : Rd) (w : World) (h : RdAt B br r w) (hb : beginsB r.here = true) (hd : deep + 1 + f = 41) (h3 : r.here.text = [40]) :
    Calls Tryz.prog 142 #[.pointer (some ⟨br, 0, none⟩), .int .i64 (deep : Int)] w (Mde B br w r ((exprP f 0 (deep + 1) r.next).1, (exprP f 0 (deep + 1) r.next).2.want [41])) := by
  obtain ⟨hW, hG, hz, hf⟩ := un_start h
  have hl := (to_next r).2.1 h.2.1
  have hh := here_any B br r _ (h.alloc zeroE)
  have hbg := begins_any r.here (unW w r.here)
  rw [hb] at hbg
  have HU := fun w1 hb => Lib.hid (un_next hW hG hz hf (w1 := w1) hb)
  have F := fun w' h' => rnext_any B br r w' h'
  have lN := (to_expr f 0 (deep + 1) r.next).2.1 h.2.1.next
  have gN := (to_expr f 0 (deep + 1) r.next).1 h.2.1.next
  obtain ⟨t4, r4, e4⟩ : ∃ t x, exprP f 0 (deep + 1) r.next = (t, x) := ⟨_, _, rfl⟩
  have X : ∀ w', RdAt B br r.next w' → Calls Tryz.prog 129 #[.pointer (some ⟨br, 0, none⟩), .int .i64 0, .int .i64 ((deep : Int) + 1)] w' (Mde B br w' r.next (t4, r4)) := fun w' h' => by
    have := ih B br 0 (deep + 1) r.next w' h' (by omega) (by omega)
    rw [e4] at this
    exact this
  rw [e4] at lN gN ⊢
  have l5 := (to_want [41] r4).2.1 gN
  obtain ⟨r5, e5⟩ : ∃ x, r4.want [41] = x := ⟨_, rfl⟩
  have W5 := fun w' h' => want_any B br r4 ⟨#[41]⟩ [41] rfl w' h'
  simp only
  rw [e5] at W5 l5 ⊢
  have HL : Hid (r5.ts.length ≤ r4.ts.length ∧ r4.ts.length ≤ r.next.ts.length ∧ r.next.ts.length ≤ r.ts.length) := ⟨l5, lN, hl⟩
  have x1 : ((bstr r.here.text).toList == [126]) = false := ne_text (by rw [h3]; decide)
  have x2 : ((bstr r.here.text).toList == [112, 105, 99, 107]) = false := ne_text (by rw [h3]; decide)
  have x3 := eq_text h3
  have hdd : deep ≤ 40 := by omega
  clear hW hG hz hf hl h hb h3 e4 lN gN e5 l5
  generalize r.here = T at *
  go_enter Tryz.func142, Tryz.ntmps142
  go_wp2_with (first
    | (go_at_call 46; refine (W5 _ (h3.alloc _)).mono ?_; rintro e w4 ⟨rfl, h4, g4⟩; have b4 := (h3.alloc _).heap g4 (heap_alloc_new w3 (.cells #[.int .i64 t4.kind, .int .i64 t4.op, .string t4.name, .int .u64 t4.value, .slice ao3 kl3 cap3, .int .i64 t4.at_] 57)) (by decide); obtain ⟨a0, a1, a2, a3, a4, a5⟩ := box_cells b4; have u4 := Lib.hid (u3.out.on h4 (grownBy_trans (World.grownBy_alloc w3 _ _) g4)); have z4 := u4.out.2.2.1; obtain ⟨d0, d1, d2, d3, d4, d5⟩ := box_free z4; obtain ⟨x0, x1, x2, x3, x4, x5⟩ := box_cells z4; have hz4 := heap_lt z4)
    | (go_at_call 129; refine (X _ u2.out.1).mono ?_; rintro e w3 ⟨v3, rfl, E3, h3, g3⟩; obtain ⟨ao3, kl3, cap3, rfl⟩ := erep_agg E3; have u3 := Lib.hid (u2.out.on h3 g3))
    | (go_at_call 95; refine (F _ u1.out.1).mono ?_; rintro e w2 ⟨rfl, h2, g2⟩; have u2 := Lib.hid (u1.out.on h2 g2); obtain ⟨t0, t1, t2, t3⟩ := four_tok u2.out.2.2.2)
    | (go_at_call 154; refine hbg.mono ?_; rintro e w1 ⟨rfl, hb1⟩; have u1 := HU _ hb1)
    | (go_at_call 45; refine hh.mono ?_; rintro e w' ⟨rfl, rfl⟩))
  have hP := put6_heap z4 (.int .i64 t4.kind) (.int .i64 t4.op) (.string t4.name) (.int .u64 (t4.value : Int)) (.slice ao3 kl3 cap3) (.int .i64 t4.at_)
  obtain ⟨q0, q1, q2, q3, q4, q5⟩ := box_cells hP
  obtain ⟨l0, l1, l2⟩ := HL.out
  have s2 := u2.out.2.1.size
  have hlt2 := heap_lt u2.out.2.2.2
  have sg := (grownBy_trans (World.grownBy_alloc w3 (.cells #[.int .i64 t4.kind, .int .i64 t4.op, .string t4.name, .int .u64 t4.value, .slice ao3 kl3 cap3, .int .i64 t4.at_] 57) _) g4).size
  have res : ERep w.heap.size (put6 w4 w.heap.size (.int .i64 t4.kind) (.int .i64 t4.op) (.string t4.name) (.int .u64 (t4.value : Int)) (.slice ao3 kl3 cap3) (.int .i64 t4.at_)).heap.size (put6 w4 w.heap.size (.int .i64 t4.kind) (.int .i64 t4.op) (.string t4.name) (.int .u64 (t4.value : Int)) (.slice ao3 kl3 cap3) (.int .i64 t4.at_)) (gap r r5) _ t4 :=
    (E3.carry s2 (by rw [put6_size]; exact sg) fun g cs fr hlo hhi hc => (put6_other _ _ _ _ _ _ _ _ g (by omega)).trans ((h3.alloc _).heap g4 (alloc_keep hc _) (by decide))).up (by unfold gap; omega)
  exact bodyPost_ret (v := .agg #[.int .i64 t4.kind, .int .i64 t4.op, .string t4.name, .int .u64 (t4.value : Int), .slice ao3 kl3 cap3, .int .i64 t4.at_]) (by simp [results, Tryz.results142, go_sem, q0, q1, q2, q3, q4, q5]) rfl
    ⟨_, rfl, res, h4.put6 z4 _ _ _ _ _ _, grown_put6 u4.out.2.1 (Nat.le_refl _) _ _ _ _ _ _⟩
end Go.Proofs.YtfginegegaokbaaGreatDoor.Pr
