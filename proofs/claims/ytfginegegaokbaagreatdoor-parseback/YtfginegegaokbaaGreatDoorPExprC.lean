/- What the reader's named and three do. Conditions: as in PRead. -/
import Derived.Test.YtfginegegaokbaaGreatDoorPExprB
namespace Go.Proofs.YtfginegegaokbaaGreatDoor.Pr
open Go.ChangeShapes Go.WideShapes Go.ChangeAt Go.RowKit
open Lx (Tok)
set_option linter.unusedVariables false
set_option linter.unusedSimpArgs false

/-- An expression behind what was done later. -/
theorem rep_on {B br lo n m : Nat} {r : Rd} {w w' : World} {v : Value} {t : Tree} (hE : ERep lo w.heap.size w n v t) (h : RdAt B br r w) (hg : w.grownBy w' (some br)) (hn : n ≤ m) (lo' : Nat) (hlo : lo' ≤ lo) : ERep lo' w'.heap.size w' m v t :=
  (hE.carry hlo hg.size (h.same35 hg _ _)).up hn
theorem is_next {r : Rd} (hg : r.good) {s : List UInt8} (hs : s ≠ []) (h : r.is s = true) : r.next.good ∧ r.next.ts.length + 1 = r.ts.length := by
  rcases good_cases hg with ⟨k, _, e⟩ | ⟨_, _, _, h1, _, h3⟩
  · unfold Rd.is at h
    rw [e] at h
    have h' : ([] : List UInt8) = s := by simpa [endT] using h
    exact absurd h'.symm hs
  · exact ⟨h1, h3⟩
set_option maxHeartbeats 4000000 in
set_option maxRecDepth 100000 in
/-- reader.three -/
theorem three_of {f : Nat} (ih : RExC f) (B br deep : Nat) (r : Rd) (w : World) (h : RdAt B br r w) (hd : deep + f = 41) :
    Calls Tryz.prog 155 #[.pointer (some ⟨br, 0, none⟩), .int .i64 (deep : Int)] w fun e w' => ∃ g, e = .returned (.slice (some ⟨g, 0, none⟩) 3 3) ∧
      Kids w.heap.size w'.heap.size w' (fun v t => ERep w.heap.size w'.heap.size w' (gap r (threeOf (exprP f) deep r).2) v t) (.slice (some ⟨g, 0, none⟩) 3 3) (threeOf (exprP f) deep r).1 ∧ RdAt B br (threeOf (exprP f) deep r).2 w' ∧ w.grownBy w' (some br) := by
  obtain ⟨r1, e1⟩ : ∃ x, r.want [40] = x := ⟨_, rfl⟩
  obtain ⟨t2, r2, e2⟩ : ∃ t x, exprP f 0 deep r1 = (t, x) := ⟨_, _, rfl⟩
  obtain ⟨r3, e3⟩ : ∃ x, r2.want [44] = x := ⟨_, rfl⟩
  obtain ⟨t4, r4, e4⟩ : ∃ t x, exprP f 0 deep r3 = (t, x) := ⟨_, _, rfl⟩
  obtain ⟨r5, e5⟩ : ∃ x, r4.want [44] = x := ⟨_, rfl⟩
  obtain ⟨t6, r6, e6⟩ : ∃ t x, exprP f 0 deep r5 = (t, x) := ⟨_, _, rfl⟩
  obtain ⟨r7, e7⟩ : ∃ x, r6.want [41] = x := ⟨_, rfl⟩
  have et : threeOf (exprP f) deep r = ([t2, t4, t6], r7) := by unfold threeOf; simp only [e1, e2, e3, e4, e5, e6, e7]
  rw [et]
  have T1 : r.to r1 := e1 ▸ to_want _ _
  have T2 : r1.to r2 := by have := to_expr f 0 deep r1; rw [e2] at this; exact this
  have T3 : r2.to r3 := e3 ▸ to_want _ _
  have T4 : r3.to r4 := by have := to_expr f 0 deep r3; rw [e4] at this; exact this
  have T5 : r4.to r5 := e5 ▸ to_want _ _
  have T6 : r5.to r6 := by have := to_expr f 0 deep r5; rw [e6] at this; exact this
  have T7 : r6.to r7 := e7 ▸ to_want _ _
  have G0 := h.2.1
  have l1 := T1.2.1 G0
  have G1 := T1.1 G0
  have l2 := T2.2.1 G1
  have G2 := T2.1 G1
  have l3 := T3.2.1 G2
  have G3 := T3.1 G2
  have l4 := T4.2.1 G3
  have G4 := T4.1 G3
  have l5 := T5.2.1 G4
  have G5 := T5.1 G4
  have l6 := T6.2.1 G5
  have G6 := T6.1 G5
  have l7 := T7.2.1 G6
  have W1 := want_any B br r ⟨#[40]⟩ [40] rfl w h
  rw [e1] at W1
  have X2 := fun w' h' => ih B br 0 deep r1 w' h' (by omega) hd
  rw [e2] at X2
  have W3 := fun w' h' => want_any B br r2 ⟨#[44]⟩ [44] rfl w' h'
  rw [e3] at W3
  have X4 := fun w' h' => ih B br 0 deep r3 w' h' (by omega) hd
  rw [e4] at X4
  have W5 := fun w' h' => want_any B br r4 ⟨#[44]⟩ [44] rfl w' h'
  rw [e5] at W5
  have X6 := fun w' h' => ih B br 0 deep r5 w' h' (by omega) hd
  rw [e6] at X6
  have W7 := fun w' h' => want_any B br r6 ⟨#[41]⟩ [41] rfl w' h'
  rw [e7] at W7
  have HL : Hid (r7.ts.length ≤ r6.ts.length ∧ r6.ts.length ≤ r5.ts.length ∧ r5.ts.length ≤ r4.ts.length ∧ r4.ts.length ≤ r3.ts.length ∧ r3.ts.length ≤ r2.ts.length ∧ r2.ts.length ≤ r1.ts.length ∧ r1.ts.length ≤ r.ts.length) := ⟨l7, l6, l5, l4, l3, l2, l1⟩
  clear T1 T2 T3 T4 T5 T6 T7 G0 G1 G2 G3 G4 G5 G6 l1 l2 l3 l4 l5 l6 l7 e1 e2 e3 e4 e5 e6 e7 et h
  go_enter Tryz.func155, Tryz.ntmps155
  go_wp2_with (first
    | (go_at_call 46; refine (W7 _ (h6.alloc _)).mono ?_; rintro e w7 ⟨rfl, h7, g7⟩; have bA7 := (h6.alloc _).heap g7 (alloc_keep bA6 _) (by decide); have bB7 := (h6.alloc _).heap g7 (alloc_keep bB6 _) (by decide); have bC7 := (h6.alloc _).heap g7 (heap_alloc_new w6 (.cells #[.int .i64 t6.kind, .int .i64 t6.op, .string t6.name, .int .u64 t6.value, .slice ao6 kl6 cap6, .int .i64 t6.at_] 57)) (by decide); obtain ⟨a0, a1, a2, a3, a4, a5⟩ := box_cells bA7; obtain ⟨b0, b1, b2, b3, b4, b5⟩ := box_cells bB7; obtain ⟨c0, c1, c2, c3, c4, c5⟩ := box_cells bC7)
    | (go_at_call 129; refine (X6 _ h5).mono ?_; rintro e w6 ⟨v6, rfl, E6, h6, g6⟩; obtain ⟨ao6, kl6, cap6, rfl⟩ := erep_agg E6; have bA6 := h5.heap g6 bA5 (by decide); have bB6 := h5.heap g6 bB5 (by decide))
    | (go_at_call 46; refine (W5 _ (h4.alloc _)).mono ?_; rintro e w5 ⟨rfl, h5, g5⟩; have bA5 := (h4.alloc _).heap g5 (alloc_keep bA4 _) (by decide); have bB5 := (h4.alloc _).heap g5 (heap_alloc_new w4 (.cells #[.int .i64 t4.kind, .int .i64 t4.op, .string t4.name, .int .u64 t4.value, .slice ao4 kl4 cap4, .int .i64 t4.at_] 57)) (by decide))
    | (go_at_call 129; refine (X4 _ h3).mono ?_; rintro e w4 ⟨v4, rfl, E4, h4, g4⟩; obtain ⟨ao4, kl4, cap4, rfl⟩ := erep_agg E4; have bA4 := h3.heap g4 bA3 (by decide))
    | (go_at_call 46; refine (W3 _ (h2.alloc _)).mono ?_; rintro e w3 ⟨rfl, h3, g3⟩; have bA3 := (h2.alloc _).heap g3 (heap_alloc_new w2 (.cells #[.int .i64 t2.kind, .int .i64 t2.op, .string t2.name, .int .u64 t2.value, .slice ao2 kl2 cap2, .int .i64 t2.at_] 57)) (by decide))
    | (go_at_call 129; refine (X2 _ h1).mono ?_; rintro e w2 ⟨v2, rfl, E2, h2, g2⟩; obtain ⟨ao2, kl2, cap2, rfl⟩ := erep_agg E2)
    | (go_at_call 46; refine W1.mono ?_; rintro e w1 ⟨rfl, h1, g1⟩))
  go_ret
  obtain ⟨q7, q6, q5, q4, q3, q2, q1⟩ := HL.out
  have k7 := World.grownBy_alloc w7 (.cells #[.int .i64 t2.kind, .int .i64 t2.op, .string t2.name, .int .u64 t2.value, .slice ao2 kl2 cap2, .int .i64 t2.at_, .int .i64 t4.kind, .int .i64 t4.op, .string t4.name, .int .u64 t4.value, .slice ao4 kl4 cap4, .int .i64 t4.at_, .int .i64 t6.kind, .int .i64 t6.op, .string t6.name, .int .u64 t6.value, .slice ao6 kl6 cap6, .int .i64 t6.at_] 57) (some br)
  have k6 := grownBy_trans (grownBy_trans (World.grownBy_alloc w6 _ _) g7) k7
  have k5 := grownBy_trans g6 k6
  have k4 := grownBy_trans (grownBy_trans (World.grownBy_alloc w4 _ _) g5) k5
  have k3 := grownBy_trans g4 k4
  have k2 := grownBy_trans (grownBy_trans (World.grownBy_alloc w2 _ _) g3) k3
  have k1 := grownBy_trans g2 k2
  have k0 := grownBy_trans g1 k1
  have s1 := g1.size
  have s3 := (grownBy_trans g1 (grownBy_trans g2 (grownBy_trans (World.grownBy_alloc w2 _ _) g3))).size
  have s5 := (grownBy_trans (grownBy_trans g1 (grownBy_trans g2 (grownBy_trans (World.grownBy_alloc w2 _ _) g3))) (grownBy_trans g4 (grownBy_trans (World.grownBy_alloc w4 _ _) g5))).size
  have s7 := (grownBy_trans (grownBy_trans (grownBy_trans g1 (grownBy_trans g2 (grownBy_trans (World.grownBy_alloc w2 _ _) g3))) (grownBy_trans g4 (grownBy_trans (World.grownBy_alloc w4 _ _) g5))) (grownBy_trans g6 (grownBy_trans (World.grownBy_alloc w6 _ _) g7))).size
  refine ⟨_, rfl, kids3 (heap_alloc_new w7 _) s7 (by rw [alloc_size]; omega) (rep_on E2 h2 k2 (by unfold gap; omega) _ s1) (rep_on E4 h4 k4 (by unfold gap; omega) _ s3) (rep_on E6 h6 k6 (by unfold gap; omega) _ s5), h7.alloc _, k0⟩

theorem erep_leaf {lo B n : Nat} {w : World} (hn : 1 ≤ n) (k o : Int) (s : ByteArray) (v : Nat) (a : Int) (hv : v < 18446744073709551616) : ERep lo B w n (.agg #[.int .i64 k, .int .i64 o, .string s, .int .u64 (v : Int), .slice none 0 0, .int .i64 a]) ⟨k, o, s, v, [], a⟩ :=
  ERep.up (n := 1) (show ERep lo B w 1 (.agg #[.int .i64 k, .int .i64 o, .string s, .int .u64 (v : Int), .slice none 0 0, .int .i64 a]) ⟨k, o, s, v, [], a⟩ from ⟨hv, _, rfl, kids0⟩) hn
/-- An expression of kids. -/
theorem erep_kids {lo B n m : Nat} {w : World} (k o : Int) (s : ByteArray) (v : Nat) (a : Int) (ks : List Tree) (kv : Value) (hv : v < 18446744073709551616) (hk : Kids lo B w (fun v t => ERep lo B w n v t) kv ks) (hm : n + 1 ≤ m) :
    ERep lo B w m (.agg #[.int .i64 k, .int .i64 o, .string s, .int .u64 (v : Int), kv, .int .i64 a]) ⟨k, o, s, v, ks, a⟩ :=
  ERep.up (n := n + 1) (show ERep lo B w (n + 1) (.agg #[.int .i64 k, .int .i64 o, .string s, .int .u64 (v : Int), kv, .int .i64 a]) ⟨k, o, s, v, ks, a⟩ from ⟨hv, kv, rfl, hk⟩) hm
/-- A name's expression. -/
@[reducible] def nameO (t : Tok) : Obj := .cells #[.int .i64 1, .int .i64 0, .string (bstr t.text), .int .u64 0, .slice none 0 0, .int .i64 (t.at_ : Int)] 57
set_option maxHeartbeats 4000000 in
set_option maxRecDepth 100000 in
/-- reader.named, of a name alone -/
theorem named_no (B br deep f : Nat) (t : Tok) (r : Rd) (w : World) (h : RdAt B br r w) (hi : r.is [91] = false) :
    Calls Tryz.prog 156 #[.pointer (some ⟨br, 0, none⟩), .agg #[.int .i64 (t.kind : Int), .string (bstr t.text), .int .u64 (t.value : Int), .int .i64 (t.at_ : Int)], .int .i64 (deep : Int)] w (Mde B br w r (namedOf (exprP f) t deep r)) := by
  have et : namedOf (exprP f) t deep r = (⟨1, 0, bstr t.text, 0, [], t.at_⟩, r) := by unfold namedOf; rw [hi]; rfl
  rw [et]
  have hW : RdAt B br r (((w.alloc (tokO t)).alloc zeroE).alloc (nameO t)) := ((h.alloc _).alloc _).alloc _
  have hG : w.grownBy (((w.alloc (tokO t)).alloc zeroE).alloc (nameO t)) (some br) := grown_alloc (grown_alloc (World.grownBy_alloc w _ _) _) _
  have hz : (((w.alloc (tokO t)).alloc zeroE).alloc (nameO t)).heap[w.heap.size + 1]? = some zeroE := by rw [alloc_at, if_neg (by simp), alloc_at, if_pos (by simp)]
  have he : (((w.alloc (tokO t)).alloc zeroE).alloc (nameO t)).heap[w.heap.size + 2]? = some (nameO t) := by rw [alloc_at, if_pos (by simp)]
  have hlt := h.lt
  have T1 := take_no B br r ⟨#[91]⟩ [91] rfl _ hW hi
  have HZ := Lib.hid hz
  have HE := Lib.hid he
  have HW := Lib.hid hW
  have HG := Lib.hid hG
  clear hW hG hz he h hi et
  go_enter Tryz.func156, Tryz.ntmps156
  go_wp2_with (go_at_call 73; refine T1.mono ?_; rintro e w1 ⟨rfl, h1, g1⟩; have z1 := HW.out.heap g1 HZ.out (by decide); have e1 := HW.out.heap g1 HE.out (by decide); obtain ⟨c0, c1, c2, c3, c4, c5⟩ := box_cells e1; obtain ⟨d0, d1, d2, d3, d4, d5⟩ := box_free z1; obtain ⟨x0, x1, x2, x3, x4, x5⟩ := box_cells z1; have hz1 := heap_lt z1)
  have hP := put6_heap z1 (.int .i64 1) (.int .i64 0) (.string (bstr t.text)) (.int .u64 0) (.slice none 0 0) (.int .i64 (t.at_ : Int))
  obtain ⟨q0, q1, q2, q3, q4, q5⟩ := box_cells hP
  exact bodyPost_ret (v := .agg #[.int .i64 1, .int .i64 0, .string (bstr t.text), .int .u64 0, .slice none 0 0, .int .i64 (t.at_ : Int)]) (by simp [results, Tryz.results156, go_sem, q0, q1, q2, q3, q4, q5]) rfl
    ⟨_, rfl, erep_leaf (show 1 ≤ r.ts.length + 1 - r.ts.length by omega) 1 0 _ 0 _ (by decide), h1.put6 z1 _ _ _ _ _ _, grown_put6 (grownBy_trans HG.out g1) (by omega) _ _ _ _ _ _⟩
set_option maxHeartbeats 4000000 in
set_option maxRecDepth 100000 in
/-- reader.named, of a cell -/
theorem named_yes {f : Nat} (ih : RExC f) (B br deep : Nat) (t : Tok) (r : Rd) (w : World) (h : RdAt B br r w) (hi : r.is [91] = true) (hd : deep + 1 + f = 41) :
    Calls Tryz.prog 156 #[.pointer (some ⟨br, 0, none⟩), .agg #[.int .i64 (t.kind : Int), .string (bstr t.text), .int .u64 (t.value : Int), .int .i64 (t.at_ : Int)], .int .i64 (deep : Int)] w (Mde B br w r (namedOf (exprP f) t deep r)) := by
  obtain ⟨t2, r2, e2⟩ : ∃ t x, exprP f 0 (deep + 1) r.next = (t, x) := ⟨_, _, rfl⟩
  obtain ⟨r3, e3⟩ : ∃ x, r2.want [93] = x := ⟨_, rfl⟩
  have et : namedOf (exprP f) t deep r = (⟨2, 0, bstr t.text, 0, [t2], t.at_⟩, r3) := by unfold namedOf; rw [hi, if_pos rfl, e2]; simp only [e3]
  rw [et]
  obtain ⟨G1, l1⟩ := is_next h.2.1 (by simp) hi
  have T2 : r.next.to r2 := by have := to_expr f 0 (deep + 1) r.next; rw [e2] at this; exact this
  have T3 : r2.to r3 := e3 ▸ to_want _ _
  have l2 := T2.2.1 G1
  have l3 := T3.2.1 (T2.1 G1)
  have X2 : ∀ w', RdAt B br r.next w' → Calls Tryz.prog 129 #[.pointer (some ⟨br, 0, none⟩), .int .i64 0, .int .i64 ((deep : Int) + 1)] w' (Mde B br w' r.next (t2, r2)) := fun w' h' => by
    have := ih B br 0 (deep + 1) r.next w' h' (by omega) (by omega)
    rw [e2] at this
    exact this
  have W3 := fun w' h' => want_any B br r2 ⟨#[93]⟩ [93] rfl w' h'
  rw [e3] at W3
  have hW : RdAt B br r (((w.alloc (tokO t)).alloc zeroE).alloc (nameO t)) := ((h.alloc _).alloc _).alloc _
  have hG : w.grownBy (((w.alloc (tokO t)).alloc zeroE).alloc (nameO t)) (some br) := grown_alloc (grown_alloc (World.grownBy_alloc w _ _) _) _
  have hz : (((w.alloc (tokO t)).alloc zeroE).alloc (nameO t)).heap[w.heap.size + 1]? = some zeroE := by rw [alloc_at, if_neg (by simp), alloc_at, if_pos (by simp)]
  have he : (((w.alloc (tokO t)).alloc zeroE).alloc (nameO t)).heap[w.heap.size + 2]? = some (nameO t) := by rw [alloc_at, if_pos (by simp)]
  have hlt := h.lt
  have T1 := take_yes B br r ⟨#[91]⟩ [91] rfl _ hW hi
  have HZ := Lib.hid hz
  have HE := Lib.hid he
  have HW := Lib.hid hW
  have HG := Lib.hid hG
  have HL : Hid (r.next.ts.length + 1 = r.ts.length ∧ r2.ts.length ≤ r.next.ts.length ∧ r3.ts.length ≤ r2.ts.length) := ⟨l1, l2, l3⟩
  have hdd : deep ≤ 41 := by omega
  clear hW hG hz he h hi et e2 e3 T2 T3 l1 l2 l3 G1 hd
  go_enter Tryz.func156, Tryz.ntmps156
  go_wp2_with (first
    | (go_at_call 46; refine (W3 _ ((h2.set b2 notRd 4 _).alloc _)).mono ?_; rintro e w3 ⟨rfl, h3, g3⟩; have b3 : w3.heap[w.heap.size + 2]? = some (.cells #[.int .i64 2, .int .i64 0, .string (bstr t.text), .int .u64 0, .slice (some ⟨w2.heap.size, 0, none⟩) 1 1, .int .i64 (t.at_ : Int)] 57 (0, 0)) := ((h2.set b2 notRd 4 _).alloc _).heap g3 (alloc_keep (set_heap b2 4 _) _) (by decide); have z3 : w3.heap[w.heap.size + 1]? = some zeroE := ((h2.set b2 notRd 4 _).alloc _).heap g3 (alloc_keep ((Below.heap_setCell _ _ _ _ (by simp)).trans z2) _) (by decide); obtain ⟨c0, c1, c2, c3, c4, c5⟩ := box_cells b3; obtain ⟨d0, d1, d2, d3, d4, d5⟩ := box_free z3; obtain ⟨x0, x1, x2, x3, x4, x5⟩ := box_cells z3; have hz3 := heap_lt z3)
    | (go_at_call 129; refine (X2 _ (h1.set b1 notRd 0 _)).mono ?_; rintro e w2 ⟨v2, rfl, E2, h2, g2⟩; obtain ⟨ao2, kl2, cap2, rfl⟩ := erep_agg E2; have b2 : w2.heap[w.heap.size + 2]? = some (.cells #[.int .i64 2, .int .i64 0, .string (bstr t.text), .int .u64 0, .slice none 0 0, .int .i64 (t.at_ : Int)] 57 (0, 0)) := (h1.set b1 notRd 0 _).heap g2 (set_heap b1 0 _) (by decide); have z2 : w2.heap[w.heap.size + 1]? = some zeroE := (h1.set b1 notRd 0 _).heap g2 ((Below.heap_setCell _ _ _ _ (by simp)).trans z1) (by decide); obtain ⟨y0, y1, y2, y3, y4, y5⟩ := box_cells b2; obtain ⟨m0, m1, m2, m3, m4, m5⟩ := box_free b2; have hb2 := heap_lt b2)
    | (go_at_call 73; refine T1.mono ?_; rintro e w1 ⟨rfl, h1, g1⟩; have z1 := HW.out.heap g1 HZ.out (by decide); have b1 := HW.out.heap g1 HE.out (by decide); obtain ⟨p0, p1, p2, p3, p4, p5⟩ := box_cells b1; obtain ⟨n0, n1, n2, n3, n4, n5⟩ := box_free b1; have hb1 := heap_lt b1))
  have hP := put6_heap z3 (.int .i64 2) (.int .i64 0) (.string (bstr t.text)) (.int .u64 0) (.slice (some ⟨w2.heap.size, 0, none⟩) 1 1) (.int .i64 (t.at_ : Int))
  obtain ⟨q0, q1, q2, q3, q4, q5⟩ := box_cells hP
  obtain ⟨l1, l2, l3⟩ := HL.out
  have s1 := (grownBy_trans HG.out g1).size
  have s1' := g1.size
  simp only [alloc_size] at s1'
  have s2 := g2.size
  have hss : (w1.setCell ⟨w.heap.size + 2, 0, none⟩ (.int .i64 2)).heap.size = w1.heap.size := by simp [World.setCell]
  rw [hss] at s2
  have hss2 : (w2.setCell ⟨w.heap.size + 2, 4, none⟩ (.slice (some ⟨w2.heap.size, 0, none⟩) 1 1)).heap.size = w2.heap.size := by simp [World.setCell]
  have hnew : w3.heap[w2.heap.size]? = some (.cells #[.int .i64 t2.kind, .int .i64 t2.op, .string t2.name, .int .u64 t2.value, .slice ao2 kl2 cap2, .int .i64 t2.at_] 57 (0, 0)) :=
    ((h2.set b2 notRd 4 _).alloc _).heap g3 (by rw [alloc_at, hss2, if_pos rfl]) (by decide)
  have hnP := (put6_other w3 (w.heap.size + 1) (.int .i64 2) (.int .i64 0) (.string (bstr t.text)) (.int .u64 0) (.slice (some ⟨w2.heap.size, 0, none⟩) 1 1) (.int .i64 (t.at_ : Int)) w2.heap.size (by omega)).trans hnew
  have hlt3 := heap_lt hnew
  have kid : ERep w.heap.size (put6 w3 (w.heap.size + 1) (.int .i64 2) (.int .i64 0) (.string (bstr t.text)) (.int .u64 0) (.slice (some ⟨w2.heap.size, 0, none⟩) 1 1) (.int .i64 (t.at_ : Int))).heap.size (put6 w3 (w.heap.size + 1) (.int .i64 2) (.int .i64 0) (.string (bstr t.text)) (.int .u64 0) (.slice (some ⟨w2.heap.size, 0, none⟩) 1 1) (.int .i64 (t.at_ : Int))) (gap r.next r2) _ t2 :=
    E2.carry (by rw [hss]; omega) (by rw [put6_size]; omega) fun g cs fr hlo hhi hc => by
      rw [hss] at hlo
      exact (put6_other _ _ _ _ _ _ _ _ g (by omega)).trans (((h2.set b2 notRd 4 _).alloc _).heap g3 (alloc_keep ((Below.heap_setCell _ _ _ _ (show g ≠ w.heap.size + 2 by omega)).trans hc) _) (by decide))
  have hgr : w.grownBy w3 (some br) := grownBy_trans (grown_alloc (grown_set (grownBy_trans (grown_set (grownBy_trans HG.out g1) (by omega) _ _) g2) (by omega) _ _) _) g3
  have kk := kids1 (lo := w.heap.size) (B := (put6 w3 (w.heap.size + 1) (.int .i64 2) (.int .i64 0) (.string (bstr t.text)) (.int .u64 0) (.slice (some ⟨w2.heap.size, 0, none⟩) 1 1) (.int .i64 (t.at_ : Int))).heap.size) (R := fun v t' => ERep w.heap.size (put6 w3 (w.heap.size + 1) (.int .i64 2) (.int .i64 0) (.string (bstr t.text)) (.int .u64 0) (.slice (some ⟨w2.heap.size, 0, none⟩) 1 1) (.int .i64 (t.at_ : Int))).heap.size (put6 w3 (w.heap.size + 1) (.int .i64 2) (.int .i64 0) (.string (bstr t.text)) (.int .u64 0) (.slice (some ⟨w2.heap.size, 0, none⟩) 1 1) (.int .i64 (t.at_ : Int))) (gap r.next r2) v t') hnP (by omega) (by rw [put6_size]; omega) kid
  have res := erep_kids (m := gap r r3) 2 0 (bstr t.text) 0 (t.at_ : Int) [t2] _ (by decide) kk (by unfold gap; omega)
  exact bodyPost_ret (v := .agg #[.int .i64 2, .int .i64 0, .string (bstr t.text), .int .u64 0, .slice (some ⟨w2.heap.size, 0, none⟩) 1 1, .int .i64 (t.at_ : Int)]) (by simp [results, Tryz.results156, go_sem, q0, q1, q2, q3, q4, q5]) rfl
    ⟨_, rfl, res, h3.put6 z3 _ _ _ _ _ _, grown_put6 hgr (by omega) _ _ _ _ _ _⟩
theorem named_of {f : Nat} (ih : RExC f) (B br deep : Nat) (t : Tok) (r : Rd) (w : World) (h : RdAt B br r w) (hd : deep + 1 + f = 41) :
    Calls Tryz.prog 156 #[.pointer (some ⟨br, 0, none⟩), .agg #[.int .i64 (t.kind : Int), .string (bstr t.text), .int .u64 (t.value : Int), .int .i64 (t.at_ : Int)], .int .i64 (deep : Int)] w (Mde B br w r (namedOf (exprP f) t deep r)) := by
  cases hi : r.is [91] with
  | true => exact named_yes ih B br deep t r w h hi hd
  | false => exact named_no B br deep f t r w h hi
end Go.Proofs.YtfginegegaokbaaGreatDoor.Pr
