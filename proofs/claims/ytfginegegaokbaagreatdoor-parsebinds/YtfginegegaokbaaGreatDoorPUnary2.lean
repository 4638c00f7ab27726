/- What the reader's unary does at '~' and at 'pick'. Conditions: as in PRead. -/
import Derived.Test.YtfginegegaokbaaGreatDoorPUnary
import Derived.Test.YtfginegegaokbaaGreatDoorRegPos
namespace Go.Proofs.YtfginegegaokbaaGreatDoor.Pr
open Go.ChangeShapes Go.WideShapes Go.ChangeAt Go.RowKit
open Lx (Tok)
set_option linter.unusedVariables false
set_option linter.unusedSimpArgs false

/-- Kids that were read. -/
def KidsAt (w0 w : World) (n : Nat) (v : Value) (ks : List Tree) : Prop := Kids (w0.heap.size + 1) w.heap.size w (fun v t => ERep (w0.heap.size + 1) w.heap.size w n v t) v ks
/-- The end: kids. -/
theorem un_kids {B br n : Nat} {r r' : Rd} {w w5 : World} {T : Tok} {k : Int} {ks : List Tree} {kv : Value} (u : UnAt B br w T r' w5) (hK : KidsAt w w5 n kv ks) (hn : n + 1 ≤ gap r r') :
    Mde B br w r (⟨k, 0, ⟨#[]⟩, 0, ks, T.at_⟩, r') (.returned (.agg #[.int .i64 k, .int .i64 0, .string ⟨#[]⟩, .int .u64 0, kv, .int .i64 (T.at_ : Int)])) (put6 w5 w.heap.size (.int .i64 k) (.int .i64 0) (.string ⟨#[]⟩) (.int .u64 0) kv (.int .i64 (T.at_ : Int))) := by
  have hs : ∀ lo, w.heap.size + 1 ≤ lo → Same35 lo w5.heap.size w5 (put6 w5 w.heap.size (.int .i64 k) (.int .i64 0) (.string ⟨#[]⟩) (.int .u64 0) kv (.int .i64 (T.at_ : Int))) := fun lo hlo g cs fr h1 _ hc => (put6_other _ _ _ _ _ _ _ _ g (by omega)).trans hc
  have hz := put6_size w5 w.heap.size (.int .i64 k) (.int .i64 0) (.string ⟨#[]⟩) (.int .u64 0) kv (.int .i64 (T.at_ : Int))
  have K : Kids w.heap.size (put6 w5 w.heap.size (.int .i64 k) (.int .i64 0) (.string ⟨#[]⟩) (.int .u64 0) kv (.int .i64 (T.at_ : Int))).heap.size (put6 w5 w.heap.size (.int .i64 k) (.int .i64 0) (.string ⟨#[]⟩) (.int .u64 0) kv (.int .i64 (T.at_ : Int))) (fun v t => ERep w.heap.size (put6 w5 w.heap.size (.int .i64 k) (.int .i64 0) (.string ⟨#[]⟩) (.int .u64 0) kv (.int .i64 (T.at_ : Int))).heap.size (put6 w5 w.heap.size (.int .i64 k) (.int .i64 0) (.string ⟨#[]⟩) (.int .u64 0) kv (.int .i64 (T.at_ : Int))) n v t) kv ks :=
    hK.carry (Nat.le_succ _) (by rw [hz]; exact Nat.le_refl _) (hs _ (Nat.le_refl _)) fun v t hE => hE.carry (Nat.le_succ _) (by rw [hz]; exact Nat.le_refl _) (hs _ (Nat.le_refl _))
  exact ⟨_, rfl, erep_kids k 0 _ 0 _ ks kv (by decide) K hn, u.1.put6 u.2.2.1 _ _ _ _ _ _, grown_put6 u.2.1 (Nat.le_refl _) _ _ _ _ _ _⟩

theorem wrap_deep (deep : Nat) (h : deep ≤ 40) : IntKind.i64.wrap ((deep : Int) + 1) = (deep : Int) + 1 := by rw [IntKind.wrap_i64]; omega
def pairs (ss : List Nat) (V : Nat → Value) : List (Nat × Value) := ss.zipIdx.map fun p => (p.1, V p.2)
/-- A region's slots, one by one. -/
theorem at_writeAll {ops : Array Oper} {V : Nat → Value} {t : Array Value} {Q : Exit → Act → World → Prop} {d : List Deferred} {w : World} (l : List (Nat × Value)) (e : ∀ t, writeAll ops V t = l.foldl (fun t p => t.setIfInBounds p.1 p.2) t) (h : Q .normal ⟨l.foldl (fun t p => t.setIfInBounds p.1 p.2) t, d⟩ w) : Q .normal ⟨writeAll ops V t, d⟩ w := by
  rw [e]; exact h
def pickV (br F deep : Nat) (T : Tok) (q : Nat) : Nat → Value
  | 0 => .pointer (some ⟨br, 0, none⟩)
  | 1 => .int .i64 (deep : Int)
  | 2 => .int .i64 ((deep : Int) + 1)
  | 3 => .slice (some ⟨q, 0, none⟩) 3 3
  | 4 => .pointer (some ⟨F, 3, none⟩)
  | 5 => .int .i64 (T.at_ : Int)
  | 6 => .agg #[.int .i64 5, .int .i64 0, .string ⟨#[]⟩, .int .u64 0, .slice (some ⟨q, 0, none⟩) 3 3, .int .i64 (T.at_ : Int)]
  | _ => undef
def pickInv (B br n : Nat) (w0 : World) (T : Tok) (r1 r4 : Rd) (ks : List Tree) (L : Nat → Bool) (q : Nat) (w : World) : Prop :=
  (L 3 = false → UnAt B br w0 T r1 w) ∧ (L 3 = true → L 7 = false → UnAt B br w0 T r4 w ∧ KidsAt w0 w n (.slice (some ⟨q, 0, none⟩) 3 3) ks) ∧
  (L 7 = true → ∃ w5, UnAt B br w0 T r4 w5 ∧ KidsAt w0 w5 n (.slice (some ⟨q, 0, none⟩) 3 3) ks ∧ w = put6 w5 w0.heap.size (.int .i64 5) (.int .i64 0) (.string ⟨#[]⟩) (.int .u64 0) (.slice (some ⟨q, 0, none⟩) 3 3) (.int .i64 (T.at_ : Int)))

set_option maxHeartbeats 4000000 in
set_option maxRecDepth 100000 in
/-- unary, of a pick -/
theorem un_pick {f : Nat} (ih : RExC f) (B br deep : Nat) (r : Rd) (w : World) (h : RdAt B br r w) (hb : beginsB r.here = true) (hd : deep + 1 + f = 41) (h2 : r.here.text = kPick) :
    Calls Tryz.prog 142 #[.pointer (some ⟨br, 0, none⟩), .int .i64 (deep : Int)] w (Mde B br w r (⟨5, 0, ⟨#[]⟩, 0, (threeOf (exprP f) (deep + 1) r.next).1, r.here.at_⟩, (threeOf (exprP f) (deep + 1) r.next).2)) := by
  obtain ⟨hW, hG, hz, hf⟩ := un_start h
  have hl := (to_next r).2.1 h.2.1
  have hh := here_any B br r _ (h.alloc zeroE)
  have hbg := begins_any r.here (unW w r.here)
  rw [hb] at hbg
  have HU := fun w1 hb => Lib.hid (un_next hW hG hz hf (w1 := w1) hb)
  have F := fun w' h' => rnext_any B br r w' h'
  have lN := (to_three (to_expr f) (deep + 1) r.next).2.1 h.2.1.next
  obtain ⟨ks, r4, e4⟩ : ∃ t x, threeOf (exprP f) (deep + 1) r.next = (t, x) := ⟨_, _, rfl⟩
  have X : ∀ w', RdAt B br r.next w' → Calls Tryz.prog 155 #[.pointer (some ⟨br, 0, none⟩), .int .i64 ((deep : Int) + 1)] w' fun e w2 => ∃ g, e = .returned (.slice (some ⟨g, 0, none⟩) 3 3) ∧
      Kids w'.heap.size w2.heap.size w2 (fun v t => ERep w'.heap.size w2.heap.size w2 (gap r.next r4) v t) (.slice (some ⟨g, 0, none⟩) 3 3) ks ∧ RdAt B br r4 w2 ∧ w'.grownBy w2 (some br) := fun w' h' => by
    have := three_of ih B br (deep + 1) r.next w' h' (by omega)
    rw [e4] at this
    exact this
  rw [e4] at lN ⊢
  have ln : r.next.ts.length + 1 = r.ts.length := (is_next h.2.1 (s := kPick) (by decide) (by unfold Rd.is; rw [h2]; exact beq_self_eq_true _)).2
  have HL : Hid (r4.ts.length ≤ r.next.ts.length ∧ r.next.ts.length + 1 = r.ts.length) := ⟨lN, ln⟩
  have x1 : ((bstr r.here.text).toList == [126]) = false := ne_text (by rw [h2]; decide)
  have x2 : ((bstr r.here.text).toList == [112, 105, 99, 107]) = true := eq_text h2
  have hdd : deep ≤ 40 := by omega
  clear hW hG hz hf hl h hb h2 e4 lN ln
  generalize r.here = T at *
  go_enter Tryz.func142, Tryz.ntmps142
  go_wp2_with (first
    | (go_at_call 95; refine (F _ u1.out.1).mono ?_; rintro e w2 ⟨rfl, h2, g2⟩; have u2 := Lib.hid (u1.out.on h2 g2); obtain ⟨t0, t1, t2, t3⟩ := four_tok u2.out.2.2.2; have hz2 := heap_lt u2.out.2.2.1; have hz3 := heap_lt u2.out.2.2.2)
    | (go_at_call 154; refine hbg.mono ?_; rintro e w1 ⟨rfl, hb1⟩; have u1 := HU _ hb1)
    | (go_at_call 45; refine hh.mono ?_; rintro e w' ⟨rfl, rfl⟩))
  have u2d : UnAt B br w T r.next w2.drew := u2.out.on h2.drew (grown_drew (grownBy_refl _ _))
  have hgap : gap r.next r4 + 1 ≤ gap r r4 := by obtain ⟨a, b⟩ := HL.out; unfold gap; omega
  refine wp_region_slots (by kernel_rfl) (by kernel_rfl) (by kernel_rfl) (by kernel_rfl) (pickV br (w.heap.size + 2) deep T) (pickInv B br (gap r.next r4) w T r.next r4 ks) 0 ⟨fun _ => u2d, (fun e => by cases e), (fun e => by cases e)⟩ ?_ ?_
  · intro L q a wr i op hop hLi hpre hC hI hS K hK
    have s0 : a.tmps[0]?.getD undef = .pointer (some ⟨br, 0, none⟩) := (hS.old2 0 (by kernel_rfl)).trans rfl
    have s1 : a.tmps[1]?.getD undef = .int .i64 (deep : Int) := (hS.old2 1 (by kernel_rfl)).trans rfl
    have s4 : a.tmps[4]?.getD undef = .pointer (some ⟨w.heap.size, 0, none⟩) := (hS.old2 4 (by kernel_rfl)).trans rfl
    have s5 : a.tmps[5]?.getD undef = .pointer (some ⟨w.heap.size + 2, 0, none⟩) := (hS.old2 5 (by kernel_rfl)).trans rfl
    have keep : ∀ (g' : Nat), g' = q → ∀ j, j ≠ i → L j = true → pickV br (w.heap.size + 2) deep T g' j = pickV br (w.heap.size + 2) deep T q j := fun g' e _ _ _ => by rw [e]
    have same : ∀ g', pickInv B br (gap r.next r4) w T r.next r4 ks L g' wr → i ≠ 3 → i ≠ 7 → pickInv B br (gap r.next r4) w T r.next r4 ks (fun j => if j = i then true else L j) g' wr := fun g' h h3 h7 => by
      unfold pickInv at h ⊢
      simp only [show ¬ (3 = i) from fun e => h3 e.symm, show ¬ (7 = i) from fun e => h7 e.symm, if_false]
      exact h
    match i with
    | 0 =>
      simp only [List.getElem?_toArray, List.getElem?_cons_zero, List.getElem?_cons_succ, Option.some.injEq] at hop
      subst hop
      go_simp
      exact hK _ _ ⟨q, fun _ => rfl, keep q rfl, same q hI (by decide) (by decide)⟩
    | 1 =>
      simp only [List.getElem?_toArray, List.getElem?_cons_zero, List.getElem?_cons_succ, Option.some.injEq] at hop
      subst hop
      go_simp
      exact hK _ _ ⟨q, fun _ => rfl, keep q rfl, same q hI (by decide) (by decide)⟩
    | 2 =>
      simp only [List.getElem?_toArray, List.getElem?_cons_zero, List.getElem?_cons_succ, Option.some.injEq] at hop
      subst hop
      have n1 := hS.new2 1 39 (by kernel_rfl) (pre_at hpre 1 (by kernel_rfl)) (show 39 < 66 by decide)
      simp only [pickV] at n1
      go_simp
      exact hK _ _ ⟨q, fun _ => by rw [wrap_deep deep hdd]; rfl, keep q rfl, same q hI (by decide) (by decide)⟩
    | 3 =>
      simp only [List.getElem?_toArray, List.getElem?_cons_zero, List.getElem?_cons_succ, Option.some.injEq] at hop
      subst hop
      have n0 := hS.new2 0 38 (by kernel_rfl) (pre_at hpre 0 (by kernel_rfl)) (show 38 < 66 by decide)
      have n2 := hS.new2 2 40 (by kernel_rfl) (pre_at hpre 2 (by kernel_rfl)) (show 40 < 66 by decide)
      simp only [pickV] at n0 n2
      have no6 : L 6 = false := by cases h : L 6 with | false => rfl | true => exact absurd (hC.at 6 3 (by kernel_rfl) h) (by simp [hLi])
      have no7 : L 7 = false := by cases h : L 7 with | false => rfl | true => exact absurd (hC.at 7 6 (by kernel_rfl) h) (by simp [no6])
      have u := hI.1 hLi
      go_simp
      go_at_call 155
      refine (X wr u.1).mono ?_
      rintro e w3 ⟨q3, rfl, K3, h3, g3⟩
      go_simp
      have hs := u.2.1.size
      have hlt := heap_lt u.2.2.2
      refine hK _ _ ⟨q3, fun _ => rfl, fun j hj hLj => ?_, (fun e => by cases e), (fun _ _ => ⟨u.on h3 g3, K3.carry (by omega) (Nat.le_refl _) (fun _ _ _ _ _ h => h) fun _ _ hE => hE.carry (by omega) (Nat.le_refl _) (fun _ _ _ _ _ h => h)⟩), (fun e => by simp only [show ¬ (7 = 3) by decide, if_false, no7] at e; cases e)⟩
      unfold pickV
      split <;> first | rfl | exact absurd rfl hj | (rw [no6] at hLj; cases hLj)
    | 4 =>
      simp only [List.getElem?_toArray, List.getElem?_cons_zero, List.getElem?_cons_succ, Option.some.injEq] at hop
      subst hop
      go_simp
      exact hK _ _ ⟨q, fun _ => rfl, keep q rfl, same q hI (by decide) (by decide)⟩
    | 5 =>
      simp only [List.getElem?_toArray, List.getElem?_cons_zero, List.getElem?_cons_succ, Option.some.injEq] at hop
      subst hop
      have n4 := hS.new2 4 42 (by kernel_rfl) (pre_at hpre 4 (by kernel_rfl)) (show 42 < 66 by decide)
      simp only [pickV] at n4
      have no7 : L 7 = false := by cases h : L 7 with | false => rfl | true => exact absurd (hC.at 6 5 (by kernel_rfl) (hC.at 7 6 (by kernel_rfl) h)) (by simp [hLi])
      have hT : wr.heap[w.heap.size + 2]? = some (tokO T) := by
        cases h3 : L 3 with
        | false => exact (hI.1 h3).2.2.2
        | true => exact (hI.2.1 h3 no7).1.2.2.2
      obtain ⟨c0, c1, c2, c3⟩ := four_tok hT
      go_simp
      exact hK _ _ ⟨q, fun _ => rfl, keep q rfl, same q hI (by decide) (by decide)⟩
    | 6 =>
      simp only [List.getElem?_toArray, List.getElem?_cons_zero, List.getElem?_cons_succ, Option.some.injEq] at hop
      subst hop
      have n3 := hS.new2 3 41 (by kernel_rfl) (pre_at hpre 3 (by kernel_rfl)) (show 41 < 66 by decide)
      have n5 := hS.new2 5 43 (by kernel_rfl) (pre_at hpre 5 (by kernel_rfl)) (show 43 < 66 by decide)
      simp only [pickV] at n3 n5
      go_simp
      exact hK _ _ ⟨q, fun _ => rfl, keep q rfl, same q hI (by decide) (by decide)⟩
    | 7 =>
      simp only [List.getElem?_toArray, List.getElem?_cons_zero, List.getElem?_cons_succ, Option.some.injEq] at hop
      subst hop
      have l6 := pre_at hpre 6 (by kernel_rfl)
      have n6 := hS.new2 6 44 (by kernel_rfl) l6 (show 44 < 66 by decide)
      simp only [pickV] at n6
      have l3 : L 3 = true := hC.at 6 3 (by kernel_rfl) l6
      obtain ⟨u, kk⟩ := hI.2.1 l3 hLi
      have z := u.2.2.1
      obtain ⟨d0, d1, d2, d3, d4, d5⟩ := box_free z
      obtain ⟨x0, x1, x2, x3, x4, x5⟩ := box_cells z
      have hz := heap_lt z
      go_simp
      refine hK undef _ ⟨q, fun e => absurd rfl e, keep q rfl, (fun e => by simp only [show ¬ (3 = 7) by decide, if_false, l3] at e; cases e), (fun _ e => by cases e), (fun _ => ⟨wr, u, kk, rfl⟩)⟩
    | k + 8 => simp at hop
  · intro L q wr hL hI
    obtain ⟨w5, u, kk, rfl⟩ := hI.2.2 (hL 7 (by decide))
    have hP := put6_heap u.2.2.1 (.int .i64 5) (.int .i64 0) (.string ⟨#[]⟩) (.int .u64 0) (.slice (some ⟨q, 0, none⟩) 3 3) (.int .i64 (T.at_ : Int))
    obtain ⟨q0, q1, q2, q3, q4, q5⟩ := box_cells hP
    refine at_writeAll (pairs [38, 39, 40, 41, 42, 43, 44] (pickV br (w.heap.size + 2) deep T q)) (fun t => by kernel_rfl) ?_
    simp only [pairs, List.zipIdx, List.map, List.foldl, pickV]
    go_wp2
    exact bodyPost_ret (v := .agg #[.int .i64 5, .int .i64 0, .string ⟨#[]⟩, .int .u64 0, .slice (some ⟨q, 0, none⟩) 3 3, .int .i64 (T.at_ : Int)]) (by simp [results, Tryz.results142, go_sem, q0, q1, q2, q3, q4, q5]) rfl (un_kids u kk hgap)

structure NG where
  v : Value
  q : Nat
def notV (br F deep : Nat) (T : Tok) (g : NG) : Nat → Value
  | 0 => .pointer (some ⟨br, 0, none⟩)
  | 1 => .int .i64 (deep : Int)
  | 2 => .int .i64 ((deep : Int) + 1)
  | 3 => g.v
  | 4 => .slice (some ⟨g.q, 0, none⟩) 1 1
  | 5 => .pointer (some ⟨F, 3, none⟩)
  | 6 => .int .i64 (T.at_ : Int)
  | 7 => .agg #[.int .i64 4, .int .i64 0, .string ⟨#[]⟩, .int .u64 0, .slice (some ⟨g.q, 0, none⟩) 1 1, .int .i64 (T.at_ : Int)]
  | _ => undef
def notInv (B br n : Nat) (w0 : World) (T : Tok) (r1 r4 : Rd) (t4 : Tree) (L : Nat → Bool) (g : NG) (w : World) : Prop :=
  (L 3 = false → UnAt B br w0 T r1 w) ∧ (L 3 = true → L 4 = false → UnAt B br w0 T r4 w ∧ ERep (w0.heap.size + 1) w.heap.size w n g.v t4) ∧
  (L 4 = true → L 8 = false → UnAt B br w0 T r4 w ∧ KidsAt w0 w n (.slice (some ⟨g.q, 0, none⟩) 1 1) [t4]) ∧
  (L 8 = true → ∃ w5, UnAt B br w0 T r4 w5 ∧ KidsAt w0 w5 n (.slice (some ⟨g.q, 0, none⟩) 1 1) [t4] ∧ w = put6 w5 w0.heap.size (.int .i64 4) (.int .i64 0) (.string ⟨#[]⟩) (.int .u64 0) (.slice (some ⟨g.q, 0, none⟩) 1 1) (.int .i64 (T.at_ : Int)))

set_option maxHeartbeats 4000000 in
set_option maxRecDepth 100000 in
/-- unary, behind '~' -/
theorem un_not {f : Nat} (ih : RUnC f) (B br deep : Nat) (r : Rd) (w : World) (h : RdAt B br r w) (hb : beginsB r.here = true) (hd : deep + 1 + f = 41) (h2 : r.here.text = [126]) :
    Calls Tryz.prog 142 #[.pointer (some ⟨br, 0, none⟩), .int .i64 (deep : Int)] w (Mde B br w r (⟨4, 0, ⟨#[]⟩, 0, [(unaryP f (deep + 1) r.next).1], r.here.at_⟩, (unaryP f (deep + 1) r.next).2)) := by
  obtain ⟨hW, hG, hz, hf⟩ := un_start h
  have hl := (to_next r).2.1 h.2.1
  have hh := here_any B br r _ (h.alloc zeroE)
  have hbg := begins_any r.here (unW w r.here)
  rw [hb] at hbg
  have HU := fun w1 hb => Lib.hid (un_next hW hG hz hf (w1 := w1) hb)
  have F := fun w' h' => rnext_any B br r w' h'
  have lN := ((to_pair f).2 (deep + 1) r.next).2.1 h.2.1.next
  obtain ⟨t4, r4, e4⟩ : ∃ t x, unaryP f (deep + 1) r.next = (t, x) := ⟨_, _, rfl⟩
  have X : ∀ w', RdAt B br r.next w' → Calls Tryz.prog 142 #[.pointer (some ⟨br, 0, none⟩), .int .i64 ((deep : Int) + 1)] w' (Mde B br w' r.next (t4, r4)) := fun w' h' => by
    have := ih B br (deep + 1) r.next w' h' (by omega)
    rw [e4] at this
    exact this
  rw [e4] at lN ⊢
  have ln : r.next.ts.length + 1 = r.ts.length := (is_next h.2.1 (s := [126]) (by decide) (by unfold Rd.is; rw [h2]; exact beq_self_eq_true _)).2
  have HL : Hid (r4.ts.length ≤ r.next.ts.length ∧ r.next.ts.length + 1 = r.ts.length) := ⟨lN, ln⟩
  have x1 : ((bstr r.here.text).toList == [126]) = true := eq_text h2
  have hdd : deep ≤ 40 := by omega
  clear hW hG hz hf hl h hb h2 e4 lN ln
  generalize r.here = T at *
  go_enter Tryz.func142, Tryz.ntmps142
  go_wp2_with (first
    | (go_at_call 95; refine (F _ u1.out.1).mono ?_; rintro e w2 ⟨rfl, h2, g2⟩; have u2 := Lib.hid (u1.out.on h2 g2); obtain ⟨t0, t1, t2, t3⟩ := four_tok u2.out.2.2.2; have hz2 := heap_lt u2.out.2.2.1; have hz3 := heap_lt u2.out.2.2.2)
    | (go_at_call 154; refine hbg.mono ?_; rintro e w1 ⟨rfl, hb1⟩; have u1 := HU _ hb1)
    | (go_at_call 45; refine hh.mono ?_; rintro e w' ⟨rfl, rfl⟩))
  have u2d : UnAt B br w T r.next w2.drew := u2.out.on h2.drew (grown_drew (grownBy_refl _ _))
  have hgap : gap r.next r4 + 1 ≤ gap r r4 := by obtain ⟨a, b⟩ := HL.out; unfold gap; omega
  refine wp_region_slots (by kernel_rfl) (by kernel_rfl) (by kernel_rfl) (by kernel_rfl) (notV br (w.heap.size + 2) deep T) (notInv B br (gap r.next r4) w T r.next r4 t4) ⟨undef, 0⟩ ⟨fun _ => u2d, (fun e => by cases e), (fun e => by cases e), (fun e => by cases e)⟩ ?_ ?_
  · intro L g a wr i op hop hLi hpre hC hI hS K hK
    have s0 : a.tmps[0]?.getD undef = .pointer (some ⟨br, 0, none⟩) := (hS.old2 0 (by kernel_rfl)).trans rfl
    have s1 : a.tmps[1]?.getD undef = .int .i64 (deep : Int) := (hS.old2 1 (by kernel_rfl)).trans rfl
    have s4 : a.tmps[4]?.getD undef = .pointer (some ⟨w.heap.size, 0, none⟩) := (hS.old2 4 (by kernel_rfl)).trans rfl
    have s5 : a.tmps[5]?.getD undef = .pointer (some ⟨w.heap.size + 2, 0, none⟩) := (hS.old2 5 (by kernel_rfl)).trans rfl
    have keep : ∀ (g' : NG), g' = g → ∀ j, j ≠ i → L j = true → notV br (w.heap.size + 2) deep T g' j = notV br (w.heap.size + 2) deep T g j := fun g' e _ _ _ => by rw [e]
    have same : ∀ g', notInv B br (gap r.next r4) w T r.next r4 t4 L g' wr → i ≠ 3 → i ≠ 4 → i ≠ 8 → notInv B br (gap r.next r4) w T r.next r4 t4 (fun j => if j = i then true else L j) g' wr := fun g' h h3 h4 h8 => by
      unfold notInv at h ⊢
      simp only [show ¬ (3 = i) from fun e => h3 e.symm, show ¬ (4 = i) from fun e => h4 e.symm, show ¬ (8 = i) from fun e => h8 e.symm, if_false]
      exact h
    match i with
    | 0 =>
      simp only [List.getElem?_toArray, List.getElem?_cons_zero, List.getElem?_cons_succ, Option.some.injEq] at hop
      subst hop
      go_simp
      exact hK _ _ ⟨g, fun _ => rfl, keep g rfl, same g hI (by decide) (by decide) (by decide)⟩
    | 1 =>
      simp only [List.getElem?_toArray, List.getElem?_cons_zero, List.getElem?_cons_succ, Option.some.injEq] at hop
      subst hop
      go_simp
      exact hK _ _ ⟨g, fun _ => rfl, keep g rfl, same g hI (by decide) (by decide) (by decide)⟩
    | 2 =>
      simp only [List.getElem?_toArray, List.getElem?_cons_zero, List.getElem?_cons_succ, Option.some.injEq] at hop
      subst hop
      have n1 := hS.new2 1 29 (by kernel_rfl) (pre_at hpre 1 (by kernel_rfl)) (show 29 < 66 by decide)
      simp only [notV] at n1
      go_simp
      exact hK _ _ ⟨g, fun _ => by rw [wrap_deep deep hdd]; rfl, keep g rfl, same g hI (by decide) (by decide) (by decide)⟩
    | 3 =>
      simp only [List.getElem?_toArray, List.getElem?_cons_zero, List.getElem?_cons_succ, Option.some.injEq] at hop
      subst hop
      have n0 := hS.new2 0 28 (by kernel_rfl) (pre_at hpre 0 (by kernel_rfl)) (show 28 < 66 by decide)
      have n2 := hS.new2 2 30 (by kernel_rfl) (pre_at hpre 2 (by kernel_rfl)) (show 30 < 66 by decide)
      simp only [notV] at n0 n2
      have no4 : L 4 = false := by cases h : L 4 with | false => rfl | true => exact absurd (hC.at 4 3 (by kernel_rfl) h) (by simp [hLi])
      have no7 : L 7 = false := by cases h : L 7 with | false => rfl | true => exact absurd (hC.at 7 4 (by kernel_rfl) h) (by simp [no4])
      have no8 : L 8 = false := by cases h : L 8 with | false => rfl | true => exact absurd (hC.at 8 7 (by kernel_rfl) h) (by simp [no7])
      have u := hI.1 hLi
      go_simp
      go_at_call 142
      refine (X wr u.1).mono ?_
      rintro e w3 ⟨v3, rfl, E3, h3, g3⟩
      go_simp
      have hs := u.2.1.size
      have hlt := heap_lt u.2.2.2
      refine hK _ _ ⟨{ g with v := v3 }, fun _ => rfl, fun j hj hLj => ?_, (fun e => by cases e), (fun _ _ => ⟨u.on h3 g3, E3.carry (by omega) (Nat.le_refl _) (fun _ _ _ _ _ h => h)⟩), (fun e => by simp only [show ¬ (4 = 3) by decide, if_false, no4] at e; cases e), (fun e => by simp only [show ¬ (8 = 3) by decide, if_false, no8] at e; cases e)⟩
      unfold notV
      split <;> first | rfl | exact absurd rfl hj
    | 4 =>
      simp only [List.getElem?_toArray, List.getElem?_cons_zero, List.getElem?_cons_succ, Option.some.injEq] at hop
      subst hop
      have l3 := pre_at hpre 3 (by kernel_rfl)
      have n3 := hS.new2 3 31 (by kernel_rfl) l3 (show 31 < 66 by decide)
      simp only [notV] at n3
      have no7 : L 7 = false := by cases h : L 7 with | false => rfl | true => exact absurd (hC.at 7 4 (by kernel_rfl) h) (by simp [hLi])
      have no8 : L 8 = false := by cases h : L 8 with | false => rfl | true => exact absurd (hC.at 8 7 (by kernel_rfl) h) (by simp [no7])
      obtain ⟨u, E⟩ := hI.2.1 l3 hLi
      obtain ⟨ao, kl, cap, hv⟩ := erep_agg E
      rw [hv] at n3 E
      go_simp
      have hs := u.2.1.size
      have hlt := heap_lt u.2.2.2
      refine hK _ _ ⟨{ g with q := wr.heap.size }, fun _ => rfl, fun j hj hLj => ?_, (fun e => by simp only [show ¬ (3 = 4) by decide, if_false, l3] at e; cases e), (fun _ e => by cases e), (fun _ _ => ⟨u.on (u.1.alloc _) (World.grownBy_alloc _ _ _), kids1 (heap_alloc_new wr _) (show w.heap.size + 1 ≤ wr.heap.size by omega) (show wr.heap.size < _ by rw [alloc_size]; omega) (carry_alloc E _ (Nat.le_refl _) (Nat.le_refl _))⟩), (fun e => by simp only [show ¬ (8 = 4) by decide, if_false, no8] at e; cases e)⟩
      unfold notV
      split <;> first | rfl | exact absurd rfl hj | (rw [no7] at hLj; cases hLj)
    | 5 =>
      simp only [List.getElem?_toArray, List.getElem?_cons_zero, List.getElem?_cons_succ, Option.some.injEq] at hop
      subst hop
      go_simp
      exact hK _ _ ⟨g, fun _ => rfl, keep g rfl, same g hI (by decide) (by decide) (by decide)⟩
    | 6 =>
      simp only [List.getElem?_toArray, List.getElem?_cons_zero, List.getElem?_cons_succ, Option.some.injEq] at hop
      subst hop
      have n5 := hS.new2 5 33 (by kernel_rfl) (pre_at hpre 5 (by kernel_rfl)) (show 33 < 66 by decide)
      simp only [notV] at n5
      have no8 : L 8 = false := by cases h : L 8 with | false => rfl | true => exact absurd (hC.at 7 6 (by kernel_rfl) (hC.at 8 7 (by kernel_rfl) h)) (by simp [hLi])
      have hT : wr.heap[w.heap.size + 2]? = some (tokO T) := by
        cases h3 : L 3 with
        | false => exact (hI.1 h3).2.2.2
        | true =>
          cases h4 : L 4 with
          | false => exact (hI.2.1 h3 h4).1.2.2.2
          | true => exact (hI.2.2.1 h4 no8).1.2.2.2
      obtain ⟨c0, c1, c2, c3⟩ := four_tok hT
      go_simp
      exact hK _ _ ⟨g, fun _ => rfl, keep g rfl, same g hI (by decide) (by decide) (by decide)⟩
    | 7 =>
      simp only [List.getElem?_toArray, List.getElem?_cons_zero, List.getElem?_cons_succ, Option.some.injEq] at hop
      subst hop
      have n4 := hS.new2 4 32 (by kernel_rfl) (pre_at hpre 4 (by kernel_rfl)) (show 32 < 66 by decide)
      have n6 := hS.new2 6 34 (by kernel_rfl) (pre_at hpre 6 (by kernel_rfl)) (show 34 < 66 by decide)
      simp only [notV] at n4 n6
      go_simp
      exact hK _ _ ⟨g, fun _ => rfl, keep g rfl, same g hI (by decide) (by decide) (by decide)⟩
    | 8 =>
      simp only [List.getElem?_toArray, List.getElem?_cons_zero, List.getElem?_cons_succ, Option.some.injEq] at hop
      subst hop
      have l7 := pre_at hpre 7 (by kernel_rfl)
      have n7 := hS.new2 7 35 (by kernel_rfl) l7 (show 35 < 66 by decide)
      simp only [notV] at n7
      have l4 : L 4 = true := hC.at 7 4 (by kernel_rfl) l7
      have l3 : L 3 = true := hC.at 4 3 (by kernel_rfl) l4
      obtain ⟨u, kk⟩ := hI.2.2.1 l4 hLi
      have z := u.2.2.1
      obtain ⟨d0, d1, d2, d3, d4, d5⟩ := box_free z
      obtain ⟨x0, x1, x2, x3, x4, x5⟩ := box_cells z
      have hz := heap_lt z
      go_simp
      refine hK undef _ ⟨g, fun e => absurd rfl e, keep g rfl, (fun e => by simp only [show ¬ (3 = 8) by decide, if_false, l3] at e; cases e), (fun _ e => by simp only [show ¬ (4 = 8) by decide, if_false, l4] at e; cases e), (fun _ e => by cases e), (fun _ => ⟨wr, u, kk, rfl⟩)⟩
    | k + 9 => simp at hop
  · intro L g wr hL hI
    obtain ⟨w5, u, kk, rfl⟩ := hI.2.2.2 (hL 8 (by decide))
    have hP := put6_heap u.2.2.1 (.int .i64 4) (.int .i64 0) (.string ⟨#[]⟩) (.int .u64 0) (.slice (some ⟨g.q, 0, none⟩) 1 1) (.int .i64 (T.at_ : Int))
    obtain ⟨q0, q1, q2, q3, q4, q5⟩ := box_cells hP
    refine at_writeAll (pairs [28, 29, 30, 31, 32, 33, 34, 35] (notV br (w.heap.size + 2) deep T g)) (fun t => by kernel_rfl) ?_
    simp only [pairs, List.zipIdx, List.map, List.foldl, notV]
    go_wp2
    exact bodyPost_ret (v := .agg #[.int .i64 4, .int .i64 0, .string ⟨#[]⟩, .int .u64 0, .slice (some ⟨g.q, 0, none⟩) 1 1, .int .i64 (T.at_ : Int)]) (by simp [results, Tryz.results142, go_sem, q0, q1, q2, q3, q4, q5]) rfl (un_kids u kk hgap)

/-- unary, all of it. -/
theorem un_step {f : Nat} (ihE : RExC f) (ihU : RUnC f) : RUnC (f + 1) := by
  intro B br deep r w h hd
  rw [unaryP_succ]
  cases hb : beginsB r.here with
  | false =>
    have e : unaryOf (exprP f) (unaryP f) deep r = (tree0, r.fail 2) := by unfold unaryOf; rw [if_pos hb]
    rw [e]; exact un_no B br deep r w h hb
  | true =>
    have hd' : deep + 1 + f = 41 := by omega
    by_cases h1 : r.here.text = [126]
    · have e : unaryOf (exprP f) (unaryP f) deep r = (⟨4, 0, ⟨#[]⟩, 0, [(unaryP f (deep + 1) r.next).1], r.here.at_⟩, (unaryP f (deep + 1) r.next).2) := by unfold unaryOf; rw [if_neg (by rw [hb]; decide), if_neg (by omega), if_pos h1]
      rw [e]; exact un_not ihU B br deep r w h hb hd' h1
    by_cases h2 : r.here.text = kPick
    · have e : unaryOf (exprP f) (unaryP f) deep r = (⟨5, 0, ⟨#[]⟩, 0, (threeOf (exprP f) (deep + 1) r.next).1, r.here.at_⟩, (threeOf (exprP f) (deep + 1) r.next).2) := by unfold unaryOf; rw [if_neg (by rw [hb]; decide), if_neg (by omega), if_neg h1, if_pos h2]
      rw [e]; exact un_pick ihE B br deep r w h hb hd' h2
    by_cases h3 : r.here.text = [40]
    · have e : unaryOf (exprP f) (unaryP f) deep r = ((exprP f 0 (deep + 1) r.next).1, (exprP f 0 (deep + 1) r.next).2.want [41]) := by unfold unaryOf; rw [if_neg (by rw [hb]; decide), if_neg (by omega), if_neg h1, if_neg h2, if_pos h3]
      rw [e]; exact un_open ihE B br deep r w h hb hd' h3
    by_cases hk : r.here.kind = 3
    · have e : unaryOf (exprP f) (unaryP f) deep r = (⟨0, 0, ⟨#[]⟩, r.here.value, [], r.here.at_⟩, r.next) := by unfold unaryOf; rw [if_neg (by rw [hb]; decide), if_neg (by omega), if_neg h1, if_neg h2, if_neg h3, if_pos hk]
      rw [e]; exact un_digits B br deep r w h hb (by omega) h1 h2 h3 hk
    · have e : unaryOf (exprP f) (unaryP f) deep r = namedOf (exprP f) r.here deep r.next := by unfold unaryOf; rw [if_neg (by rw [hb]; decide), if_neg (by omega), if_neg h1, if_neg h2, if_neg h3, if_neg hk]
      rw [e]; exact un_name ihE B br deep r w h hb hd' h1 h2 h3 hk
theorem un_zero : RUnC 0 := by
  intro B br deep r w h hd
  show Calls Tryz.prog 142 _ w (Mde B br w r (failU r))
  unfold failU
  cases hb : beginsB r.here with
  | false => rw [if_pos rfl]; exact un_no B br deep r w h hb
  | true => rw [if_neg (by decide)]; exact un_deep B br deep r w h hb (by omega) (by omega)
end Go.Proofs.YtfginegegaokbaaGreatDoor.Pr
