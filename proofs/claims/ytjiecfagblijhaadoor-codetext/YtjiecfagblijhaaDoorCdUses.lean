/- What Uses and touched of package code answer. Conditions: none. -/
import Derived.Test.YtjiecfagblijhaaDoorCdRep
import Derived.Test.YtjiecfagblijhaaDoorRegMono
import Derived.Lib.AppendZeros
namespace Go.Proofs.YtjiecfagblijhaaDoor.Cd
open Go.ChangeShapes Go.WideShapes Go.ChangeAt Go.RowKit
set_option linter.unusedVariables false
set_option linter.unusedSimpArgs false

theorem code_cells {w : World} {b : Nat} {x0 x1 x2 x3 x4 x5 x6 x7 : Value} {fr : Nat × Nat} (h : w.heap[b]? = some (.cells #[x0, x1, x2, x3, x4, x5, x6, x7] 26 fr)) :
    w.cell? ⟨b, 0, none⟩ = some x0 ∧ w.cell? ⟨b, 1, none⟩ = some x1 ∧ w.cell? ⟨b, 2, none⟩ = some x2 ∧ w.cell? ⟨b, 3, none⟩ = some x3 ∧ w.cell? ⟨b, 4, none⟩ = some x4 ∧ w.cell? ⟨b, 5, none⟩ = some x5 ∧ w.cell? ⟨b, 6, none⟩ = some x6 ∧ w.cell? ⟨b, 7, none⟩ = some x7 := by
  refine ⟨?_, ?_, ?_, ?_, ?_, ?_, ?_, ?_⟩ <;> (rw [Lib.cell_of_heap h]; rfl)
theorem keepB {w w' : World} {b : Nat} {o : Obj} (hb : Below w.heap.size w w') (h : w.heap[b]? = some o) : w'.heap[b]? = some o := (hb.block b (heap_lt h)).trans h
theorem infoI : (Tryd.prog.info? 3).map (fun i => (i.zero, i.size, i.bytes)) = some (some (.int .i64 0), 1, 8) := by kernel_rfl
theorem infoInt : ∃ i, Tryd.prog.info? 3 = some i ∧ i.zero = some (.int .i64 0) ∧ i.size = 1 ∧ i.bytes = 8 := by
  obtain ⟨i, hi, h⟩ := Option.map_eq_some_iff.1 infoI
  simp only [Prod.mk.injEq] at h
  exact ⟨i, hi, h.1, h.2.1, h.2.2⟩
theorem Own.grown {W : World} {B : Nat} (zs : List Int) (hB : B ≤ W.heap.size) (cs : Array Value) (cap : Nat) (hs : cs.size = cap) (ht : cs.toList.take zs.length = zs.map (Value.int .i64)) (hc : cap ≤ maxLen) : Own (W.alloc (.cells cs 3)) B (.slice (some ⟨W.heap.size, 0, none⟩) zs.length cap) zs := by
  have hl := congrArg List.length ht
  simp only [List.length_take, List.length_map, Array.length_toList] at hl
  exact ⟨by simp, .inr ⟨W.heap.size, cap, cs, rfl, hB, by rw [alloc_at, if_pos rfl], by omega, hc, by omega, by rw [Nat.mul_one]; exact ht⟩⟩


theorem ev {a : Act} {s : Nat} {v : Value} (h : a.tmps[s]?.getD undef = v) : a.eval (.tmp s) = v := by
  simpa [Act.eval] using h
theorem nil_size (w : World) (fb : Int) : (([Value.int .i64 fb] : List Value).toArray ++ Builtin.zeroCells (Value.cells (.int .i64 0)) (grownCap w 1 0 3 - 1)).size = grownCap w 1 0 3 := by
  have := grownCap_ge w 1 0 3
  rw [Array.size_append, size_zeroCells]
  simp [Value.cells]; omega
theorem one_size (w : World) (fa fb : Int) : (([Value.int .i64 fa] : List Value).toArray ++ ([Value.int .i64 fb] : List Value).toArray ++ Builtin.zeroCells (Value.cells (.int .i64 0)) (grownCap w (1 + 1) 1 3 - (1 + 1))).size = grownCap w (1 + 1) 1 3 := by
  have : 2 ≤ grownCap w 2 1 3 := grownCap_ge w 2 1 3
  rw [Array.size_append, size_zeroCells]
  simp [Value.cells]; omega
set_option maxHeartbeats 4000000 in
set_option maxRecDepth 100000 in
theorem uses_write (fd fo fa fb fc fv ft : Int) (w : World) : Calls Tryd.prog 13 #[.agg #[.int .i64 5, .int .i64 fd, .int .i64 fo, .int .i64 fa, .int .i64 fb, .int .i64 fc, .int .u64 fv, .int .i64 ft]] w fun e w' => ∃ v, e = .returned v ∧ Own w' w.heap.size v (offP fa ++ [fb]) ∧ Below w.heap.size w w' := by
  have hb1 := fun o => (Below.refl w.heap.size w).alloc (Nat.le_refl _) o
  have PO0 := fun w1 => offset_any ⟨5, fd, fo, fa, fb, fc, fv, ft⟩ w1
  obtain ⟨i0, hi, hz0, hz1, hz2⟩ := infoInt
  have HB := Lib.hid (show (w.alloc (.cells #[.int .i64 5, .int .i64 fd, .int .i64 fo, .int .i64 fa, .int .i64 fb, .int .i64 fc, .int .u64 fv, .int .i64 ft] 26)).heap[w.heap.size]? = some (.cells #[.int .i64 5, .int .i64 fd, .int .i64 fo, .int .i64 fa, .int .i64 fb, .int .i64 fc, .int .u64 fv, .int .i64 ft] 26 (0, 0)) by rw [alloc_at, if_pos rfl])
  obtain ⟨W0, hW0⟩ : ∃ W0, W0 = w.heap.size := ⟨_, rfl⟩
  have hW1 : W0 ≤ (w.alloc (.cells #[.int .i64 5, .int .i64 fd, .int .i64 fo, .int .i64 fa, .int .i64 fb, .int .i64 fc, .int .u64 fv, .int .i64 ft] 26)).heap.size := by rw [hW0]; simp
  by_cases ha : fa < 0
  · have hO : offP fa ++ [fb] = [fb] := by simp [offP, ha]
    have PO : ∀ w1, Calls Tryd.prog 22 #[.agg #[.int .i64 5, .int .i64 fd, .int .i64 fo, .int .i64 fa, .int .i64 fb, .int .i64 fc, .int .u64 fv, .int .i64 ft]] w1 fun e w' => ∃ v, e = .returned v ∧ v = .slice none 0 0 ∧ Below w1.heap.size w1 w' := fun w1 => (PO0 w1).mono fun e w' ⟨v, h1, h2, h3⟩ => ⟨v, h1, h2.neg ha, h3⟩
    clear PO0 ha
    go_enter Tryd.func13, Tryd.ntmps13
    go_wp2
    refine wp_region_mono (by kernel_rfl) (by kernel_rfl) (by kernel_rfl) (by kernel_rfl) (by kernel_rfl) (fun (i : Nat) (v : Value) (wv : World) => match i with | 0 => v = .agg #[.int .i64 5, .int .i64 fd, .int .i64 fo, .int .i64 fa, .int .i64 fb, .int .i64 fc, .int .u64 fv, .int .i64 ft] | 1 => v = .slice none 0 0 | 2 => v = .pointer (some ⟨w.heap.size, 4, none⟩) | 3 => v = .int .i64 fb | 4 => OneAt wv fb v | 5 => Own wv W0 v (offP fa ++ [fb]) | 6 => Own wv W0 v (offP fa ++ [fb]) | _ => True) ?_ [] (by kernel_rfl) ?_ ?_ ?_
    · intro i v w w' hb h
      match i with
      | 0 => exact h
      | 1 => exact h
      | 2 => exact h
      | 3 => exact h
      | 4 => exact OneAt.on h hb
      | 5 => exact Own.on h hb
      | 6 => exact Own.on h hb
      | _ + 7 => trivial
    · intro p hp v w h
      cases hp
    · intro a wr i op hop hb hF hP K hK
      have s1 : a.tmps[1]?.getD undef = .pointer (some ⟨w.heap.size, 0, none⟩) := (hF 1 (by kernel_rfl)).trans rfl
      have hH := keepB hb HB.out
      obtain ⟨x0, x1, x2, x3, x4, x5, x6, x7⟩ := code_cells hH
      clear hH
      match i with
      | 0 =>
        simp only [List.getElem?_toArray, List.getElem?_cons_zero, List.getElem?_cons_succ, Option.some.injEq] at hop
        subst hop
        go_simp
        exact hK _ _ (Below.refl _ _) fun _ => by first | rfl | exact wrap_val (by omega)
      | 1 =>
        simp only [List.getElem?_toArray, List.getElem?_cons_zero, List.getElem?_cons_succ, Option.some.injEq] at hop
        subst hop
        have n0 : a.tmps[35]?.getD undef = .agg #[.int .i64 5, .int .i64 fd, .int .i64 fo, .int .i64 fa, .int .i64 fb, .int .i64 fc, .int .u64 fv, .int .i64 ft] := hP 0 35 (by kernel_rfl) (by kernel_rfl)
        go_simp
        go_at_call 22
        refine (PO wr).mono ?_
        rintro ed w5 ⟨v5, rfl, rfl, hb5⟩
        go_simp
        exact hK _ _ hb5 fun _ => rfl
      | 2 =>
        simp only [List.getElem?_toArray, List.getElem?_cons_zero, List.getElem?_cons_succ, Option.some.injEq] at hop
        subst hop
        go_simp
        exact hK _ _ (Below.refl _ _) fun _ => by first | rfl | exact wrap_val (by omega)
      | 3 =>
        simp only [List.getElem?_toArray, List.getElem?_cons_zero, List.getElem?_cons_succ, Option.some.injEq] at hop
        subst hop
        have n2 : a.tmps[37]?.getD undef = .pointer (some ⟨w.heap.size, 4, none⟩) := hP 2 37 (by kernel_rfl) (by kernel_rfl)
        go_simp
        exact hK _ _ (Below.refl _ _) fun _ => by first | rfl | exact wrap_val (by omega)
      | 4 =>
        simp only [List.getElem?_toArray, List.getElem?_cons_zero, List.getElem?_cons_succ, Option.some.injEq] at hop
        subst hop
        have n3 : a.tmps[38]?.getD undef = .int .i64 fb := hP 3 38 (by kernel_rfl) (by kernel_rfl)
        go_simp
        exact hK _ _ ((Below.refl _ _).alloc (Nat.le_refl _) _) fun _ => OneAt.new _ _
      | 5 =>
        simp only [List.getElem?_toArray, List.getElem?_cons_zero, List.getElem?_cons_succ, Option.some.injEq] at hop
        subst hop
        have n1 : a.tmps[36]?.getD undef = .slice none 0 0 := hP 1 36 (by kernel_rfl) (by kernel_rfl)
        obtain ⟨g4, n4, h4⟩ : OneAt wr fb (a.tmps[39]?.getD undef) := (hP 4 39 (by kernel_rfl) (by kernel_rfl))
        refine Lib.wp_append_run wr (.tmp 36) (.tmp 39) 34 34 rfl _ _ (ev n1) (ev n4) _ _ (run_append_nil (P := Tryd.prog) wr 34 34 3 i0 (.int .i64 0) Tryd.underlying34 hi hz0 ⟨g4, 0, none⟩ 1 1 [.int .i64 fb] (by rw [hz1]; rfl) (World.news_of_block h4) (by decide) (by decide) (by rw [hz2]; decide)) ?_
        refine hK _ _ ((Below.drew (Below.refl _ _)).alloc (Nat.le_refl _) _) fun _ => ?_
        rw [hO]
        exact Own.grown (W := wr.drew) (B := W0) [fb] (Nat.le_trans hW1 hb.size) _ _ (nil_size _ _) (by simp) (grownCap_le_maxLen _ _ _ _ (by decide))
      | 6 =>
        simp only [List.getElem?_toArray, List.getElem?_cons_zero, List.getElem?_cons_succ, Option.some.injEq] at hop
        subst hop
        have n5 : Own wr W0 (a.tmps[40]?.getD undef) (offP fa ++ [fb]) := (hP 5 40 (by kernel_rfl) (by kernel_rfl))
        go_simp
        exact hK _ _ (Below.refl _ _) fun _ => n5
      | _ + 7 => simp at hop
    · intro V wz hbz hR
      obtain ⟨u, e6, hE6⟩ : ∃ u, V 6 = u ∧ Own wz W0 u (offP fa ++ [fb]) := ⟨_, rfl, hR 6 (by kernel_rfl)⟩
      clear hR
      refine at_all (prs [35, 36, 37, 38, 39, 40, 2] V) (fun t => by kernel_rfl) ?_
      simp only [prs, List.zipIdx, List.map, List.foldl, Nat.zero_add, Nat.reduceAdd, List.setIfInBounds_toArray, List.set_cons_zero, List.set_cons_succ, e6]
      go_wp2
      go_ret
      exact ⟨_, rfl, by rw [← hW0]; exact hE6, (hb1 _).trans (hbz.mono (by simp))⟩
  · have hO : offP fa ++ [fb] = [fa, fb] := by simp [offP, ha]
    have PO : ∀ w1, Calls Tryd.prog 22 #[.agg #[.int .i64 5, .int .i64 fd, .int .i64 fo, .int .i64 fa, .int .i64 fb, .int .i64 fc, .int .u64 fv, .int .i64 ft]] w1 fun e w' => ∃ v, e = .returned v ∧ OneAt w' fa v ∧ Below w1.heap.size w1 w' := fun w1 => (PO0 w1).mono fun e w' ⟨v, h1, h2, h3⟩ => ⟨v, h1, h2.pos ha, h3⟩
    clear PO0 ha
    go_enter Tryd.func13, Tryd.ntmps13
    go_wp2
    refine wp_region_mono (by kernel_rfl) (by kernel_rfl) (by kernel_rfl) (by kernel_rfl) (by kernel_rfl) (fun (i : Nat) (v : Value) (wv : World) => match i with | 0 => v = .agg #[.int .i64 5, .int .i64 fd, .int .i64 fo, .int .i64 fa, .int .i64 fb, .int .i64 fc, .int .u64 fv, .int .i64 ft] | 1 => OneAt wv fa v | 2 => v = .pointer (some ⟨w.heap.size, 4, none⟩) | 3 => v = .int .i64 fb | 4 => OneAt wv fb v | 5 => Own wv W0 v (offP fa ++ [fb]) | 6 => Own wv W0 v (offP fa ++ [fb]) | _ => True) ?_ [] (by kernel_rfl) ?_ ?_ ?_
    · intro i v w w' hb h
      match i with
      | 0 => exact h
      | 1 => exact OneAt.on h hb
      | 2 => exact h
      | 3 => exact h
      | 4 => exact OneAt.on h hb
      | 5 => exact Own.on h hb
      | 6 => exact Own.on h hb
      | _ + 7 => trivial
    · intro p hp v w h
      cases hp
    · intro a wr i op hop hb hF hP K hK
      have s1 : a.tmps[1]?.getD undef = .pointer (some ⟨w.heap.size, 0, none⟩) := (hF 1 (by kernel_rfl)).trans rfl
      have hH := keepB hb HB.out
      obtain ⟨x0, x1, x2, x3, x4, x5, x6, x7⟩ := code_cells hH
      clear hH
      match i with
      | 0 =>
        simp only [List.getElem?_toArray, List.getElem?_cons_zero, List.getElem?_cons_succ, Option.some.injEq] at hop
        subst hop
        go_simp
        exact hK _ _ (Below.refl _ _) fun _ => by first | rfl | exact wrap_val (by omega)
      | 1 =>
        simp only [List.getElem?_toArray, List.getElem?_cons_zero, List.getElem?_cons_succ, Option.some.injEq] at hop
        subst hop
        have n0 : a.tmps[35]?.getD undef = .agg #[.int .i64 5, .int .i64 fd, .int .i64 fo, .int .i64 fa, .int .i64 fb, .int .i64 fc, .int .u64 fv, .int .i64 ft] := hP 0 35 (by kernel_rfl) (by kernel_rfl)
        go_simp
        go_at_call 22
        refine (PO wr).mono ?_
        rintro ed w5 ⟨v5, rfl, ho5, hb5⟩
        go_simp
        exact hK _ _ hb5 fun _ => ho5
      | 2 =>
        simp only [List.getElem?_toArray, List.getElem?_cons_zero, List.getElem?_cons_succ, Option.some.injEq] at hop
        subst hop
        go_simp
        exact hK _ _ (Below.refl _ _) fun _ => by first | rfl | exact wrap_val (by omega)
      | 3 =>
        simp only [List.getElem?_toArray, List.getElem?_cons_zero, List.getElem?_cons_succ, Option.some.injEq] at hop
        subst hop
        have n2 : a.tmps[37]?.getD undef = .pointer (some ⟨w.heap.size, 4, none⟩) := hP 2 37 (by kernel_rfl) (by kernel_rfl)
        go_simp
        exact hK _ _ (Below.refl _ _) fun _ => by first | rfl | exact wrap_val (by omega)
      | 4 =>
        simp only [List.getElem?_toArray, List.getElem?_cons_zero, List.getElem?_cons_succ, Option.some.injEq] at hop
        subst hop
        have n3 : a.tmps[38]?.getD undef = .int .i64 fb := hP 3 38 (by kernel_rfl) (by kernel_rfl)
        go_simp
        exact hK _ _ ((Below.refl _ _).alloc (Nat.le_refl _) _) fun _ => OneAt.new _ _
      | 5 =>
        simp only [List.getElem?_toArray, List.getElem?_cons_zero, List.getElem?_cons_succ, Option.some.injEq] at hop
        subst hop
        obtain ⟨g1, n1, h1⟩ : OneAt wr fa (a.tmps[36]?.getD undef) := (hP 1 36 (by kernel_rfl) (by kernel_rfl))
        obtain ⟨g4, n4, h4⟩ : OneAt wr fb (a.tmps[39]?.getD undef) := (hP 4 39 (by kernel_rfl) (by kernel_rfl))
        refine Lib.wp_append_run wr (.tmp 36) (.tmp 39) 34 34 rfl _ _ (ev n1) (ev n4) _ _ (run_append_grow (P := Tryd.prog) wr 34 34 3 i0 (.int .i64 0) Tryd.underlying34 hi hz0 ⟨g1, 0, none⟩ 1 1 [.int .i64 fa] (by rw [hz1]; rfl) (World.news_of_block h1) ⟨g4, 0, none⟩ 1 1 [.int .i64 fb] (by rw [hz1]; rfl) (World.news_of_block h4) (by decide) (by decide) (by rw [hz2]; decide)) ?_
        refine hK _ _ ((Below.drew (Below.refl _ _)).alloc (Nat.le_refl _) _) fun _ => ?_
        rw [hO]
        exact Own.grown (W := wr.drew) (B := W0) [fa, fb] (Nat.le_trans hW1 hb.size) _ _ (one_size _ _ _) (by simp) (grownCap_le_maxLen _ _ _ _ (by decide))
      | 6 =>
        simp only [List.getElem?_toArray, List.getElem?_cons_zero, List.getElem?_cons_succ, Option.some.injEq] at hop
        subst hop
        have n5 : Own wr W0 (a.tmps[40]?.getD undef) (offP fa ++ [fb]) := (hP 5 40 (by kernel_rfl) (by kernel_rfl))
        go_simp
        exact hK _ _ (Below.refl _ _) fun _ => n5
      | _ + 7 => simp at hop
    · intro V wz hbz hR
      obtain ⟨u, e6, hE6⟩ : ∃ u, V 6 = u ∧ Own wz W0 u (offP fa ++ [fb]) := ⟨_, rfl, hR 6 (by kernel_rfl)⟩
      clear hR
      refine at_all (prs [35, 36, 37, 38, 39, 40, 2] V) (fun t => by kernel_rfl) ?_
      simp only [prs, List.zipIdx, List.map, List.foldl, Nat.zero_add, Nat.reduceAdd, List.setIfInBounds_toArray, List.set_cons_zero, List.set_cons_succ, e6]
      go_wp2
      go_ret
      exact ⟨_, rfl, by rw [← hW0]; exact hE6, (hb1 _).trans (hbz.mono (by simp))⟩

set_option maxHeartbeats 4000000 in
set_option maxRecDepth 100000 in
theorem uses_any (x : Cd) (w : World) : Calls Tryd.prog 13 #[.agg #[.int .i64 x.op, .int .i64 x.dop, .int .i64 x.to, .int .i64 x.a, .int .i64 x.b, .int .i64 x.c, .int .u64 x.v, .int .i64 x.t]] w fun e w' => ∃ v, e = .returned v ∧ Own w' w.heap.size v (usesP x) ∧ Below w.heap.size w w' := by
  obtain ⟨op, dop, to, a, b, c, v, t⟩ := x
  have hb1 := fun o => (Below.refl w.heap.size w).alloc (Nat.le_refl _) o
  have hb2 := fun o o2 => (hb1 o).alloc (show w.heap.size ≤ (w.alloc o).heap.size by rw [alloc_size]; omega) o2
  rcases (show op = 1 ∨ op = 7 ∨ op = 10 ∨ op = 12 ∨ op = 2 ∨ op = 3 ∨ op = 4 ∨ op = 5 ∨ (op ≠ 1 ∧ op ≠ 7 ∧ op ≠ 10 ∧ op ≠ 12 ∧ op ≠ 2 ∧ op ≠ 3 ∧ op ≠ 4 ∧ op ≠ 5) by omega) with rfl | rfl | rfl | rfl | rfl | rfl | rfl | rfl | ⟨e0, e1, e2, e3, e4, e5, e6, e7⟩
  case inr.inr.inr.inr.inr.inr.inr.inr =>
    have hs : usesP ⟨op, dop, to, a, b, c, v, t⟩ = [] := by simp [usesP, *]
    rw [hs]
    go_enter Tryd.func13, Tryd.ntmps13
    go_wp2
    go_ret
    exact ⟨_, rfl, Own.nil _ _, hb1 _⟩
  case inr.inr.inr.inr.inr.inr.inl =>
    have hs : usesP ⟨4, dop, to, a, b, c, v, t⟩ = offP a := by simp [usesP, offP]
    rw [hs]
    have PO := fun w1 => offset_any ⟨4, dop, to, a, b, c, v, t⟩ w1
    go_enter Tryd.func13, Tryd.ntmps13
    go_wp2_with (go_at_call 22; refine (PO _).mono ?_; rintro ed w2 ⟨v2, rfl, ho, hb⟩)
    go_ret
    exact ⟨_, rfl, (OffAt.own ho).base (by simp), (hb1 _).trans (hb.mono (by simp))⟩
  case inr.inr.inr.inr.inr.inr.inr.inl =>
    have hs : usesP ⟨5, dop, to, a, b, c, v, t⟩ = offP a ++ [b] := by by_cases ha : a < 0 <;> simp [usesP, offP, ha]
    rw [hs]
    exact uses_write dop to a b c v t w
  all_goals
    go_enter Tryd.func13, Tryd.ntmps13
    go_wp2
    go_ret
    first
      | exact ⟨_, rfl, uses_new [a] (by simp), hb2 _ _⟩
      | exact ⟨_, rfl, uses_new [a, b] (by simp), hb2 _ _⟩
      | exact ⟨_, rfl, uses_new [a, b, c] (by simp), hb2 _ _⟩
end Go.Proofs.YtjiecfagblijhaaDoor.Cd
