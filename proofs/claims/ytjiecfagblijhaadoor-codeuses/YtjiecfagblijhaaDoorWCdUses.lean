/- The walk of CodeUses: it answers true. Conditions: the table of powers holds what its initialiser lays. -/
import Derived.Test.YtjiecfagblijhaaDoorCdAwake
import Derived.Test.YtjiecfagblijhaaDoorRegMono3
namespace Go.Proofs.YtjiecfagblijhaaDoor.Cd
open Go.ChangeShapes Go.WideShapes Go.ChangeAt Go.RowKit
set_option linter.unusedVariables false
set_option linter.unusedSimpArgs false

set_option maxHeartbeats 4000000 in
set_option maxRecDepth 100000 in
theorem uses_set (op fd fo fa fb fc fv ft : Int) (hD0 : setsB op = true) (e6 : ¬ op = 6) (f6 : (op != 6) = true) (g6 : (op == 6) = false) (e7 : ¬ op = 7) (g7 : (op == 7) = false) (e13 : ¬ op = 13) (f13 : (op != 13) = true) (w : World) (hV : Vars w.heap.size w) :
    Calls Tryd.prog 3 #[.agg #[.int .i64 op, .int .i64 fd, .int .i64 fo, .int .i64 fa, .int .i64 fb, .int .i64 fc, .int .u64 fv, .int .i64 ft]] w fun e w' => e = .returned (.bool true) ∧ Below w.heap.size w w' := by
  have hbx := (Below.refl w.heap.size w).alloc (Nat.le_refl _) (.cells #[.int .i64 op, .int .i64 fd, .int .i64 fo, .int .i64 fa, .int .i64 fb, .int .i64 fc, .int .u64 fv, .int .i64 ft] 26)
  have HB := Lib.hid (show (w.alloc (.cells #[.int .i64 op, .int .i64 fd, .int .i64 fo, .int .i64 fa, .int .i64 fb, .int .i64 fc, .int .u64 fv, .int .i64 ft] 26)).heap[w.heap.size]? = some (.cells #[.int .i64 op, .int .i64 fd, .int .i64 fo, .int .i64 fa, .int .i64 fb, .int .i64 fc, .int .u64 fv, .int .i64 ft] 26 (0, 0)) by rw [alloc_at, if_pos rfl])
  have PA := fun w1 (hb1 : Below w.heap.size w w1) => awake_any w1 ((hV.on hb1).mono hb1.size)
  have PS := fun w1 => sets_any ⟨op, fd, fo, fa, fb, fc, fv, ft⟩ w1
  have PD := fun w1 => defines_any ⟨op, fd, fo, fa, fb, fc, fv, ft⟩ w1
  have PJ := fun w1 => jumps_any ⟨op, fd, fo, fa, fb, fc, fv, ft⟩ w1
  have PU := fun w1 => uses_any ⟨op, fd, fo, fa, fb, fc, fv, ft⟩ w1
  have PL := fun w1 => luses_any ⟨op, fd, fo, fa, fb, fc, fv, ft⟩ w1
  obtain ⟨U, hU⟩ : ∃ U, U = usesP ⟨op, fd, fo, fa, fb, fc, fv, ft⟩ := ⟨_, rfl⟩
  rw [← hU] at PU PL
  clear hU
  have hD : setsB op = true := by exact hD0
  have hJ : jumpsB op = false := by simp [jumpsB, *]
  have hG : goesB op = true := by simp [goesB, *]
  simp only [hD] at PS
  simp only [hD, if_true, if_false, Bool.false_eq_true] at PD
  simp only [hJ, hG] at PJ
  clear hD hJ hG
  obtain ⟨W0, hW0⟩ : ∃ W0, W0 = w.heap.size := ⟨_, rfl⟩
  go_enter Tryd.func3, Tryd.ntmps3
  go_wp2_with (first
    | (go_at_call 8; refine (PA _ hbx).mono ?_; rintro ed w1 ⟨rfl, hb1⟩; obtain ⟨x0, x1, x2, x3, x4, x5, x6, x7⟩ := code_cells (keepB hb1 HB.out))
    | (go_at_call 9; refine (PD _).mono ?_; rintro ed w2 ⟨rfl, hb2⟩; have h12 := hb1.trans (hb2.mono hb1.size); obtain ⟨x0, x1, x2, x3, x4, x5, x6, x7⟩ := code_cells (keepB h12 HB.out))
    | (go_at_call 10; refine (PJ _).mono ?_; rintro ed w3 ⟨rfl, hb3⟩; have h13z := h12.trans (hb3.mono h12.size)))
  have HB3 := Lib.hid (keepB h13z HB.out)
  have h13 := h13z.mono (show w.heap.size ≤ (w.alloc (.cells #[.int .i64 op, .int .i64 fd, .int .i64 fo, .int .i64 fa, .int .i64 fb, .int .i64 fc, .int .u64 fv, .int .i64 ft] 26)).heap.size by simp)
  have hW1 : W0 ≤ w3.heap.size := by rw [hW0]; exact Nat.le_trans hbx.size h13.size
  refine wp_region_mono3 (by kernel_rfl) (by kernel_rfl) (by kernel_rfl) (by kernel_rfl) (by kernel_rfl) (fun (i : Nat) (v : Value) (wv : World) => match i with | 0 => v = .bool true | 1 => v = .agg #[.int .i64 op, .int .i64 fd, .int .i64 fo, .int .i64 fa, .int .i64 fb, .int .i64 fc, .int .u64 fv, .int .i64 ft] | 2 => v = .bool true | 3 => v = .bool true | 4 => v = .bool true | 5 => v = .bool true | 6 => v = .bool true | 7 => v = .int .i64 fo | 8 => v = .pointer (some ⟨w.heap.size, 2, none⟩) | 9 => v = .int .i64 fo | 10 => v = .bool true | 11 => v = .bool true | 12 => v = .bool true | 13 => True | 14 => True | 15 => v = undef | 16 => True | 17 => v = undef | 18 => v = undef | 19 => v = .bool true | 20 => v = .bool true | 21 => v = .bool true | 22 => v = .agg #[.int .i64 op, .int .i64 fd, .int .i64 fo, .int .i64 fa, .int .i64 fb, .int .i64 fc, .int .u64 fv, .int .i64 ft] | 23 => Own wv W0 v U | 24 => v = .agg #[.int .i64 op, .int .i64 fd, .int .i64 fo, .int .i64 fa, .int .i64 fb, .int .i64 fc, .int .u64 fv, .int .i64 ft] | 25 => Own wv W0 v U | 26 => v = .bool true | 27 => v = .bool true | 28 => v = .bool true | 29 => v = .bool false | 30 => v = .pointer (some ⟨w.heap.size, 0, none⟩) | 31 => v = .int .i64 op | 32 => v = .bool false | 33 => v = .bool false | 34 => v = .pointer (some ⟨w.heap.size, 0, none⟩) | 35 => v = .int .i64 op | 36 => v = .bool false | 37 => v = .bool false | 38 => v = .bool true | 39 => v = .bool true | 40 => v = .bool true | 41 => v = .bool true | 42 => v = .pointer (some ⟨w.heap.size, 0, none⟩) | 43 => v = .int .i64 op | 44 => v = .bool true | 45 => v = .bool true | 46 => v = .pointer (some ⟨w.heap.size, 0, none⟩) | 47 => v = .int .i64 op | 48 => v = .bool true | 49 => v = .bool true | 50 => v = .bool true | 51 => v = .bool true | 52 => v = .bool true | _ => True) ?_ [(4, true), (6, true), (21, true), (28, true), (33, false), (40, true), (45, true)] [(12, false), (15, true)] (by kernel_rfl) ?_ ?_ ?_ ?_ ?_
  · intro i v w w' hb h
    match i with
    | 0 => exact h
    | 1 => exact h
    | 2 => exact h
    | 3 => exact h
    | 4 => exact h
    | 5 => exact h
    | 6 => exact h
    | 7 => exact h
    | 8 => exact h
    | 9 => exact h
    | 10 => exact h
    | 11 => exact h
    | 12 => exact h
    | 13 => exact h
    | 14 => exact h
    | 15 => exact h
    | 16 => exact h
    | 17 => exact h
    | 18 => exact h
    | 19 => exact h
    | 20 => exact h
    | 21 => exact h
    | 22 => exact h
    | 23 => exact Own.on h hb
    | 24 => exact h
    | 25 => exact Own.on h hb
    | 26 => exact h
    | 27 => exact h
    | 28 => exact h
    | 29 => exact h
    | 30 => exact h
    | 31 => exact h
    | 32 => exact h
    | 33 => exact h
    | 34 => exact h
    | 35 => exact h
    | 36 => exact h
    | 37 => exact h
    | 38 => exact h
    | 39 => exact h
    | 40 => exact h
    | 41 => exact h
    | 42 => exact h
    | 43 => exact h
    | 44 => exact h
    | 45 => exact h
    | 46 => exact h
    | 47 => exact h
    | 48 => exact h
    | 49 => exact h
    | 50 => exact h
    | 51 => exact h
    | 52 => exact h
    | _ + 53 => trivial
  · intro p hp v w h
    simp only [List.mem_cons, List.not_mem_nil, or_false] at hp
    rcases hp with rfl | rfl | rfl | rfl | rfl | rfl | rfl
    · exact h
    · exact h
    · exact h
    · exact h
    · exact h
    · exact h
    · exact h
  · intro p hp v w h
    simp only [List.mem_cons, List.not_mem_nil, or_false] at hp
    rcases hp with rfl | rfl
    · first | exact .inl h | exact .inr h
    · first | exact .inl h | exact .inr h
  · intro i o p ho hg hp w
    match i with
    | 0 => simp only [List.getElem?_toArray, List.getElem?_cons_zero, List.getElem?_cons_succ, Option.some.injEq] at ho; subst ho; first | (cases hg; done) | (cases hg; simp at hp; done)
    | 1 => simp only [List.getElem?_toArray, List.getElem?_cons_zero, List.getElem?_cons_succ, Option.some.injEq] at ho; subst ho; first | (cases hg; done) | (cases hg; simp at hp; done)
    | 2 => simp only [List.getElem?_toArray, List.getElem?_cons_zero, List.getElem?_cons_succ, Option.some.injEq] at ho; subst ho; first | (cases hg; done) | (cases hg; simp at hp; done)
    | 3 => simp only [List.getElem?_toArray, List.getElem?_cons_zero, List.getElem?_cons_succ, Option.some.injEq] at ho; subst ho; first | (cases hg; done) | (cases hg; simp at hp; done)
    | 4 => simp only [List.getElem?_toArray, List.getElem?_cons_zero, List.getElem?_cons_succ, Option.some.injEq] at ho; subst ho; first | (cases hg; done) | (cases hg; simp at hp; done)
    | 5 => simp only [List.getElem?_toArray, List.getElem?_cons_zero, List.getElem?_cons_succ, Option.some.injEq] at ho; subst ho; first | (cases hg; done) | (cases hg; simp at hp; done)
    | 6 => simp only [List.getElem?_toArray, List.getElem?_cons_zero, List.getElem?_cons_succ, Option.some.injEq] at ho; subst ho; first | (cases hg; done) | (cases hg; simp at hp; done)
    | 7 => simp only [List.getElem?_toArray, List.getElem?_cons_zero, List.getElem?_cons_succ, Option.some.injEq] at ho; subst ho; first | (cases hg; done) | (cases hg; simp at hp; done)
    | 8 => simp only [List.getElem?_toArray, List.getElem?_cons_zero, List.getElem?_cons_succ, Option.some.injEq] at ho; subst ho; first | (cases hg; done) | (cases hg; simp at hp; done)
    | 9 => simp only [List.getElem?_toArray, List.getElem?_cons_zero, List.getElem?_cons_succ, Option.some.injEq] at ho; subst ho; first | (cases hg; done) | (cases hg; simp at hp; done)
    | 10 => simp only [List.getElem?_toArray, List.getElem?_cons_zero, List.getElem?_cons_succ, Option.some.injEq] at ho; subst ho; first | (cases hg; done) | (cases hg; simp at hp; done)
    | 11 => simp only [List.getElem?_toArray, List.getElem?_cons_zero, List.getElem?_cons_succ, Option.some.injEq] at ho; subst ho; first | (cases hg; done) | (cases hg; simp at hp; done)
    | 12 => simp only [List.getElem?_toArray, List.getElem?_cons_zero, List.getElem?_cons_succ, Option.some.injEq] at ho; subst ho; first | (cases hg; done) | (cases hg; simp at hp; done)
    | 13 => exact trivial
    | 14 => exact trivial
    | 15 => exact rfl
    | 16 => exact trivial
    | 17 => exact rfl
    | 18 => exact rfl
    | 19 => simp only [List.getElem?_toArray, List.getElem?_cons_zero, List.getElem?_cons_succ, Option.some.injEq] at ho; subst ho; first | (cases hg; done) | (cases hg; simp at hp; done)
    | 20 => simp only [List.getElem?_toArray, List.getElem?_cons_zero, List.getElem?_cons_succ, Option.some.injEq] at ho; subst ho; first | (cases hg; done) | (cases hg; simp at hp; done)
    | 21 => simp only [List.getElem?_toArray, List.getElem?_cons_zero, List.getElem?_cons_succ, Option.some.injEq] at ho; subst ho; first | (cases hg; done) | (cases hg; simp at hp; done)
    | 22 => simp only [List.getElem?_toArray, List.getElem?_cons_zero, List.getElem?_cons_succ, Option.some.injEq] at ho; subst ho; first | (cases hg; done) | (cases hg; simp at hp; done)
    | 23 => simp only [List.getElem?_toArray, List.getElem?_cons_zero, List.getElem?_cons_succ, Option.some.injEq] at ho; subst ho; first | (cases hg; done) | (cases hg; simp at hp; done)
    | 24 => simp only [List.getElem?_toArray, List.getElem?_cons_zero, List.getElem?_cons_succ, Option.some.injEq] at ho; subst ho; first | (cases hg; done) | (cases hg; simp at hp; done)
    | 25 => simp only [List.getElem?_toArray, List.getElem?_cons_zero, List.getElem?_cons_succ, Option.some.injEq] at ho; subst ho; first | (cases hg; done) | (cases hg; simp at hp; done)
    | 26 => simp only [List.getElem?_toArray, List.getElem?_cons_zero, List.getElem?_cons_succ, Option.some.injEq] at ho; subst ho; first | (cases hg; done) | (cases hg; simp at hp; done)
    | 27 => simp only [List.getElem?_toArray, List.getElem?_cons_zero, List.getElem?_cons_succ, Option.some.injEq] at ho; subst ho; first | (cases hg; done) | (cases hg; simp at hp; done)
    | 28 => simp only [List.getElem?_toArray, List.getElem?_cons_zero, List.getElem?_cons_succ, Option.some.injEq] at ho; subst ho; first | (cases hg; done) | (cases hg; simp at hp; done)
    | 29 => simp only [List.getElem?_toArray, List.getElem?_cons_zero, List.getElem?_cons_succ, Option.some.injEq] at ho; subst ho; first | (cases hg; done) | (cases hg; simp at hp; done)
    | 30 => simp only [List.getElem?_toArray, List.getElem?_cons_zero, List.getElem?_cons_succ, Option.some.injEq] at ho; subst ho; first | (cases hg; done) | (cases hg; simp at hp; done)
    | 31 => simp only [List.getElem?_toArray, List.getElem?_cons_zero, List.getElem?_cons_succ, Option.some.injEq] at ho; subst ho; first | (cases hg; done) | (cases hg; simp at hp; done)
    | 32 => simp only [List.getElem?_toArray, List.getElem?_cons_zero, List.getElem?_cons_succ, Option.some.injEq] at ho; subst ho; first | (cases hg; done) | (cases hg; simp at hp; done)
    | 33 => simp only [List.getElem?_toArray, List.getElem?_cons_zero, List.getElem?_cons_succ, Option.some.injEq] at ho; subst ho; first | (cases hg; done) | (cases hg; simp at hp; done)
    | 34 => simp only [List.getElem?_toArray, List.getElem?_cons_zero, List.getElem?_cons_succ, Option.some.injEq] at ho; subst ho; first | (cases hg; done) | (cases hg; simp at hp; done)
    | 35 => simp only [List.getElem?_toArray, List.getElem?_cons_zero, List.getElem?_cons_succ, Option.some.injEq] at ho; subst ho; first | (cases hg; done) | (cases hg; simp at hp; done)
    | 36 => simp only [List.getElem?_toArray, List.getElem?_cons_zero, List.getElem?_cons_succ, Option.some.injEq] at ho; subst ho; first | (cases hg; done) | (cases hg; simp at hp; done)
    | 37 => simp only [List.getElem?_toArray, List.getElem?_cons_zero, List.getElem?_cons_succ, Option.some.injEq] at ho; subst ho; first | (cases hg; done) | (cases hg; simp at hp; done)
    | 38 => simp only [List.getElem?_toArray, List.getElem?_cons_zero, List.getElem?_cons_succ, Option.some.injEq] at ho; subst ho; first | (cases hg; done) | (cases hg; simp at hp; done)
    | 39 => simp only [List.getElem?_toArray, List.getElem?_cons_zero, List.getElem?_cons_succ, Option.some.injEq] at ho; subst ho; first | (cases hg; done) | (cases hg; simp at hp; done)
    | 40 => simp only [List.getElem?_toArray, List.getElem?_cons_zero, List.getElem?_cons_succ, Option.some.injEq] at ho; subst ho; first | (cases hg; done) | (cases hg; simp at hp; done)
    | 41 => simp only [List.getElem?_toArray, List.getElem?_cons_zero, List.getElem?_cons_succ, Option.some.injEq] at ho; subst ho; first | (cases hg; done) | (cases hg; simp at hp; done)
    | 42 => simp only [List.getElem?_toArray, List.getElem?_cons_zero, List.getElem?_cons_succ, Option.some.injEq] at ho; subst ho; first | (cases hg; done) | (cases hg; simp at hp; done)
    | 43 => simp only [List.getElem?_toArray, List.getElem?_cons_zero, List.getElem?_cons_succ, Option.some.injEq] at ho; subst ho; first | (cases hg; done) | (cases hg; simp at hp; done)
    | 44 => simp only [List.getElem?_toArray, List.getElem?_cons_zero, List.getElem?_cons_succ, Option.some.injEq] at ho; subst ho; first | (cases hg; done) | (cases hg; simp at hp; done)
    | 45 => simp only [List.getElem?_toArray, List.getElem?_cons_zero, List.getElem?_cons_succ, Option.some.injEq] at ho; subst ho; first | (cases hg; done) | (cases hg; simp at hp; done)
    | 46 => simp only [List.getElem?_toArray, List.getElem?_cons_zero, List.getElem?_cons_succ, Option.some.injEq] at ho; subst ho; first | (cases hg; done) | (cases hg; simp at hp; done)
    | 47 => simp only [List.getElem?_toArray, List.getElem?_cons_zero, List.getElem?_cons_succ, Option.some.injEq] at ho; subst ho; first | (cases hg; done) | (cases hg; simp at hp; done)
    | 48 => simp only [List.getElem?_toArray, List.getElem?_cons_zero, List.getElem?_cons_succ, Option.some.injEq] at ho; subst ho; first | (cases hg; done) | (cases hg; simp at hp; done)
    | 49 => simp only [List.getElem?_toArray, List.getElem?_cons_zero, List.getElem?_cons_succ, Option.some.injEq] at ho; subst ho; first | (cases hg; done) | (cases hg; simp at hp; done)
    | 50 => simp only [List.getElem?_toArray, List.getElem?_cons_zero, List.getElem?_cons_succ, Option.some.injEq] at ho; subst ho; first | (cases hg; done) | (cases hg; simp at hp; done)
    | 51 => simp only [List.getElem?_toArray, List.getElem?_cons_zero, List.getElem?_cons_succ, Option.some.injEq] at ho; subst ho; first | (cases hg; done) | (cases hg; simp at hp; done)
    | 52 => simp only [List.getElem?_toArray, List.getElem?_cons_zero, List.getElem?_cons_succ, Option.some.injEq] at ho; subst ho; first | (cases hg; done) | (cases hg; simp at hp; done)
    | _ + 53 => exact trivial
  · intro a wr i op hop hno hb hF hP K hK
    have s1 : a.tmps[1]?.getD undef = .pointer (some ⟨w.heap.size, 0, none⟩) := (hF 1 (by kernel_rfl)).trans rfl
    have s3 : a.tmps[3]?.getD undef = .int .i64 fo := (hF 3 (by kernel_rfl)).trans rfl
    have s4 : a.tmps[4]?.getD undef = .bool true := (hF 4 (by kernel_rfl)).trans rfl
    have s5 : a.tmps[5]?.getD undef = .bool false := (hF 5 (by kernel_rfl)).trans rfl
    have s6 : a.tmps[6]?.getD undef = .bool true := (hF 6 (by kernel_rfl)).trans rfl
    obtain ⟨x0, x1, x2, x3, x4, x5, x6, x7⟩ := code_cells (keepB hb HB3.out)
    match i with
    | 0 =>
      simp only [List.getElem?_toArray, List.getElem?_cons_zero, List.getElem?_cons_succ, Option.some.injEq] at hop
      subst hop
      go_simp
      exact hK _ _ (Below.refl _ _) fun _ => by first | rfl | exact wrap_val (by omega)
    | 1 =>
      simp only [List.getElem?_toArray, List.getElem?_cons_zero, List.getElem?_cons_succ, Option.some.injEq] at hop
      subst hop
      go_simp
      exact hK _ _ (Below.refl _ _) fun _ => by first | rfl | exact wrap_val (by omega)
    | 2 =>
      simp only [List.getElem?_toArray, List.getElem?_cons_zero, List.getElem?_cons_succ, Option.some.injEq] at hop
      subst hop
      have n1 : a.tmps[20]?.getD undef = .agg #[.int .i64 op, .int .i64 fd, .int .i64 fo, .int .i64 fa, .int .i64 fb, .int .i64 fc, .int .u64 fv, .int .i64 ft] := hP 1 20 (by kernel_rfl) (by kernel_rfl)
      go_simp
      go_at_call 11
      refine (PS wr).mono ?_
      rintro ed w5 ⟨rfl, hb5⟩
      go_simp
      exact hK _ _ hb5 fun _ => rfl
    | 3 =>
      simp only [List.getElem?_toArray, List.getElem?_cons_zero, List.getElem?_cons_succ, Option.some.injEq] at hop
      subst hop
      have n0 : a.tmps[19]?.getD undef = .bool true := hP 0 19 (by kernel_rfl) (by kernel_rfl)
      have n2 : a.tmps[21]?.getD undef = .bool true := hP 2 21 (by kernel_rfl) (by kernel_rfl)
      go_simp
      exact hK _ _ (Below.refl _ _) fun _ => by first | rfl | exact wrap_val (by omega)
    | 4 =>
      simp only [List.getElem?_toArray, List.getElem?_cons_zero, List.getElem?_cons_succ, Option.some.injEq] at hop
      subst hop
      have n3 : a.tmps[22]?.getD undef = .bool true := hP 3 22 (by kernel_rfl) (by kernel_rfl)
      go_simp
      exact hK _ _ (Below.refl _ _) fun _ => by first | rfl | exact wrap_val (by omega)
    | 5 =>
      simp only [List.getElem?_toArray, List.getElem?_cons_zero, List.getElem?_cons_succ, Option.some.injEq] at hop
      subst hop
      go_simp
      exact hK _ _ (Below.refl _ _) fun _ => by first | rfl | exact wrap_val (by omega)
    | 6 =>
      simp only [List.getElem?_toArray, List.getElem?_cons_zero, List.getElem?_cons_succ, Option.some.injEq] at hop
      subst hop
      have n5 : a.tmps[24]?.getD undef = .bool true := hP 5 24 (by kernel_rfl) (by kernel_rfl)
      go_simp
      exact hK _ _ (Below.refl _ _) fun _ => by first | rfl | exact wrap_val (by omega)
    | 7 =>
      simp only [List.getElem?_toArray, List.getElem?_cons_zero, List.getElem?_cons_succ, Option.some.injEq] at hop
      subst hop
      go_simp
      exact hK _ _ (Below.refl _ _) fun _ => by first | rfl | exact wrap_val (by omega)
    | 8 =>
      simp only [List.getElem?_toArray, List.getElem?_cons_zero, List.getElem?_cons_succ, Option.some.injEq] at hop
      subst hop
      go_simp
      exact hK _ _ (Below.refl _ _) fun _ => by first | rfl | exact wrap_val (by omega)
    | 9 =>
      simp only [List.getElem?_toArray, List.getElem?_cons_zero, List.getElem?_cons_succ, Option.some.injEq] at hop
      subst hop
      have n8 : a.tmps[27]?.getD undef = .pointer (some ⟨w.heap.size, 2, none⟩) := hP 8 27 (by kernel_rfl) (by kernel_rfl)
      go_simp
      exact hK _ _ (Below.refl _ _) fun _ => by first | rfl | exact wrap_val (by omega)
    | 10 =>
      simp only [List.getElem?_toArray, List.getElem?_cons_zero, List.getElem?_cons_succ, Option.some.injEq] at hop
      subst hop
      have n7 : a.tmps[26]?.getD undef = .int .i64 fo := hP 7 26 (by kernel_rfl) (by kernel_rfl)
      have n9 : a.tmps[28]?.getD undef = .int .i64 fo := hP 9 28 (by kernel_rfl) (by kernel_rfl)
      go_simp
      exact hK _ _ (Below.refl _ _) fun _ => by first | rfl | exact wrap_val (by omega)
    | 11 =>
      simp only [List.getElem?_toArray, List.getElem?_cons_zero, List.getElem?_cons_succ, Option.some.injEq] at hop
      subst hop
      have n6 : a.tmps[25]?.getD undef = .bool true := hP 6 25 (by kernel_rfl) (by kernel_rfl)
      have n10 : a.tmps[29]?.getD undef = .bool true := hP 10 29 (by kernel_rfl) (by kernel_rfl)
      go_simp
      exact hK _ _ (Below.refl _ _) fun _ => by first | rfl | exact wrap_val (by omega)
    | 12 =>
      simp only [List.getElem?_toArray, List.getElem?_cons_zero, List.getElem?_cons_succ, Option.some.injEq] at hop
      subst hop
      have n11 : a.tmps[30]?.getD undef = .bool true := hP 11 30 (by kernel_rfl) (by kernel_rfl)
      go_simp
      exact hK _ _ (Below.refl _ _) fun _ => by first | rfl | exact wrap_val (by omega)
    | 13 =>
      simp only [List.getElem?_toArray, List.getElem?_cons_zero, List.getElem?_cons_succ, Option.some.injEq] at hop
      subst hop
      exact absurd (by simp) (hno _ rfl)
    | 14 =>
      simp only [List.getElem?_toArray, List.getElem?_cons_zero, List.getElem?_cons_succ, Option.some.injEq] at hop
      subst hop
      exact absurd (by simp) (hno _ rfl)
    | 15 =>
      simp only [List.getElem?_toArray, List.getElem?_cons_zero, List.getElem?_cons_succ, Option.some.injEq] at hop
      subst hop
      exact absurd (by simp) (hno _ rfl)
    | 16 =>
      simp only [List.getElem?_toArray, List.getElem?_cons_zero, List.getElem?_cons_succ, Option.some.injEq] at hop
      subst hop
      exact absurd (by simp) (hno _ rfl)
    | 17 =>
      simp only [List.getElem?_toArray, List.getElem?_cons_zero, List.getElem?_cons_succ, Option.some.injEq] at hop
      subst hop
      exact absurd (by simp) (hno _ rfl)
    | 18 =>
      simp only [List.getElem?_toArray, List.getElem?_cons_zero, List.getElem?_cons_succ, Option.some.injEq] at hop
      subst hop
      exact absurd (by simp) (hno _ rfl)
    | 19 =>
      simp only [List.getElem?_toArray, List.getElem?_cons_zero, List.getElem?_cons_succ, Option.some.injEq] at hop
      subst hop
      have n12 : a.tmps[31]?.getD undef = .bool true := hP 12 31 (by kernel_rfl) (by kernel_rfl)
      have n18 : a.tmps[37]?.getD undef = undef := hP 18 37 (by kernel_rfl) (by kernel_rfl)
      go_simp
      exact hK _ _ (Below.refl _ _) fun _ => by first | rfl | exact wrap_val (by omega)
    | 20 =>
      simp only [List.getElem?_toArray, List.getElem?_cons_zero, List.getElem?_cons_succ, Option.some.injEq] at hop
      subst hop
      have n4 : a.tmps[23]?.getD undef = .bool true := hP 4 23 (by kernel_rfl) (by kernel_rfl)
      have n19 : a.tmps[38]?.getD undef = .bool true := hP 19 38 (by kernel_rfl) (by kernel_rfl)
      go_simp
      exact hK _ _ (Below.refl _ _) fun _ => by first | rfl | exact wrap_val (by omega)
    | 21 =>
      simp only [List.getElem?_toArray, List.getElem?_cons_zero, List.getElem?_cons_succ, Option.some.injEq] at hop
      subst hop
      have n20 : a.tmps[39]?.getD undef = .bool true := hP 20 39 (by kernel_rfl) (by kernel_rfl)
      go_simp
      exact hK _ _ (Below.refl _ _) fun _ => by first | rfl | exact wrap_val (by omega)
    | 22 =>
      simp only [List.getElem?_toArray, List.getElem?_cons_zero, List.getElem?_cons_succ, Option.some.injEq] at hop
      subst hop
      go_simp
      exact hK _ _ (Below.refl _ _) fun _ => by first | rfl | exact wrap_val (by omega)
    | 23 =>
      simp only [List.getElem?_toArray, List.getElem?_cons_zero, List.getElem?_cons_succ, Option.some.injEq] at hop
      subst hop
      have n22 : a.tmps[41]?.getD undef = .agg #[.int .i64 op, .int .i64 fd, .int .i64 fo, .int .i64 fa, .int .i64 fb, .int .i64 fc, .int .u64 fv, .int .i64 ft] := hP 22 41 (by kernel_rfl) (by kernel_rfl)
      go_simp
      go_at_call 13
      refine (PU wr).mono ?_
      rintro ed w5 ⟨v5, rfl, ho5, hb5⟩
      go_simp
      exact hK _ _ hb5 fun _ => ho5.base (Nat.le_trans hW1 hb.size)
    | 24 =>
      simp only [List.getElem?_toArray, List.getElem?_cons_zero, List.getElem?_cons_succ, Option.some.injEq] at hop
      subst hop
      go_simp
      exact hK _ _ (Below.refl _ _) fun _ => by first | rfl | exact wrap_val (by omega)
    | 25 =>
      simp only [List.getElem?_toArray, List.getElem?_cons_zero, List.getElem?_cons_succ, Option.some.injEq] at hop
      subst hop
      have n24 : a.tmps[43]?.getD undef = .agg #[.int .i64 op, .int .i64 fd, .int .i64 fo, .int .i64 fa, .int .i64 fb, .int .i64 fc, .int .u64 fv, .int .i64 ft] := hP 24 43 (by kernel_rfl) (by kernel_rfl)
      go_simp
      go_at_call 14
      refine (PL wr).mono ?_
      rintro ed w5 ⟨v5, rfl, ho5, hb5⟩
      go_simp
      exact hK _ _ hb5 fun _ => ho5.base (Nat.le_trans hW1 hb.size)
    | 26 =>
      simp only [List.getElem?_toArray, List.getElem?_cons_zero, List.getElem?_cons_succ, Option.some.injEq] at hop
      subst hop
      obtain ⟨va, n23, ha⟩ : ∃ va, a.tmps[42]?.getD undef = va ∧ Own wr W0 va U := ⟨_, rfl, (hP 23 42 (by kernel_rfl) (by kernel_rfl))⟩
      obtain ⟨vb, n25, hbo⟩ : ∃ vb, a.tmps[44]?.getD undef = vb ∧ Own wr W0 vb U := ⟨_, rfl, (hP 25 44 (by kernel_rfl) (by kernel_rfl))⟩
      go_simp
      go_at_call 12
      refine (same_any U U va vb wr ha.nums hbo.nums).mono ?_
      rintro ed w5 ⟨rfl, hb5⟩
      rw [decide_eq_true (rfl : U = U)]
      go_simp
      exact hK _ _ hb5 fun _ => rfl
    | 27 =>
      simp only [List.getElem?_toArray, List.getElem?_cons_zero, List.getElem?_cons_succ, Option.some.injEq] at hop
      subst hop
      have n21 : a.tmps[40]?.getD undef = .bool true := hP 21 40 (by kernel_rfl) (by kernel_rfl)
      have n26 : a.tmps[45]?.getD undef = .bool true := hP 26 45 (by kernel_rfl) (by kernel_rfl)
      go_simp
      exact hK _ _ (Below.refl _ _) fun _ => by first | rfl | exact wrap_val (by omega)
    | 28 =>
      simp only [List.getElem?_toArray, List.getElem?_cons_zero, List.getElem?_cons_succ, Option.some.injEq] at hop
      subst hop
      have n27 : a.tmps[46]?.getD undef = .bool true := hP 27 46 (by kernel_rfl) (by kernel_rfl)
      go_simp
      exact hK _ _ (Below.refl _ _) fun _ => by first | rfl | exact wrap_val (by omega)
    | 29 =>
      simp only [List.getElem?_toArray, List.getElem?_cons_zero, List.getElem?_cons_succ, Option.some.injEq] at hop
      subst hop
      go_simp
      exact hK _ _ (Below.refl _ _) fun _ => by first | rfl | exact wrap_val (by omega)
    | 30 =>
      simp only [List.getElem?_toArray, List.getElem?_cons_zero, List.getElem?_cons_succ, Option.some.injEq] at hop
      subst hop
      go_simp
      exact hK _ _ (Below.refl _ _) fun _ => by first | rfl | exact wrap_val (by omega)
    | 31 =>
      simp only [List.getElem?_toArray, List.getElem?_cons_zero, List.getElem?_cons_succ, Option.some.injEq] at hop
      subst hop
      have n30 : a.tmps[49]?.getD undef = .pointer (some ⟨w.heap.size, 0, none⟩) := hP 30 49 (by kernel_rfl) (by kernel_rfl)
      go_simp
      exact hK _ _ (Below.refl _ _) fun _ => by first | rfl | exact wrap_val (by omega)
    | 32 =>
      simp only [List.getElem?_toArray, List.getElem?_cons_zero, List.getElem?_cons_succ, Option.some.injEq] at hop
      subst hop
      have n31 : a.tmps[50]?.getD undef = .int .i64 op := hP 31 50 (by kernel_rfl) (by kernel_rfl)
      go_simp
      exact hK _ _ (Below.refl _ _) fun _ => by first | rfl | exact wrap_val (by omega)
    | 33 =>
      simp only [List.getElem?_toArray, List.getElem?_cons_zero, List.getElem?_cons_succ, Option.some.injEq] at hop
      subst hop
      have n32 : a.tmps[51]?.getD undef = .bool false := hP 32 51 (by kernel_rfl) (by kernel_rfl)
      go_simp
      exact hK _ _ (Below.refl _ _) fun _ => by first | rfl | exact wrap_val (by omega)
    | 34 =>
      simp only [List.getElem?_toArray, List.getElem?_cons_zero, List.getElem?_cons_succ, Option.some.injEq] at hop
      subst hop
      go_simp
      exact hK _ _ (Below.refl _ _) fun _ => by first | rfl | exact wrap_val (by omega)
    | 35 =>
      simp only [List.getElem?_toArray, List.getElem?_cons_zero, List.getElem?_cons_succ, Option.some.injEq] at hop
      subst hop
      have n34 : a.tmps[53]?.getD undef = .pointer (some ⟨w.heap.size, 0, none⟩) := hP 34 53 (by kernel_rfl) (by kernel_rfl)
      go_simp
      exact hK _ _ (Below.refl _ _) fun _ => by first | rfl | exact wrap_val (by omega)
    | 36 =>
      simp only [List.getElem?_toArray, List.getElem?_cons_zero, List.getElem?_cons_succ, Option.some.injEq] at hop
      subst hop
      have n35 : a.tmps[54]?.getD undef = .int .i64 op := hP 35 54 (by kernel_rfl) (by kernel_rfl)
      go_simp
      exact hK _ _ (Below.refl _ _) fun _ => by first | rfl | exact wrap_val (by omega)
    | 37 =>
      simp only [List.getElem?_toArray, List.getElem?_cons_zero, List.getElem?_cons_succ, Option.some.injEq] at hop
      subst hop
      have n33 : a.tmps[52]?.getD undef = .bool false := hP 33 52 (by kernel_rfl) (by kernel_rfl)
      have n36 : a.tmps[55]?.getD undef = .bool false := hP 36 55 (by kernel_rfl) (by kernel_rfl)
      go_simp
      exact hK _ _ (Below.refl _ _) fun _ => by first | rfl | exact wrap_val (by omega)
    | 38 =>
      simp only [List.getElem?_toArray, List.getElem?_cons_zero, List.getElem?_cons_succ, Option.some.injEq] at hop
      subst hop
      have n29 : a.tmps[48]?.getD undef = .bool false := hP 29 48 (by kernel_rfl) (by kernel_rfl)
      have n37 : a.tmps[56]?.getD undef = .bool false := hP 37 56 (by kernel_rfl) (by kernel_rfl)
      go_simp
      exact hK _ _ (Below.refl _ _) fun _ => by first | rfl | exact wrap_val (by omega)
    | 39 =>
      simp only [List.getElem?_toArray, List.getElem?_cons_zero, List.getElem?_cons_succ, Option.some.injEq] at hop
      subst hop
      have n28 : a.tmps[47]?.getD undef = .bool true := hP 28 47 (by kernel_rfl) (by kernel_rfl)
      have n38 : a.tmps[57]?.getD undef = .bool true := hP 38 57 (by kernel_rfl) (by kernel_rfl)
      go_simp
      exact hK _ _ (Below.refl _ _) fun _ => by first | rfl | exact wrap_val (by omega)
    | 40 =>
      simp only [List.getElem?_toArray, List.getElem?_cons_zero, List.getElem?_cons_succ, Option.some.injEq] at hop
      subst hop
      have n39 : a.tmps[58]?.getD undef = .bool true := hP 39 58 (by kernel_rfl) (by kernel_rfl)
      go_simp
      exact hK _ _ (Below.refl _ _) fun _ => by first | rfl | exact wrap_val (by omega)
    | 41 =>
      simp only [List.getElem?_toArray, List.getElem?_cons_zero, List.getElem?_cons_succ, Option.some.injEq] at hop
      subst hop
      go_simp
      exact hK _ _ (Below.refl _ _) fun _ => by first | rfl | exact wrap_val (by omega)
    | 42 =>
      simp only [List.getElem?_toArray, List.getElem?_cons_zero, List.getElem?_cons_succ, Option.some.injEq] at hop
      subst hop
      go_simp
      exact hK _ _ (Below.refl _ _) fun _ => by first | rfl | exact wrap_val (by omega)
    | 43 =>
      simp only [List.getElem?_toArray, List.getElem?_cons_zero, List.getElem?_cons_succ, Option.some.injEq] at hop
      subst hop
      have n42 : a.tmps[61]?.getD undef = .pointer (some ⟨w.heap.size, 0, none⟩) := hP 42 61 (by kernel_rfl) (by kernel_rfl)
      go_simp
      exact hK _ _ (Below.refl _ _) fun _ => by first | rfl | exact wrap_val (by omega)
    | 44 =>
      simp only [List.getElem?_toArray, List.getElem?_cons_zero, List.getElem?_cons_succ, Option.some.injEq] at hop
      subst hop
      have n43 : a.tmps[62]?.getD undef = .int .i64 op := hP 43 62 (by kernel_rfl) (by kernel_rfl)
      go_simp
      exact hK _ _ (Below.refl _ _) fun _ => by first | rfl | exact wrap_val (by omega)
    | 45 =>
      simp only [List.getElem?_toArray, List.getElem?_cons_zero, List.getElem?_cons_succ, Option.some.injEq] at hop
      subst hop
      have n44 : a.tmps[63]?.getD undef = .bool true := hP 44 63 (by kernel_rfl) (by kernel_rfl)
      go_simp
      exact hK _ _ (Below.refl _ _) fun _ => by first | rfl | exact wrap_val (by omega)
    | 46 =>
      simp only [List.getElem?_toArray, List.getElem?_cons_zero, List.getElem?_cons_succ, Option.some.injEq] at hop
      subst hop
      go_simp
      exact hK _ _ (Below.refl _ _) fun _ => by first | rfl | exact wrap_val (by omega)
    | 47 =>
      simp only [List.getElem?_toArray, List.getElem?_cons_zero, List.getElem?_cons_succ, Option.some.injEq] at hop
      subst hop
      have n46 : a.tmps[65]?.getD undef = .pointer (some ⟨w.heap.size, 0, none⟩) := hP 46 65 (by kernel_rfl) (by kernel_rfl)
      go_simp
      exact hK _ _ (Below.refl _ _) fun _ => by first | rfl | exact wrap_val (by omega)
    | 48 =>
      simp only [List.getElem?_toArray, List.getElem?_cons_zero, List.getElem?_cons_succ, Option.some.injEq] at hop
      subst hop
      have n47 : a.tmps[66]?.getD undef = .int .i64 op := hP 47 66 (by kernel_rfl) (by kernel_rfl)
      go_simp
      exact hK _ _ (Below.refl _ _) fun _ => by first | rfl | exact wrap_val (by omega)
    | 49 =>
      simp only [List.getElem?_toArray, List.getElem?_cons_zero, List.getElem?_cons_succ, Option.some.injEq] at hop
      subst hop
      have n45 : a.tmps[64]?.getD undef = .bool true := hP 45 64 (by kernel_rfl) (by kernel_rfl)
      have n48 : a.tmps[67]?.getD undef = .bool true := hP 48 67 (by kernel_rfl) (by kernel_rfl)
      go_simp
      exact hK _ _ (Below.refl _ _) fun _ => by first | rfl | exact wrap_val (by omega)
    | 50 =>
      simp only [List.getElem?_toArray, List.getElem?_cons_zero, List.getElem?_cons_succ, Option.some.injEq] at hop
      subst hop
      have n41 : a.tmps[60]?.getD undef = .bool true := hP 41 60 (by kernel_rfl) (by kernel_rfl)
      have n49 : a.tmps[68]?.getD undef = .bool true := hP 49 68 (by kernel_rfl) (by kernel_rfl)
      go_simp
      exact hK _ _ (Below.refl _ _) fun _ => by first | rfl | exact wrap_val (by omega)
    | 51 =>
      simp only [List.getElem?_toArray, List.getElem?_cons_zero, List.getElem?_cons_succ, Option.some.injEq] at hop
      subst hop
      have n40 : a.tmps[59]?.getD undef = .bool true := hP 40 59 (by kernel_rfl) (by kernel_rfl)
      have n50 : a.tmps[69]?.getD undef = .bool true := hP 50 69 (by kernel_rfl) (by kernel_rfl)
      go_simp
      exact hK _ _ (Below.refl _ _) fun _ => by first | rfl | exact wrap_val (by omega)
    | 52 =>
      simp only [List.getElem?_toArray, List.getElem?_cons_zero, List.getElem?_cons_succ, Option.some.injEq] at hop
      subst hop
      have n51 : a.tmps[70]?.getD undef = .bool true := hP 51 70 (by kernel_rfl) (by kernel_rfl)
      go_simp
      exact hK _ _ (Below.refl _ _) fun _ => by first | rfl | exact wrap_val (by omega)
    | _ + 53 => simp at hop
  · intro V wz hbz hR
    have e52 : V 52 = .bool true := hR 52 (by kernel_rfl)
    clear hR
    refine at_all (prs [19, 20, 21, 22, 23, 24, 25, 26, 27, 28, 29, 30, 31, 32, 33, 34, 35, 36, 37, 38, 39, 40, 41, 42, 43, 44, 45, 46, 47, 48, 49, 50, 51, 52, 53, 54, 55, 56, 57, 58, 59, 60, 61, 62, 63, 64, 65, 66, 67, 68, 69, 70, 2] V) (fun t => by kernel_rfl) ?_
    simp only [prs, List.zipIdx, List.map, List.foldl, Nat.zero_add, Nat.reduceAdd, List.setIfInBounds_toArray, List.set_cons_zero, List.set_cons_succ, e52]
    go_wp2
    go_ret
    exact ⟨rfl, (hbx.trans h13).trans (hbz.mono (Nat.le_trans hbx.size h13.size))⟩

set_option maxHeartbeats 4000000 in
set_option maxRecDepth 100000 in
theorem uses_6 (fd fo fa fb fc fv ft : Int) (w : World) (hV : Vars w.heap.size w) :
    Calls Tryd.prog 3 #[.agg #[.int .i64 6, .int .i64 fd, .int .i64 fo, .int .i64 fa, .int .i64 fb, .int .i64 fc, .int .u64 fv, .int .i64 ft]] w fun e w' => e = .returned (.bool true) ∧ Below w.heap.size w w' := by
  have hbx := (Below.refl w.heap.size w).alloc (Nat.le_refl _) (.cells #[.int .i64 6, .int .i64 fd, .int .i64 fo, .int .i64 fa, .int .i64 fb, .int .i64 fc, .int .u64 fv, .int .i64 ft] 26)
  have HB := Lib.hid (show (w.alloc (.cells #[.int .i64 6, .int .i64 fd, .int .i64 fo, .int .i64 fa, .int .i64 fb, .int .i64 fc, .int .u64 fv, .int .i64 ft] 26)).heap[w.heap.size]? = some (.cells #[.int .i64 6, .int .i64 fd, .int .i64 fo, .int .i64 fa, .int .i64 fb, .int .i64 fc, .int .u64 fv, .int .i64 ft] 26 (0, 0)) by rw [alloc_at, if_pos rfl])
  have PA := fun w1 (hb1 : Below w.heap.size w w1) => awake_any w1 ((hV.on hb1).mono hb1.size)
  have PS := fun w1 => sets_any ⟨6, fd, fo, fa, fb, fc, fv, ft⟩ w1
  have PD := fun w1 => defines_any ⟨6, fd, fo, fa, fb, fc, fv, ft⟩ w1
  have PJ := fun w1 => jumps_any ⟨6, fd, fo, fa, fb, fc, fv, ft⟩ w1
  have PU := fun w1 => uses_any ⟨6, fd, fo, fa, fb, fc, fv, ft⟩ w1
  have PL := fun w1 => luses_any ⟨6, fd, fo, fa, fb, fc, fv, ft⟩ w1
  obtain ⟨U, hU⟩ : ∃ U, U = usesP ⟨6, fd, fo, fa, fb, fc, fv, ft⟩ := ⟨_, rfl⟩
  rw [← hU] at PU PL
  clear hU
  have hD : setsB 6 = false := by rfl
  have hJ : jumpsB 6 = true := by rfl
  have hG : goesB 6 = false := by rfl
  simp only [hD] at PS
  simp only [hD, if_true, if_false, Bool.false_eq_true] at PD
  simp only [hJ, hG] at PJ
  clear hD hJ hG
  obtain ⟨W0, hW0⟩ : ∃ W0, W0 = w.heap.size := ⟨_, rfl⟩
  go_enter Tryd.func3, Tryd.ntmps3
  go_wp2_with (first
    | (go_at_call 8; refine (PA _ hbx).mono ?_; rintro ed w1 ⟨rfl, hb1⟩; obtain ⟨x0, x1, x2, x3, x4, x5, x6, x7⟩ := code_cells (keepB hb1 HB.out))
    | (go_at_call 9; refine (PD _).mono ?_; rintro ed w2 ⟨rfl, hb2⟩; have h12 := hb1.trans (hb2.mono hb1.size); obtain ⟨x0, x1, x2, x3, x4, x5, x6, x7⟩ := code_cells (keepB h12 HB.out))
    | (go_at_call 10; refine (PJ _).mono ?_; rintro ed w3 ⟨rfl, hb3⟩; have h13z := h12.trans (hb3.mono h12.size)))
  have HB3 := Lib.hid (keepB h13z HB.out)
  have h13 := h13z.mono (show w.heap.size ≤ (w.alloc (.cells #[.int .i64 6, .int .i64 fd, .int .i64 fo, .int .i64 fa, .int .i64 fb, .int .i64 fc, .int .u64 fv, .int .i64 ft] 26)).heap.size by simp)
  have hW1 : W0 ≤ w3.heap.size := by rw [hW0]; exact Nat.le_trans hbx.size h13.size
  refine wp_region_mono3 (by kernel_rfl) (by kernel_rfl) (by kernel_rfl) (by kernel_rfl) (by kernel_rfl) (fun (i : Nat) (v : Value) (wv : World) => match i with | 0 => v = .bool false | 1 => v = .agg #[.int .i64 6, .int .i64 fd, .int .i64 fo, .int .i64 fa, .int .i64 fb, .int .i64 fc, .int .u64 fv, .int .i64 ft] | 2 => v = .bool false | 3 => v = .bool true | 4 => v = .bool true | 5 => v = .bool false | 6 => v = .bool false | 7 => True | 8 => True | 9 => True | 10 => v = undef | 11 => v = .bool false | 12 => v = .bool false | 13 => v = .bool false | 14 => v = .bool true | 15 => v = .bool true | 16 => v = .int .i64 0 | 17 => v = .bool true | 18 => v = .bool true | 19 => v = .bool true | 20 => v = .bool true | 21 => v = .bool true | 22 => v = .agg #[.int .i64 6, .int .i64 fd, .int .i64 fo, .int .i64 fa, .int .i64 fb, .int .i64 fc, .int .u64 fv, .int .i64 ft] | 23 => Own wv W0 v U | 24 => v = .agg #[.int .i64 6, .int .i64 fd, .int .i64 fo, .int .i64 fa, .int .i64 fb, .int .i64 fc, .int .u64 fv, .int .i64 ft] | 25 => Own wv W0 v U | 26 => v = .bool true | 27 => v = .bool true | 28 => v = .bool true | 29 => v = .bool true | 30 => v = .pointer (some ⟨w.heap.size, 0, none⟩) | 31 => v = .int .i64 6 | 32 => v = .bool true | 33 => v = .bool true | 34 => True | 35 => True | 36 => v = undef | 37 => v = .bool true | 38 => v = .bool true | 39 => v = .bool true | 40 => v = .bool true | 41 => v = .bool false | 42 => v = .pointer (some ⟨w.heap.size, 0, none⟩) | 43 => v = .int .i64 6 | 44 => v = .bool false | 45 => v = .bool false | 46 => True | 47 => True | 48 => v = undef | 49 => v = .bool false | 50 => v = .bool true | 51 => v = .bool true | 52 => v = .bool true | _ => True) ?_ [(4, true), (12, false), (15, true), (21, true), (28, true), (40, true)] [(6, true), (33, false), (45, true)] (by kernel_rfl) ?_ ?_ ?_ ?_ ?_
  · intro i v w w' hb h
    match i with
    | 0 => exact h
    | 1 => exact h
    | 2 => exact h
    | 3 => exact h
    | 4 => exact h
    | 5 => exact h
    | 6 => exact h
    | 7 => exact h
    | 8 => exact h
    | 9 => exact h
    | 10 => exact h
    | 11 => exact h
    | 12 => exact h
    | 13 => exact h
    | 14 => exact h
    | 15 => exact h
    | 16 => exact h
    | 17 => exact h
    | 18 => exact h
    | 19 => exact h
    | 20 => exact h
    | 21 => exact h
    | 22 => exact h
    | 23 => exact Own.on h hb
    | 24 => exact h
    | 25 => exact Own.on h hb
    | 26 => exact h
    | 27 => exact h
    | 28 => exact h
    | 29 => exact h
    | 30 => exact h
    | 31 => exact h
    | 32 => exact h
    | 33 => exact h
    | 34 => exact h
    | 35 => exact h
    | 36 => exact h
    | 37 => exact h
    | 38 => exact h
    | 39 => exact h
    | 40 => exact h
    | 41 => exact h
    | 42 => exact h
    | 43 => exact h
    | 44 => exact h
    | 45 => exact h
    | 46 => exact h
    | 47 => exact h
    | 48 => exact h
    | 49 => exact h
    | 50 => exact h
    | 51 => exact h
    | 52 => exact h
    | _ + 53 => trivial
  · intro p hp v w h
    simp only [List.mem_cons, List.not_mem_nil, or_false] at hp
    rcases hp with rfl | rfl | rfl | rfl | rfl | rfl
    · exact h
    · exact h
    · exact h
    · exact h
    · exact h
    · exact h
  · intro p hp v w h
    simp only [List.mem_cons, List.not_mem_nil, or_false] at hp
    rcases hp with rfl | rfl | rfl
    · first | exact .inl h | exact .inr h
    · first | exact .inl h | exact .inr h
    · first | exact .inl h | exact .inr h
  · intro i o p ho hg hp w
    match i with
    | 0 => simp only [List.getElem?_toArray, List.getElem?_cons_zero, List.getElem?_cons_succ, Option.some.injEq] at ho; subst ho; first | (cases hg; done) | (cases hg; simp at hp; done)
    | 1 => simp only [List.getElem?_toArray, List.getElem?_cons_zero, List.getElem?_cons_succ, Option.some.injEq] at ho; subst ho; first | (cases hg; done) | (cases hg; simp at hp; done)
    | 2 => simp only [List.getElem?_toArray, List.getElem?_cons_zero, List.getElem?_cons_succ, Option.some.injEq] at ho; subst ho; first | (cases hg; done) | (cases hg; simp at hp; done)
    | 3 => simp only [List.getElem?_toArray, List.getElem?_cons_zero, List.getElem?_cons_succ, Option.some.injEq] at ho; subst ho; first | (cases hg; done) | (cases hg; simp at hp; done)
    | 4 => simp only [List.getElem?_toArray, List.getElem?_cons_zero, List.getElem?_cons_succ, Option.some.injEq] at ho; subst ho; first | (cases hg; done) | (cases hg; simp at hp; done)
    | 5 => simp only [List.getElem?_toArray, List.getElem?_cons_zero, List.getElem?_cons_succ, Option.some.injEq] at ho; subst ho; first | (cases hg; done) | (cases hg; simp at hp; done)
    | 6 => simp only [List.getElem?_toArray, List.getElem?_cons_zero, List.getElem?_cons_succ, Option.some.injEq] at ho; subst ho; first | (cases hg; done) | (cases hg; simp at hp; done)
    | 7 => exact trivial
    | 8 => exact trivial
    | 9 => exact trivial
    | 10 => exact rfl
    | 11 => simp only [List.getElem?_toArray, List.getElem?_cons_zero, List.getElem?_cons_succ, Option.some.injEq] at ho; subst ho; first | (cases hg; done) | (cases hg; simp at hp; done)
    | 12 => simp only [List.getElem?_toArray, List.getElem?_cons_zero, List.getElem?_cons_succ, Option.some.injEq] at ho; subst ho; first | (cases hg; done) | (cases hg; simp at hp; done)
    | 13 => simp only [List.getElem?_toArray, List.getElem?_cons_zero, List.getElem?_cons_succ, Option.some.injEq] at ho; subst ho; first | (cases hg; done) | (cases hg; simp at hp; done)
    | 14 => simp only [List.getElem?_toArray, List.getElem?_cons_zero, List.getElem?_cons_succ, Option.some.injEq] at ho; subst ho; first | (cases hg; done) | (cases hg; simp at hp; done)
    | 15 => simp only [List.getElem?_toArray, List.getElem?_cons_zero, List.getElem?_cons_succ, Option.some.injEq] at ho; subst ho; first | (cases hg; done) | (cases hg; simp at hp; done)
    | 16 => simp only [List.getElem?_toArray, List.getElem?_cons_zero, List.getElem?_cons_succ, Option.some.injEq] at ho; subst ho; first | (cases hg; done) | (cases hg; simp at hp; done)
    | 17 => simp only [List.getElem?_toArray, List.getElem?_cons_zero, List.getElem?_cons_succ, Option.some.injEq] at ho; subst ho; first | (cases hg; done) | (cases hg; simp at hp; done)
    | 18 => simp only [List.getElem?_toArray, List.getElem?_cons_zero, List.getElem?_cons_succ, Option.some.injEq] at ho; subst ho; first | (cases hg; done) | (cases hg; simp at hp; done)
    | 19 => simp only [List.getElem?_toArray, List.getElem?_cons_zero, List.getElem?_cons_succ, Option.some.injEq] at ho; subst ho; first | (cases hg; done) | (cases hg; simp at hp; done)
    | 20 => simp only [List.getElem?_toArray, List.getElem?_cons_zero, List.getElem?_cons_succ, Option.some.injEq] at ho; subst ho; first | (cases hg; done) | (cases hg; simp at hp; done)
    | 21 => simp only [List.getElem?_toArray, List.getElem?_cons_zero, List.getElem?_cons_succ, Option.some.injEq] at ho; subst ho; first | (cases hg; done) | (cases hg; simp at hp; done)
    | 22 => simp only [List.getElem?_toArray, List.getElem?_cons_zero, List.getElem?_cons_succ, Option.some.injEq] at ho; subst ho; first | (cases hg; done) | (cases hg; simp at hp; done)
    | 23 => simp only [List.getElem?_toArray, List.getElem?_cons_zero, List.getElem?_cons_succ, Option.some.injEq] at ho; subst ho; first | (cases hg; done) | (cases hg; simp at hp; done)
    | 24 => simp only [List.getElem?_toArray, List.getElem?_cons_zero, List.getElem?_cons_succ, Option.some.injEq] at ho; subst ho; first | (cases hg; done) | (cases hg; simp at hp; done)
    | 25 => simp only [List.getElem?_toArray, List.getElem?_cons_zero, List.getElem?_cons_succ, Option.some.injEq] at ho; subst ho; first | (cases hg; done) | (cases hg; simp at hp; done)
    | 26 => simp only [List.getElem?_toArray, List.getElem?_cons_zero, List.getElem?_cons_succ, Option.some.injEq] at ho; subst ho; first | (cases hg; done) | (cases hg; simp at hp; done)
    | 27 => simp only [List.getElem?_toArray, List.getElem?_cons_zero, List.getElem?_cons_succ, Option.some.injEq] at ho; subst ho; first | (cases hg; done) | (cases hg; simp at hp; done)
    | 28 => simp only [List.getElem?_toArray, List.getElem?_cons_zero, List.getElem?_cons_succ, Option.some.injEq] at ho; subst ho; first | (cases hg; done) | (cases hg; simp at hp; done)
    | 29 => simp only [List.getElem?_toArray, List.getElem?_cons_zero, List.getElem?_cons_succ, Option.some.injEq] at ho; subst ho; first | (cases hg; done) | (cases hg; simp at hp; done)
    | 30 => simp only [List.getElem?_toArray, List.getElem?_cons_zero, List.getElem?_cons_succ, Option.some.injEq] at ho; subst ho; first | (cases hg; done) | (cases hg; simp at hp; done)
    | 31 => simp only [List.getElem?_toArray, List.getElem?_cons_zero, List.getElem?_cons_succ, Option.some.injEq] at ho; subst ho; first | (cases hg; done) | (cases hg; simp at hp; done)
    | 32 => simp only [List.getElem?_toArray, List.getElem?_cons_zero, List.getElem?_cons_succ, Option.some.injEq] at ho; subst ho; first | (cases hg; done) | (cases hg; simp at hp; done)
    | 33 => simp only [List.getElem?_toArray, List.getElem?_cons_zero, List.getElem?_cons_succ, Option.some.injEq] at ho; subst ho; first | (cases hg; done) | (cases hg; simp at hp; done)
    | 34 => exact trivial
    | 35 => exact trivial
    | 36 => exact rfl
    | 37 => simp only [List.getElem?_toArray, List.getElem?_cons_zero, List.getElem?_cons_succ, Option.some.injEq] at ho; subst ho; first | (cases hg; done) | (cases hg; simp at hp; done)
    | 38 => simp only [List.getElem?_toArray, List.getElem?_cons_zero, List.getElem?_cons_succ, Option.some.injEq] at ho; subst ho; first | (cases hg; done) | (cases hg; simp at hp; done)
    | 39 => simp only [List.getElem?_toArray, List.getElem?_cons_zero, List.getElem?_cons_succ, Option.some.injEq] at ho; subst ho; first | (cases hg; done) | (cases hg; simp at hp; done)
    | 40 => simp only [List.getElem?_toArray, List.getElem?_cons_zero, List.getElem?_cons_succ, Option.some.injEq] at ho; subst ho; first | (cases hg; done) | (cases hg; simp at hp; done)
    | 41 => simp only [List.getElem?_toArray, List.getElem?_cons_zero, List.getElem?_cons_succ, Option.some.injEq] at ho; subst ho; first | (cases hg; done) | (cases hg; simp at hp; done)
    | 42 => simp only [List.getElem?_toArray, List.getElem?_cons_zero, List.getElem?_cons_succ, Option.some.injEq] at ho; subst ho; first | (cases hg; done) | (cases hg; simp at hp; done)
    | 43 => simp only [List.getElem?_toArray, List.getElem?_cons_zero, List.getElem?_cons_succ, Option.some.injEq] at ho; subst ho; first | (cases hg; done) | (cases hg; simp at hp; done)
    | 44 => simp only [List.getElem?_toArray, List.getElem?_cons_zero, List.getElem?_cons_succ, Option.some.injEq] at ho; subst ho; first | (cases hg; done) | (cases hg; simp at hp; done)
    | 45 => simp only [List.getElem?_toArray, List.getElem?_cons_zero, List.getElem?_cons_succ, Option.some.injEq] at ho; subst ho; first | (cases hg; done) | (cases hg; simp at hp; done)
    | 46 => exact trivial
    | 47 => exact trivial
    | 48 => exact rfl
    | 49 => simp only [List.getElem?_toArray, List.getElem?_cons_zero, List.getElem?_cons_succ, Option.some.injEq] at ho; subst ho; first | (cases hg; done) | (cases hg; simp at hp; done)
    | 50 => simp only [List.getElem?_toArray, List.getElem?_cons_zero, List.getElem?_cons_succ, Option.some.injEq] at ho; subst ho; first | (cases hg; done) | (cases hg; simp at hp; done)
    | 51 => simp only [List.getElem?_toArray, List.getElem?_cons_zero, List.getElem?_cons_succ, Option.some.injEq] at ho; subst ho; first | (cases hg; done) | (cases hg; simp at hp; done)
    | 52 => simp only [List.getElem?_toArray, List.getElem?_cons_zero, List.getElem?_cons_succ, Option.some.injEq] at ho; subst ho; first | (cases hg; done) | (cases hg; simp at hp; done)
    | _ + 53 => exact trivial
  · intro a wr i op hop hno hb hF hP K hK
    have s1 : a.tmps[1]?.getD undef = .pointer (some ⟨w.heap.size, 0, none⟩) := (hF 1 (by kernel_rfl)).trans rfl
    have s3 : a.tmps[3]?.getD undef = .int .i64 0 := (hF 3 (by kernel_rfl)).trans rfl
    have s4 : a.tmps[4]?.getD undef = .bool false := (hF 4 (by kernel_rfl)).trans rfl
    have s5 : a.tmps[5]?.getD undef = .bool true := (hF 5 (by kernel_rfl)).trans rfl
    have s6 : a.tmps[6]?.getD undef = .bool false := (hF 6 (by kernel_rfl)).trans rfl
    obtain ⟨x0, x1, x2, x3, x4, x5, x6, x7⟩ := code_cells (keepB hb HB3.out)
    match i with
    | 0 =>
      simp only [List.getElem?_toArray, List.getElem?_cons_zero, List.getElem?_cons_succ, Option.some.injEq] at hop
      subst hop
      go_simp
      exact hK _ _ (Below.refl _ _) fun _ => by first | rfl | exact wrap_val (by omega)
    | 1 =>
      simp only [List.getElem?_toArray, List.getElem?_cons_zero, List.getElem?_cons_succ, Option.some.injEq] at hop
      subst hop
      go_simp
      exact hK _ _ (Below.refl _ _) fun _ => by first | rfl | exact wrap_val (by omega)
    | 2 =>
      simp only [List.getElem?_toArray, List.getElem?_cons_zero, List.getElem?_cons_succ, Option.some.injEq] at hop
      subst hop
      have n1 : a.tmps[20]?.getD undef = .agg #[.int .i64 6, .int .i64 fd, .int .i64 fo, .int .i64 fa, .int .i64 fb, .int .i64 fc, .int .u64 fv, .int .i64 ft] := hP 1 20 (by kernel_rfl) (by kernel_rfl)
      go_simp
      go_at_call 11
      refine (PS wr).mono ?_
      rintro ed w5 ⟨rfl, hb5⟩
      go_simp
      exact hK _ _ hb5 fun _ => rfl
    | 3 =>
      simp only [List.getElem?_toArray, List.getElem?_cons_zero, List.getElem?_cons_succ, Option.some.injEq] at hop
      subst hop
      have n0 : a.tmps[19]?.getD undef = .bool false := hP 0 19 (by kernel_rfl) (by kernel_rfl)
      have n2 : a.tmps[21]?.getD undef = .bool false := hP 2 21 (by kernel_rfl) (by kernel_rfl)
      go_simp
      exact hK _ _ (Below.refl _ _) fun _ => by first | rfl | exact wrap_val (by omega)
    | 4 =>
      simp only [List.getElem?_toArray, List.getElem?_cons_zero, List.getElem?_cons_succ, Option.some.injEq] at hop
      subst hop
      have n3 : a.tmps[22]?.getD undef = .bool true := hP 3 22 (by kernel_rfl) (by kernel_rfl)
      go_simp
      exact hK _ _ (Below.refl _ _) fun _ => by first | rfl | exact wrap_val (by omega)
    | 5 =>
      simp only [List.getElem?_toArray, List.getElem?_cons_zero, List.getElem?_cons_succ, Option.some.injEq] at hop
      subst hop
      go_simp
      exact hK _ _ (Below.refl _ _) fun _ => by first | rfl | exact wrap_val (by omega)
    | 6 =>
      simp only [List.getElem?_toArray, List.getElem?_cons_zero, List.getElem?_cons_succ, Option.some.injEq] at hop
      subst hop
      have n5 : a.tmps[24]?.getD undef = .bool false := hP 5 24 (by kernel_rfl) (by kernel_rfl)
      go_simp
      exact hK _ _ (Below.refl _ _) fun _ => by first | rfl | exact wrap_val (by omega)
    | 7 =>
      simp only [List.getElem?_toArray, List.getElem?_cons_zero, List.getElem?_cons_succ, Option.some.injEq] at hop
      subst hop
      exact absurd (by simp) (hno _ rfl)
    | 8 =>
      simp only [List.getElem?_toArray, List.getElem?_cons_zero, List.getElem?_cons_succ, Option.some.injEq] at hop
      subst hop
      exact absurd (by simp) (hno _ rfl)
    | 9 =>
      simp only [List.getElem?_toArray, List.getElem?_cons_zero, List.getElem?_cons_succ, Option.some.injEq] at hop
      subst hop
      exact absurd (by simp) (hno _ rfl)
    | 10 =>
      simp only [List.getElem?_toArray, List.getElem?_cons_zero, List.getElem?_cons_succ, Option.some.injEq] at hop
      subst hop
      exact absurd (by simp) (hno _ rfl)
    | 11 =>
      simp only [List.getElem?_toArray, List.getElem?_cons_zero, List.getElem?_cons_succ, Option.some.injEq] at hop
      subst hop
      have n6 : a.tmps[25]?.getD undef = .bool false := hP 6 25 (by kernel_rfl) (by kernel_rfl)
      have n10 : a.tmps[29]?.getD undef = undef := hP 10 29 (by kernel_rfl) (by kernel_rfl)
      go_simp
      exact hK _ _ (Below.refl _ _) fun _ => by first | rfl | exact wrap_val (by omega)
    | 12 =>
      simp only [List.getElem?_toArray, List.getElem?_cons_zero, List.getElem?_cons_succ, Option.some.injEq] at hop
      subst hop
      have n11 : a.tmps[30]?.getD undef = .bool false := hP 11 30 (by kernel_rfl) (by kernel_rfl)
      go_simp
      exact hK _ _ (Below.refl _ _) fun _ => by first | rfl | exact wrap_val (by omega)
    | 13 =>
      simp only [List.getElem?_toArray, List.getElem?_cons_zero, List.getElem?_cons_succ, Option.some.injEq] at hop
      subst hop
      go_simp
      exact hK _ _ (Below.refl _ _) fun _ => by first | rfl | exact wrap_val (by omega)
    | 14 =>
      simp only [List.getElem?_toArray, List.getElem?_cons_zero, List.getElem?_cons_succ, Option.some.injEq] at hop
      subst hop
      have n13 : a.tmps[32]?.getD undef = .bool false := hP 13 32 (by kernel_rfl) (by kernel_rfl)
      go_simp
      exact hK _ _ (Below.refl _ _) fun _ => by first | rfl | exact wrap_val (by omega)
    | 15 =>
      simp only [List.getElem?_toArray, List.getElem?_cons_zero, List.getElem?_cons_succ, Option.some.injEq] at hop
      subst hop
      have n14 : a.tmps[33]?.getD undef = .bool true := hP 14 33 (by kernel_rfl) (by kernel_rfl)
      go_simp
      exact hK _ _ (Below.refl _ _) fun _ => by first | rfl | exact wrap_val (by omega)
    | 16 =>
      simp only [List.getElem?_toArray, List.getElem?_cons_zero, List.getElem?_cons_succ, Option.some.injEq] at hop
      subst hop
      go_simp
      exact hK _ _ (Below.refl _ _) fun _ => by first | rfl | exact wrap_val (by omega)
    | 17 =>
      simp only [List.getElem?_toArray, List.getElem?_cons_zero, List.getElem?_cons_succ, Option.some.injEq] at hop
      subst hop
      have n16 : a.tmps[35]?.getD undef = .int .i64 0 := hP 16 35 (by kernel_rfl) (by kernel_rfl)
      go_simp
      exact hK _ _ (Below.refl _ _) fun _ => by first | rfl | exact wrap_val (by omega)
    | 18 =>
      simp only [List.getElem?_toArray, List.getElem?_cons_zero, List.getElem?_cons_succ, Option.some.injEq] at hop
      subst hop
      have n15 : a.tmps[34]?.getD undef = .bool true := hP 15 34 (by kernel_rfl) (by kernel_rfl)
      have n17 : a.tmps[36]?.getD undef = .bool true := hP 17 36 (by kernel_rfl) (by kernel_rfl)
      go_simp
      exact hK _ _ (Below.refl _ _) fun _ => by first | rfl | exact wrap_val (by omega)
    | 19 =>
      simp only [List.getElem?_toArray, List.getElem?_cons_zero, List.getElem?_cons_succ, Option.some.injEq] at hop
      subst hop
      have n12 : a.tmps[31]?.getD undef = .bool false := hP 12 31 (by kernel_rfl) (by kernel_rfl)
      have n18 : a.tmps[37]?.getD undef = .bool true := hP 18 37 (by kernel_rfl) (by kernel_rfl)
      go_simp
      exact hK _ _ (Below.refl _ _) fun _ => by first | rfl | exact wrap_val (by omega)
    | 20 =>
      simp only [List.getElem?_toArray, List.getElem?_cons_zero, List.getElem?_cons_succ, Option.some.injEq] at hop
      subst hop
      have n4 : a.tmps[23]?.getD undef = .bool true := hP 4 23 (by kernel_rfl) (by kernel_rfl)
      have n19 : a.tmps[38]?.getD undef = .bool true := hP 19 38 (by kernel_rfl) (by kernel_rfl)
      go_simp
      exact hK _ _ (Below.refl _ _) fun _ => by first | rfl | exact wrap_val (by omega)
    | 21 =>
      simp only [List.getElem?_toArray, List.getElem?_cons_zero, List.getElem?_cons_succ, Option.some.injEq] at hop
      subst hop
      have n20 : a.tmps[39]?.getD undef = .bool true := hP 20 39 (by kernel_rfl) (by kernel_rfl)
      go_simp
      exact hK _ _ (Below.refl _ _) fun _ => by first | rfl | exact wrap_val (by omega)
    | 22 =>
      simp only [List.getElem?_toArray, List.getElem?_cons_zero, List.getElem?_cons_succ, Option.some.injEq] at hop
      subst hop
      go_simp
      exact hK _ _ (Below.refl _ _) fun _ => by first | rfl | exact wrap_val (by omega)
    | 23 =>
      simp only [List.getElem?_toArray, List.getElem?_cons_zero, List.getElem?_cons_succ, Option.some.injEq] at hop
      subst hop
      have n22 : a.tmps[41]?.getD undef = .agg #[.int .i64 6, .int .i64 fd, .int .i64 fo, .int .i64 fa, .int .i64 fb, .int .i64 fc, .int .u64 fv, .int .i64 ft] := hP 22 41 (by kernel_rfl) (by kernel_rfl)
      go_simp
      go_at_call 13
      refine (PU wr).mono ?_
      rintro ed w5 ⟨v5, rfl, ho5, hb5⟩
      go_simp
      exact hK _ _ hb5 fun _ => ho5.base (Nat.le_trans hW1 hb.size)
    | 24 =>
      simp only [List.getElem?_toArray, List.getElem?_cons_zero, List.getElem?_cons_succ, Option.some.injEq] at hop
      subst hop
      go_simp
      exact hK _ _ (Below.refl _ _) fun _ => by first | rfl | exact wrap_val (by omega)
    | 25 =>
      simp only [List.getElem?_toArray, List.getElem?_cons_zero, List.getElem?_cons_succ, Option.some.injEq] at hop
      subst hop
      have n24 : a.tmps[43]?.getD undef = .agg #[.int .i64 6, .int .i64 fd, .int .i64 fo, .int .i64 fa, .int .i64 fb, .int .i64 fc, .int .u64 fv, .int .i64 ft] := hP 24 43 (by kernel_rfl) (by kernel_rfl)
      go_simp
      go_at_call 14
      refine (PL wr).mono ?_
      rintro ed w5 ⟨v5, rfl, ho5, hb5⟩
      go_simp
      exact hK _ _ hb5 fun _ => ho5.base (Nat.le_trans hW1 hb.size)
    | 26 =>
      simp only [List.getElem?_toArray, List.getElem?_cons_zero, List.getElem?_cons_succ, Option.some.injEq] at hop
      subst hop
      obtain ⟨va, n23, ha⟩ : ∃ va, a.tmps[42]?.getD undef = va ∧ Own wr W0 va U := ⟨_, rfl, (hP 23 42 (by kernel_rfl) (by kernel_rfl))⟩
      obtain ⟨vb, n25, hbo⟩ : ∃ vb, a.tmps[44]?.getD undef = vb ∧ Own wr W0 vb U := ⟨_, rfl, (hP 25 44 (by kernel_rfl) (by kernel_rfl))⟩
      go_simp
      go_at_call 12
      refine (same_any U U va vb wr ha.nums hbo.nums).mono ?_
      rintro ed w5 ⟨rfl, hb5⟩
      rw [decide_eq_true (rfl : U = U)]
      go_simp
      exact hK _ _ hb5 fun _ => rfl
    | 27 =>
      simp only [List.getElem?_toArray, List.getElem?_cons_zero, List.getElem?_cons_succ, Option.some.injEq] at hop
      subst hop
      have n21 : a.tmps[40]?.getD undef = .bool true := hP 21 40 (by kernel_rfl) (by kernel_rfl)
      have n26 : a.tmps[45]?.getD undef = .bool true := hP 26 45 (by kernel_rfl) (by kernel_rfl)
      go_simp
      exact hK _ _ (Below.refl _ _) fun _ => by first | rfl | exact wrap_val (by omega)
    | 28 =>
      simp only [List.getElem?_toArray, List.getElem?_cons_zero, List.getElem?_cons_succ, Option.some.injEq] at hop
      subst hop
      have n27 : a.tmps[46]?.getD undef = .bool true := hP 27 46 (by kernel_rfl) (by kernel_rfl)
      go_simp
      exact hK _ _ (Below.refl _ _) fun _ => by first | rfl | exact wrap_val (by omega)
    | 29 =>
      simp only [List.getElem?_toArray, List.getElem?_cons_zero, List.getElem?_cons_succ, Option.some.injEq] at hop
      subst hop
      go_simp
      exact hK _ _ (Below.refl _ _) fun _ => by first | rfl | exact wrap_val (by omega)
    | 30 =>
      simp only [List.getElem?_toArray, List.getElem?_cons_zero, List.getElem?_cons_succ, Option.some.injEq] at hop
      subst hop
      go_simp
      exact hK _ _ (Below.refl _ _) fun _ => by first | rfl | exact wrap_val (by omega)
    | 31 =>
      simp only [List.getElem?_toArray, List.getElem?_cons_zero, List.getElem?_cons_succ, Option.some.injEq] at hop
      subst hop
      have n30 : a.tmps[49]?.getD undef = .pointer (some ⟨w.heap.size, 0, none⟩) := hP 30 49 (by kernel_rfl) (by kernel_rfl)
      go_simp
      exact hK _ _ (Below.refl _ _) fun _ => by first | rfl | exact wrap_val (by omega)
    | 32 =>
      simp only [List.getElem?_toArray, List.getElem?_cons_zero, List.getElem?_cons_succ, Option.some.injEq] at hop
      subst hop
      have n31 : a.tmps[50]?.getD undef = .int .i64 6 := hP 31 50 (by kernel_rfl) (by kernel_rfl)
      go_simp
      exact hK _ _ (Below.refl _ _) fun _ => by first | rfl | exact wrap_val (by omega)
    | 33 =>
      simp only [List.getElem?_toArray, List.getElem?_cons_zero, List.getElem?_cons_succ, Option.some.injEq] at hop
      subst hop
      have n32 : a.tmps[51]?.getD undef = .bool true := hP 32 51 (by kernel_rfl) (by kernel_rfl)
      go_simp
      exact hK _ _ (Below.refl _ _) fun _ => by first | rfl | exact wrap_val (by omega)
    | 34 =>
      simp only [List.getElem?_toArray, List.getElem?_cons_zero, List.getElem?_cons_succ, Option.some.injEq] at hop
      subst hop
      exact absurd (by simp) (hno _ rfl)
    | 35 =>
      simp only [List.getElem?_toArray, List.getElem?_cons_zero, List.getElem?_cons_succ, Option.some.injEq] at hop
      subst hop
      exact absurd (by simp) (hno _ rfl)
    | 36 =>
      simp only [List.getElem?_toArray, List.getElem?_cons_zero, List.getElem?_cons_succ, Option.some.injEq] at hop
      subst hop
      exact absurd (by simp) (hno _ rfl)
    | 37 =>
      simp only [List.getElem?_toArray, List.getElem?_cons_zero, List.getElem?_cons_succ, Option.some.injEq] at hop
      subst hop
      have n33 : a.tmps[52]?.getD undef = .bool true := hP 33 52 (by kernel_rfl) (by kernel_rfl)
      have n36 : a.tmps[55]?.getD undef = undef := hP 36 55 (by kernel_rfl) (by kernel_rfl)
      go_simp
      exact hK _ _ (Below.refl _ _) fun _ => by first | rfl | exact wrap_val (by omega)
    | 38 =>
      simp only [List.getElem?_toArray, List.getElem?_cons_zero, List.getElem?_cons_succ, Option.some.injEq] at hop
      subst hop
      have n29 : a.tmps[48]?.getD undef = .bool true := hP 29 48 (by kernel_rfl) (by kernel_rfl)
      have n37 : a.tmps[56]?.getD undef = .bool true := hP 37 56 (by kernel_rfl) (by kernel_rfl)
      go_simp
      exact hK _ _ (Below.refl _ _) fun _ => by first | rfl | exact wrap_val (by omega)
    | 39 =>
      simp only [List.getElem?_toArray, List.getElem?_cons_zero, List.getElem?_cons_succ, Option.some.injEq] at hop
      subst hop
      have n28 : a.tmps[47]?.getD undef = .bool true := hP 28 47 (by kernel_rfl) (by kernel_rfl)
      have n38 : a.tmps[57]?.getD undef = .bool true := hP 38 57 (by kernel_rfl) (by kernel_rfl)
      go_simp
      exact hK _ _ (Below.refl _ _) fun _ => by first | rfl | exact wrap_val (by omega)
    | 40 =>
      simp only [List.getElem?_toArray, List.getElem?_cons_zero, List.getElem?_cons_succ, Option.some.injEq] at hop
      subst hop
      have n39 : a.tmps[58]?.getD undef = .bool true := hP 39 58 (by kernel_rfl) (by kernel_rfl)
      go_simp
      exact hK _ _ (Below.refl _ _) fun _ => by first | rfl | exact wrap_val (by omega)
    | 41 =>
      simp only [List.getElem?_toArray, List.getElem?_cons_zero, List.getElem?_cons_succ, Option.some.injEq] at hop
      subst hop
      go_simp
      exact hK _ _ (Below.refl _ _) fun _ => by first | rfl | exact wrap_val (by omega)
    | 42 =>
      simp only [List.getElem?_toArray, List.getElem?_cons_zero, List.getElem?_cons_succ, Option.some.injEq] at hop
      subst hop
      go_simp
      exact hK _ _ (Below.refl _ _) fun _ => by first | rfl | exact wrap_val (by omega)
    | 43 =>
      simp only [List.getElem?_toArray, List.getElem?_cons_zero, List.getElem?_cons_succ, Option.some.injEq] at hop
      subst hop
      have n42 : a.tmps[61]?.getD undef = .pointer (some ⟨w.heap.size, 0, none⟩) := hP 42 61 (by kernel_rfl) (by kernel_rfl)
      go_simp
      exact hK _ _ (Below.refl _ _) fun _ => by first | rfl | exact wrap_val (by omega)
    | 44 =>
      simp only [List.getElem?_toArray, List.getElem?_cons_zero, List.getElem?_cons_succ, Option.some.injEq] at hop
      subst hop
      have n43 : a.tmps[62]?.getD undef = .int .i64 6 := hP 43 62 (by kernel_rfl) (by kernel_rfl)
      go_simp
      exact hK _ _ (Below.refl _ _) fun _ => by first | rfl | exact wrap_val (by omega)
    | 45 =>
      simp only [List.getElem?_toArray, List.getElem?_cons_zero, List.getElem?_cons_succ, Option.some.injEq] at hop
      subst hop
      have n44 : a.tmps[63]?.getD undef = .bool false := hP 44 63 (by kernel_rfl) (by kernel_rfl)
      go_simp
      exact hK _ _ (Below.refl _ _) fun _ => by first | rfl | exact wrap_val (by omega)
    | 46 =>
      simp only [List.getElem?_toArray, List.getElem?_cons_zero, List.getElem?_cons_succ, Option.some.injEq] at hop
      subst hop
      exact absurd (by simp) (hno _ rfl)
    | 47 =>
      simp only [List.getElem?_toArray, List.getElem?_cons_zero, List.getElem?_cons_succ, Option.some.injEq] at hop
      subst hop
      exact absurd (by simp) (hno _ rfl)
    | 48 =>
      simp only [List.getElem?_toArray, List.getElem?_cons_zero, List.getElem?_cons_succ, Option.some.injEq] at hop
      subst hop
      exact absurd (by simp) (hno _ rfl)
    | 49 =>
      simp only [List.getElem?_toArray, List.getElem?_cons_zero, List.getElem?_cons_succ, Option.some.injEq] at hop
      subst hop
      have n45 : a.tmps[64]?.getD undef = .bool false := hP 45 64 (by kernel_rfl) (by kernel_rfl)
      have n48 : a.tmps[67]?.getD undef = undef := hP 48 67 (by kernel_rfl) (by kernel_rfl)
      go_simp
      exact hK _ _ (Below.refl _ _) fun _ => by first | rfl | exact wrap_val (by omega)
    | 50 =>
      simp only [List.getElem?_toArray, List.getElem?_cons_zero, List.getElem?_cons_succ, Option.some.injEq] at hop
      subst hop
      have n41 : a.tmps[60]?.getD undef = .bool false := hP 41 60 (by kernel_rfl) (by kernel_rfl)
      have n49 : a.tmps[68]?.getD undef = .bool false := hP 49 68 (by kernel_rfl) (by kernel_rfl)
      go_simp
      exact hK _ _ (Below.refl _ _) fun _ => by first | rfl | exact wrap_val (by omega)
    | 51 =>
      simp only [List.getElem?_toArray, List.getElem?_cons_zero, List.getElem?_cons_succ, Option.some.injEq] at hop
      subst hop
      have n40 : a.tmps[59]?.getD undef = .bool true := hP 40 59 (by kernel_rfl) (by kernel_rfl)
      have n50 : a.tmps[69]?.getD undef = .bool true := hP 50 69 (by kernel_rfl) (by kernel_rfl)
      go_simp
      exact hK _ _ (Below.refl _ _) fun _ => by first | rfl | exact wrap_val (by omega)
    | 52 =>
      simp only [List.getElem?_toArray, List.getElem?_cons_zero, List.getElem?_cons_succ, Option.some.injEq] at hop
      subst hop
      have n51 : a.tmps[70]?.getD undef = .bool true := hP 51 70 (by kernel_rfl) (by kernel_rfl)
      go_simp
      exact hK _ _ (Below.refl _ _) fun _ => by first | rfl | exact wrap_val (by omega)
    | _ + 53 => simp at hop
  · intro V wz hbz hR
    have e52 : V 52 = .bool true := hR 52 (by kernel_rfl)
    clear hR
    refine at_all (prs [19, 20, 21, 22, 23, 24, 25, 26, 27, 28, 29, 30, 31, 32, 33, 34, 35, 36, 37, 38, 39, 40, 41, 42, 43, 44, 45, 46, 47, 48, 49, 50, 51, 52, 53, 54, 55, 56, 57, 58, 59, 60, 61, 62, 63, 64, 65, 66, 67, 68, 69, 70, 2] V) (fun t => by kernel_rfl) ?_
    simp only [prs, List.zipIdx, List.map, List.foldl, Nat.zero_add, Nat.reduceAdd, List.setIfInBounds_toArray, List.set_cons_zero, List.set_cons_succ, e52]
    go_wp2
    go_ret
    exact ⟨rfl, (hbx.trans h13).trans (hbz.mono (Nat.le_trans hbx.size h13.size))⟩

set_option maxHeartbeats 4000000 in
set_option maxRecDepth 100000 in
theorem uses_7 (fd fo fa fb fc fv ft : Int) (w : World) (hV : Vars w.heap.size w) :
    Calls Tryd.prog 3 #[.agg #[.int .i64 7, .int .i64 fd, .int .i64 fo, .int .i64 fa, .int .i64 fb, .int .i64 fc, .int .u64 fv, .int .i64 ft]] w fun e w' => e = .returned (.bool true) ∧ Below w.heap.size w w' := by
  have hbx := (Below.refl w.heap.size w).alloc (Nat.le_refl _) (.cells #[.int .i64 7, .int .i64 fd, .int .i64 fo, .int .i64 fa, .int .i64 fb, .int .i64 fc, .int .u64 fv, .int .i64 ft] 26)
  have HB := Lib.hid (show (w.alloc (.cells #[.int .i64 7, .int .i64 fd, .int .i64 fo, .int .i64 fa, .int .i64 fb, .int .i64 fc, .int .u64 fv, .int .i64 ft] 26)).heap[w.heap.size]? = some (.cells #[.int .i64 7, .int .i64 fd, .int .i64 fo, .int .i64 fa, .int .i64 fb, .int .i64 fc, .int .u64 fv, .int .i64 ft] 26 (0, 0)) by rw [alloc_at, if_pos rfl])
  have PA := fun w1 (hb1 : Below w.heap.size w w1) => awake_any w1 ((hV.on hb1).mono hb1.size)
  have PS := fun w1 => sets_any ⟨7, fd, fo, fa, fb, fc, fv, ft⟩ w1
  have PD := fun w1 => defines_any ⟨7, fd, fo, fa, fb, fc, fv, ft⟩ w1
  have PJ := fun w1 => jumps_any ⟨7, fd, fo, fa, fb, fc, fv, ft⟩ w1
  have PU := fun w1 => uses_any ⟨7, fd, fo, fa, fb, fc, fv, ft⟩ w1
  have PL := fun w1 => luses_any ⟨7, fd, fo, fa, fb, fc, fv, ft⟩ w1
  obtain ⟨U, hU⟩ : ∃ U, U = usesP ⟨7, fd, fo, fa, fb, fc, fv, ft⟩ := ⟨_, rfl⟩
  rw [← hU] at PU PL
  clear hU
  have hD : setsB 7 = false := by rfl
  have hJ : jumpsB 7 = true := by rfl
  have hG : goesB 7 = true := by rfl
  simp only [hD] at PS
  simp only [hD, if_true, if_false, Bool.false_eq_true] at PD
  simp only [hJ, hG] at PJ
  clear hD hJ hG
  obtain ⟨W0, hW0⟩ : ∃ W0, W0 = w.heap.size := ⟨_, rfl⟩
  go_enter Tryd.func3, Tryd.ntmps3
  go_wp2_with (first
    | (go_at_call 8; refine (PA _ hbx).mono ?_; rintro ed w1 ⟨rfl, hb1⟩; obtain ⟨x0, x1, x2, x3, x4, x5, x6, x7⟩ := code_cells (keepB hb1 HB.out))
    | (go_at_call 9; refine (PD _).mono ?_; rintro ed w2 ⟨rfl, hb2⟩; have h12 := hb1.trans (hb2.mono hb1.size); obtain ⟨x0, x1, x2, x3, x4, x5, x6, x7⟩ := code_cells (keepB h12 HB.out))
    | (go_at_call 10; refine (PJ _).mono ?_; rintro ed w3 ⟨rfl, hb3⟩; have h13z := h12.trans (hb3.mono h12.size)))
  have HB3 := Lib.hid (keepB h13z HB.out)
  have h13 := h13z.mono (show w.heap.size ≤ (w.alloc (.cells #[.int .i64 7, .int .i64 fd, .int .i64 fo, .int .i64 fa, .int .i64 fb, .int .i64 fc, .int .u64 fv, .int .i64 ft] 26)).heap.size by simp)
  have hW1 : W0 ≤ w3.heap.size := by rw [hW0]; exact Nat.le_trans hbx.size h13.size
  refine wp_region_mono3 (by kernel_rfl) (by kernel_rfl) (by kernel_rfl) (by kernel_rfl) (by kernel_rfl) (fun (i : Nat) (v : Value) (wv : World) => match i with | 0 => v = .bool false | 1 => v = .agg #[.int .i64 7, .int .i64 fd, .int .i64 fo, .int .i64 fa, .int .i64 fb, .int .i64 fc, .int .u64 fv, .int .i64 ft] | 2 => v = .bool false | 3 => v = .bool true | 4 => v = .bool true | 5 => v = .bool false | 6 => v = .bool false | 7 => True | 8 => True | 9 => True | 10 => v = undef | 11 => v = .bool false | 12 => v = .bool false | 13 => v = .bool false | 14 => v = .bool true | 15 => v = .bool true | 16 => v = .int .i64 0 | 17 => v = .bool true | 18 => v = .bool true | 19 => v = .bool true | 20 => v = .bool true | 21 => v = .bool true | 22 => v = .agg #[.int .i64 7, .int .i64 fd, .int .i64 fo, .int .i64 fa, .int .i64 fb, .int .i64 fc, .int .u64 fv, .int .i64 ft] | 23 => Own wv W0 v U | 24 => v = .agg #[.int .i64 7, .int .i64 fd, .int .i64 fo, .int .i64 fa, .int .i64 fb, .int .i64 fc, .int .u64 fv, .int .i64 ft] | 25 => Own wv W0 v U | 26 => v = .bool true | 27 => v = .bool true | 28 => v = .bool true | 29 => v = .bool true | 30 => v = .pointer (some ⟨w.heap.size, 0, none⟩) | 31 => v = .int .i64 7 | 32 => v = .bool false | 33 => v = .bool false | 34 => v = .pointer (some ⟨w.heap.size, 0, none⟩) | 35 => v = .int .i64 7 | 36 => v = .bool true | 37 => v = .bool true | 38 => v = .bool true | 39 => v = .bool true | 40 => v = .bool true | 41 => v = .bool true | 42 => v = .pointer (some ⟨w.heap.size, 0, none⟩) | 43 => v = .int .i64 7 | 44 => v = .bool true | 45 => v = .bool true | 46 => v = .pointer (some ⟨w.heap.size, 0, none⟩) | 47 => v = .int .i64 7 | 48 => v = .bool true | 49 => v = .bool true | 50 => v = .bool true | 51 => v = .bool true | 52 => v = .bool true | _ => True) ?_ [(4, true), (12, false), (15, true), (21, true), (28, true), (33, false), (40, true), (45, true)] [(6, true)] (by kernel_rfl) ?_ ?_ ?_ ?_ ?_
  · intro i v w w' hb h
    match i with
    | 0 => exact h
    | 1 => exact h
    | 2 => exact h
    | 3 => exact h
    | 4 => exact h
    | 5 => exact h
    | 6 => exact h
    | 7 => exact h
    | 8 => exact h
    | 9 => exact h
    | 10 => exact h
    | 11 => exact h
    | 12 => exact h
    | 13 => exact h
    | 14 => exact h
    | 15 => exact h
    | 16 => exact h
    | 17 => exact h
    | 18 => exact h
    | 19 => exact h
    | 20 => exact h
    | 21 => exact h
    | 22 => exact h
    | 23 => exact Own.on h hb
    | 24 => exact h
    | 25 => exact Own.on h hb
    | 26 => exact h
    | 27 => exact h
    | 28 => exact h
    | 29 => exact h
    | 30 => exact h
    | 31 => exact h
    | 32 => exact h
    | 33 => exact h
    | 34 => exact h
    | 35 => exact h
    | 36 => exact h
    | 37 => exact h
    | 38 => exact h
    | 39 => exact h
    | 40 => exact h
    | 41 => exact h
    | 42 => exact h
    | 43 => exact h
    | 44 => exact h
    | 45 => exact h
    | 46 => exact h
    | 47 => exact h
    | 48 => exact h
    | 49 => exact h
    | 50 => exact h
    | 51 => exact h
    | 52 => exact h
    | _ + 53 => trivial
  · intro p hp v w h
    simp only [List.mem_cons, List.not_mem_nil, or_false] at hp
    rcases hp with rfl | rfl | rfl | rfl | rfl | rfl | rfl | rfl
    · exact h
    · exact h
    · exact h
    · exact h
    · exact h
    · exact h
    · exact h
    · exact h
  · intro p hp v w h
    simp only [List.mem_cons, List.not_mem_nil, or_false] at hp
    subst hp
    first | exact .inl h | exact .inr h
  · intro i o p ho hg hp w
    match i with
    | 0 => simp only [List.getElem?_toArray, List.getElem?_cons_zero, List.getElem?_cons_succ, Option.some.injEq] at ho; subst ho; first | (cases hg; done) | (cases hg; simp at hp; done)
    | 1 => simp only [List.getElem?_toArray, List.getElem?_cons_zero, List.getElem?_cons_succ, Option.some.injEq] at ho; subst ho; first | (cases hg; done) | (cases hg; simp at hp; done)
    | 2 => simp only [List.getElem?_toArray, List.getElem?_cons_zero, List.getElem?_cons_succ, Option.some.injEq] at ho; subst ho; first | (cases hg; done) | (cases hg; simp at hp; done)
    | 3 => simp only [List.getElem?_toArray, List.getElem?_cons_zero, List.getElem?_cons_succ, Option.some.injEq] at ho; subst ho; first | (cases hg; done) | (cases hg; simp at hp; done)
    | 4 => simp only [List.getElem?_toArray, List.getElem?_cons_zero, List.getElem?_cons_succ, Option.some.injEq] at ho; subst ho; first | (cases hg; done) | (cases hg; simp at hp; done)
    | 5 => simp only [List.getElem?_toArray, List.getElem?_cons_zero, List.getElem?_cons_succ, Option.some.injEq] at ho; subst ho; first | (cases hg; done) | (cases hg; simp at hp; done)
    | 6 => simp only [List.getElem?_toArray, List.getElem?_cons_zero, List.getElem?_cons_succ, Option.some.injEq] at ho; subst ho; first | (cases hg; done) | (cases hg; simp at hp; done)
    | 7 => exact trivial
    | 8 => exact trivial
    | 9 => exact trivial
    | 10 => exact rfl
    | 11 => simp only [List.getElem?_toArray, List.getElem?_cons_zero, List.getElem?_cons_succ, Option.some.injEq] at ho; subst ho; first | (cases hg; done) | (cases hg; simp at hp; done)
    | 12 => simp only [List.getElem?_toArray, List.getElem?_cons_zero, List.getElem?_cons_succ, Option.some.injEq] at ho; subst ho; first | (cases hg; done) | (cases hg; simp at hp; done)
    | 13 => simp only [List.getElem?_toArray, List.getElem?_cons_zero, List.getElem?_cons_succ, Option.some.injEq] at ho; subst ho; first | (cases hg; done) | (cases hg; simp at hp; done)
    | 14 => simp only [List.getElem?_toArray, List.getElem?_cons_zero, List.getElem?_cons_succ, Option.some.injEq] at ho; subst ho; first | (cases hg; done) | (cases hg; simp at hp; done)
    | 15 => simp only [List.getElem?_toArray, List.getElem?_cons_zero, List.getElem?_cons_succ, Option.some.injEq] at ho; subst ho; first | (cases hg; done) | (cases hg; simp at hp; done)
    | 16 => simp only [List.getElem?_toArray, List.getElem?_cons_zero, List.getElem?_cons_succ, Option.some.injEq] at ho; subst ho; first | (cases hg; done) | (cases hg; simp at hp; done)
    | 17 => simp only [List.getElem?_toArray, List.getElem?_cons_zero, List.getElem?_cons_succ, Option.some.injEq] at ho; subst ho; first | (cases hg; done) | (cases hg; simp at hp; done)
    | 18 => simp only [List.getElem?_toArray, List.getElem?_cons_zero, List.getElem?_cons_succ, Option.some.injEq] at ho; subst ho; first | (cases hg; done) | (cases hg; simp at hp; done)
    | 19 => simp only [List.getElem?_toArray, List.getElem?_cons_zero, List.getElem?_cons_succ, Option.some.injEq] at ho; subst ho; first | (cases hg; done) | (cases hg; simp at hp; done)
    | 20 => simp only [List.getElem?_toArray, List.getElem?_cons_zero, List.getElem?_cons_succ, Option.some.injEq] at ho; subst ho; first | (cases hg; done) | (cases hg; simp at hp; done)
    | 21 => simp only [List.getElem?_toArray, List.getElem?_cons_zero, List.getElem?_cons_succ, Option.some.injEq] at ho; subst ho; first | (cases hg; done) | (cases hg; simp at hp; done)
    | 22 => simp only [List.getElem?_toArray, List.getElem?_cons_zero, List.getElem?_cons_succ, Option.some.injEq] at ho; subst ho; first | (cases hg; done) | (cases hg; simp at hp; done)
    | 23 => simp only [List.getElem?_toArray, List.getElem?_cons_zero, List.getElem?_cons_succ, Option.some.injEq] at ho; subst ho; first | (cases hg; done) | (cases hg; simp at hp; done)
    | 24 => simp only [List.getElem?_toArray, List.getElem?_cons_zero, List.getElem?_cons_succ, Option.some.injEq] at ho; subst ho; first | (cases hg; done) | (cases hg; simp at hp; done)
    | 25 => simp only [List.getElem?_toArray, List.getElem?_cons_zero, List.getElem?_cons_succ, Option.some.injEq] at ho; subst ho; first | (cases hg; done) | (cases hg; simp at hp; done)
    | 26 => simp only [List.getElem?_toArray, List.getElem?_cons_zero, List.getElem?_cons_succ, Option.some.injEq] at ho; subst ho; first | (cases hg; done) | (cases hg; simp at hp; done)
    | 27 => simp only [List.getElem?_toArray, List.getElem?_cons_zero, List.getElem?_cons_succ, Option.some.injEq] at ho; subst ho; first | (cases hg; done) | (cases hg; simp at hp; done)
    | 28 => simp only [List.getElem?_toArray, List.getElem?_cons_zero, List.getElem?_cons_succ, Option.some.injEq] at ho; subst ho; first | (cases hg; done) | (cases hg; simp at hp; done)
    | 29 => simp only [List.getElem?_toArray, List.getElem?_cons_zero, List.getElem?_cons_succ, Option.some.injEq] at ho; subst ho; first | (cases hg; done) | (cases hg; simp at hp; done)
    | 30 => simp only [List.getElem?_toArray, List.getElem?_cons_zero, List.getElem?_cons_succ, Option.some.injEq] at ho; subst ho; first | (cases hg; done) | (cases hg; simp at hp; done)
    | 31 => simp only [List.getElem?_toArray, List.getElem?_cons_zero, List.getElem?_cons_succ, Option.some.injEq] at ho; subst ho; first | (cases hg; done) | (cases hg; simp at hp; done)
    | 32 => simp only [List.getElem?_toArray, List.getElem?_cons_zero, List.getElem?_cons_succ, Option.some.injEq] at ho; subst ho; first | (cases hg; done) | (cases hg; simp at hp; done)
    | 33 => simp only [List.getElem?_toArray, List.getElem?_cons_zero, List.getElem?_cons_succ, Option.some.injEq] at ho; subst ho; first | (cases hg; done) | (cases hg; simp at hp; done)
    | 34 => simp only [List.getElem?_toArray, List.getElem?_cons_zero, List.getElem?_cons_succ, Option.some.injEq] at ho; subst ho; first | (cases hg; done) | (cases hg; simp at hp; done)
    | 35 => simp only [List.getElem?_toArray, List.getElem?_cons_zero, List.getElem?_cons_succ, Option.some.injEq] at ho; subst ho; first | (cases hg; done) | (cases hg; simp at hp; done)
    | 36 => simp only [List.getElem?_toArray, List.getElem?_cons_zero, List.getElem?_cons_succ, Option.some.injEq] at ho; subst ho; first | (cases hg; done) | (cases hg; simp at hp; done)
    | 37 => simp only [List.getElem?_toArray, List.getElem?_cons_zero, List.getElem?_cons_succ, Option.some.injEq] at ho; subst ho; first | (cases hg; done) | (cases hg; simp at hp; done)
    | 38 => simp only [List.getElem?_toArray, List.getElem?_cons_zero, List.getElem?_cons_succ, Option.some.injEq] at ho; subst ho; first | (cases hg; done) | (cases hg; simp at hp; done)
    | 39 => simp only [List.getElem?_toArray, List.getElem?_cons_zero, List.getElem?_cons_succ, Option.some.injEq] at ho; subst ho; first | (cases hg; done) | (cases hg; simp at hp; done)
    | 40 => simp only [List.getElem?_toArray, List.getElem?_cons_zero, List.getElem?_cons_succ, Option.some.injEq] at ho; subst ho; first | (cases hg; done) | (cases hg; simp at hp; done)
    | 41 => simp only [List.getElem?_toArray, List.getElem?_cons_zero, List.getElem?_cons_succ, Option.some.injEq] at ho; subst ho; first | (cases hg; done) | (cases hg; simp at hp; done)
    | 42 => simp only [List.getElem?_toArray, List.getElem?_cons_zero, List.getElem?_cons_succ, Option.some.injEq] at ho; subst ho; first | (cases hg; done) | (cases hg; simp at hp; done)
    | 43 => simp only [List.getElem?_toArray, List.getElem?_cons_zero, List.getElem?_cons_succ, Option.some.injEq] at ho; subst ho; first | (cases hg; done) | (cases hg; simp at hp; done)
    | 44 => simp only [List.getElem?_toArray, List.getElem?_cons_zero, List.getElem?_cons_succ, Option.some.injEq] at ho; subst ho; first | (cases hg; done) | (cases hg; simp at hp; done)
    | 45 => simp only [List.getElem?_toArray, List.getElem?_cons_zero, List.getElem?_cons_succ, Option.some.injEq] at ho; subst ho; first | (cases hg; done) | (cases hg; simp at hp; done)
    | 46 => simp only [List.getElem?_toArray, List.getElem?_cons_zero, List.getElem?_cons_succ, Option.some.injEq] at ho; subst ho; first | (cases hg; done) | (cases hg; simp at hp; done)
    | 47 => simp only [List.getElem?_toArray, List.getElem?_cons_zero, List.getElem?_cons_succ, Option.some.injEq] at ho; subst ho; first | (cases hg; done) | (cases hg; simp at hp; done)
    | 48 => simp only [List.getElem?_toArray, List.getElem?_cons_zero, List.getElem?_cons_succ, Option.some.injEq] at ho; subst ho; first | (cases hg; done) | (cases hg; simp at hp; done)
    | 49 => simp only [List.getElem?_toArray, List.getElem?_cons_zero, List.getElem?_cons_succ, Option.some.injEq] at ho; subst ho; first | (cases hg; done) | (cases hg; simp at hp; done)
    | 50 => simp only [List.getElem?_toArray, List.getElem?_cons_zero, List.getElem?_cons_succ, Option.some.injEq] at ho; subst ho; first | (cases hg; done) | (cases hg; simp at hp; done)
    | 51 => simp only [List.getElem?_toArray, List.getElem?_cons_zero, List.getElem?_cons_succ, Option.some.injEq] at ho; subst ho; first | (cases hg; done) | (cases hg; simp at hp; done)
    | 52 => simp only [List.getElem?_toArray, List.getElem?_cons_zero, List.getElem?_cons_succ, Option.some.injEq] at ho; subst ho; first | (cases hg; done) | (cases hg; simp at hp; done)
    | _ + 53 => exact trivial
  · intro a wr i op hop hno hb hF hP K hK
    have s1 : a.tmps[1]?.getD undef = .pointer (some ⟨w.heap.size, 0, none⟩) := (hF 1 (by kernel_rfl)).trans rfl
    have s3 : a.tmps[3]?.getD undef = .int .i64 0 := (hF 3 (by kernel_rfl)).trans rfl
    have s4 : a.tmps[4]?.getD undef = .bool false := (hF 4 (by kernel_rfl)).trans rfl
    have s5 : a.tmps[5]?.getD undef = .bool true := (hF 5 (by kernel_rfl)).trans rfl
    have s6 : a.tmps[6]?.getD undef = .bool true := (hF 6 (by kernel_rfl)).trans rfl
    obtain ⟨x0, x1, x2, x3, x4, x5, x6, x7⟩ := code_cells (keepB hb HB3.out)
    match i with
    | 0 =>
      simp only [List.getElem?_toArray, List.getElem?_cons_zero, List.getElem?_cons_succ, Option.some.injEq] at hop
      subst hop
      go_simp
      exact hK _ _ (Below.refl _ _) fun _ => by first | rfl | exact wrap_val (by omega)
    | 1 =>
      simp only [List.getElem?_toArray, List.getElem?_cons_zero, List.getElem?_cons_succ, Option.some.injEq] at hop
      subst hop
      go_simp
      exact hK _ _ (Below.refl _ _) fun _ => by first | rfl | exact wrap_val (by omega)
    | 2 =>
      simp only [List.getElem?_toArray, List.getElem?_cons_zero, List.getElem?_cons_succ, Option.some.injEq] at hop
      subst hop
      have n1 : a.tmps[20]?.getD undef = .agg #[.int .i64 7, .int .i64 fd, .int .i64 fo, .int .i64 fa, .int .i64 fb, .int .i64 fc, .int .u64 fv, .int .i64 ft] := hP 1 20 (by kernel_rfl) (by kernel_rfl)
      go_simp
      go_at_call 11
      refine (PS wr).mono ?_
      rintro ed w5 ⟨rfl, hb5⟩
      go_simp
      exact hK _ _ hb5 fun _ => rfl
    | 3 =>
      simp only [List.getElem?_toArray, List.getElem?_cons_zero, List.getElem?_cons_succ, Option.some.injEq] at hop
      subst hop
      have n0 : a.tmps[19]?.getD undef = .bool false := hP 0 19 (by kernel_rfl) (by kernel_rfl)
      have n2 : a.tmps[21]?.getD undef = .bool false := hP 2 21 (by kernel_rfl) (by kernel_rfl)
      go_simp
      exact hK _ _ (Below.refl _ _) fun _ => by first | rfl | exact wrap_val (by omega)
    | 4 =>
      simp only [List.getElem?_toArray, List.getElem?_cons_zero, List.getElem?_cons_succ, Option.some.injEq] at hop
      subst hop
      have n3 : a.tmps[22]?.getD undef = .bool true := hP 3 22 (by kernel_rfl) (by kernel_rfl)
      go_simp
      exact hK _ _ (Below.refl _ _) fun _ => by first | rfl | exact wrap_val (by omega)
    | 5 =>
      simp only [List.getElem?_toArray, List.getElem?_cons_zero, List.getElem?_cons_succ, Option.some.injEq] at hop
      subst hop
      go_simp
      exact hK _ _ (Below.refl _ _) fun _ => by first | rfl | exact wrap_val (by omega)
    | 6 =>
      simp only [List.getElem?_toArray, List.getElem?_cons_zero, List.getElem?_cons_succ, Option.some.injEq] at hop
      subst hop
      have n5 : a.tmps[24]?.getD undef = .bool false := hP 5 24 (by kernel_rfl) (by kernel_rfl)
      go_simp
      exact hK _ _ (Below.refl _ _) fun _ => by first | rfl | exact wrap_val (by omega)
    | 7 =>
      simp only [List.getElem?_toArray, List.getElem?_cons_zero, List.getElem?_cons_succ, Option.some.injEq] at hop
      subst hop
      exact absurd (by simp) (hno _ rfl)
    | 8 =>
      simp only [List.getElem?_toArray, List.getElem?_cons_zero, List.getElem?_cons_succ, Option.some.injEq] at hop
      subst hop
      exact absurd (by simp) (hno _ rfl)
    | 9 =>
      simp only [List.getElem?_toArray, List.getElem?_cons_zero, List.getElem?_cons_succ, Option.some.injEq] at hop
      subst hop
      exact absurd (by simp) (hno _ rfl)
    | 10 =>
      simp only [List.getElem?_toArray, List.getElem?_cons_zero, List.getElem?_cons_succ, Option.some.injEq] at hop
      subst hop
      exact absurd (by simp) (hno _ rfl)
    | 11 =>
      simp only [List.getElem?_toArray, List.getElem?_cons_zero, List.getElem?_cons_succ, Option.some.injEq] at hop
      subst hop
      have n6 : a.tmps[25]?.getD undef = .bool false := hP 6 25 (by kernel_rfl) (by kernel_rfl)
      have n10 : a.tmps[29]?.getD undef = undef := hP 10 29 (by kernel_rfl) (by kernel_rfl)
      go_simp
      exact hK _ _ (Below.refl _ _) fun _ => by first | rfl | exact wrap_val (by omega)
    | 12 =>
      simp only [List.getElem?_toArray, List.getElem?_cons_zero, List.getElem?_cons_succ, Option.some.injEq] at hop
      subst hop
      have n11 : a.tmps[30]?.getD undef = .bool false := hP 11 30 (by kernel_rfl) (by kernel_rfl)
      go_simp
      exact hK _ _ (Below.refl _ _) fun _ => by first | rfl | exact wrap_val (by omega)
    | 13 =>
      simp only [List.getElem?_toArray, List.getElem?_cons_zero, List.getElem?_cons_succ, Option.some.injEq] at hop
      subst hop
      go_simp
      exact hK _ _ (Below.refl _ _) fun _ => by first | rfl | exact wrap_val (by omega)
    | 14 =>
      simp only [List.getElem?_toArray, List.getElem?_cons_zero, List.getElem?_cons_succ, Option.some.injEq] at hop
      subst hop
      have n13 : a.tmps[32]?.getD undef = .bool false := hP 13 32 (by kernel_rfl) (by kernel_rfl)
      go_simp
      exact hK _ _ (Below.refl _ _) fun _ => by first | rfl | exact wrap_val (by omega)
    | 15 =>
      simp only [List.getElem?_toArray, List.getElem?_cons_zero, List.getElem?_cons_succ, Option.some.injEq] at hop
      subst hop
      have n14 : a.tmps[33]?.getD undef = .bool true := hP 14 33 (by kernel_rfl) (by kernel_rfl)
      go_simp
      exact hK _ _ (Below.refl _ _) fun _ => by first | rfl | exact wrap_val (by omega)
    | 16 =>
      simp only [List.getElem?_toArray, List.getElem?_cons_zero, List.getElem?_cons_succ, Option.some.injEq] at hop
      subst hop
      go_simp
      exact hK _ _ (Below.refl _ _) fun _ => by first | rfl | exact wrap_val (by omega)
    | 17 =>
      simp only [List.getElem?_toArray, List.getElem?_cons_zero, List.getElem?_cons_succ, Option.some.injEq] at hop
      subst hop
      have n16 : a.tmps[35]?.getD undef = .int .i64 0 := hP 16 35 (by kernel_rfl) (by kernel_rfl)
      go_simp
      exact hK _ _ (Below.refl _ _) fun _ => by first | rfl | exact wrap_val (by omega)
    | 18 =>
      simp only [List.getElem?_toArray, List.getElem?_cons_zero, List.getElem?_cons_succ, Option.some.injEq] at hop
      subst hop
      have n15 : a.tmps[34]?.getD undef = .bool true := hP 15 34 (by kernel_rfl) (by kernel_rfl)
      have n17 : a.tmps[36]?.getD undef = .bool true := hP 17 36 (by kernel_rfl) (by kernel_rfl)
      go_simp
      exact hK _ _ (Below.refl _ _) fun _ => by first | rfl | exact wrap_val (by omega)
    | 19 =>
      simp only [List.getElem?_toArray, List.getElem?_cons_zero, List.getElem?_cons_succ, Option.some.injEq] at hop
      subst hop
      have n12 : a.tmps[31]?.getD undef = .bool false := hP 12 31 (by kernel_rfl) (by kernel_rfl)
      have n18 : a.tmps[37]?.getD undef = .bool true := hP 18 37 (by kernel_rfl) (by kernel_rfl)
      go_simp
      exact hK _ _ (Below.refl _ _) fun _ => by first | rfl | exact wrap_val (by omega)
    | 20 =>
      simp only [List.getElem?_toArray, List.getElem?_cons_zero, List.getElem?_cons_succ, Option.some.injEq] at hop
      subst hop
      have n4 : a.tmps[23]?.getD undef = .bool true := hP 4 23 (by kernel_rfl) (by kernel_rfl)
      have n19 : a.tmps[38]?.getD undef = .bool true := hP 19 38 (by kernel_rfl) (by kernel_rfl)
      go_simp
      exact hK _ _ (Below.refl _ _) fun _ => by first | rfl | exact wrap_val (by omega)
    | 21 =>
      simp only [List.getElem?_toArray, List.getElem?_cons_zero, List.getElem?_cons_succ, Option.some.injEq] at hop
      subst hop
      have n20 : a.tmps[39]?.getD undef = .bool true := hP 20 39 (by kernel_rfl) (by kernel_rfl)
      go_simp
      exact hK _ _ (Below.refl _ _) fun _ => by first | rfl | exact wrap_val (by omega)
    | 22 =>
      simp only [List.getElem?_toArray, List.getElem?_cons_zero, List.getElem?_cons_succ, Option.some.injEq] at hop
      subst hop
      go_simp
      exact hK _ _ (Below.refl _ _) fun _ => by first | rfl | exact wrap_val (by omega)
    | 23 =>
      simp only [List.getElem?_toArray, List.getElem?_cons_zero, List.getElem?_cons_succ, Option.some.injEq] at hop
      subst hop
      have n22 : a.tmps[41]?.getD undef = .agg #[.int .i64 7, .int .i64 fd, .int .i64 fo, .int .i64 fa, .int .i64 fb, .int .i64 fc, .int .u64 fv, .int .i64 ft] := hP 22 41 (by kernel_rfl) (by kernel_rfl)
      go_simp
      go_at_call 13
      refine (PU wr).mono ?_
      rintro ed w5 ⟨v5, rfl, ho5, hb5⟩
      go_simp
      exact hK _ _ hb5 fun _ => ho5.base (Nat.le_trans hW1 hb.size)
    | 24 =>
      simp only [List.getElem?_toArray, List.getElem?_cons_zero, List.getElem?_cons_succ, Option.some.injEq] at hop
      subst hop
      go_simp
      exact hK _ _ (Below.refl _ _) fun _ => by first | rfl | exact wrap_val (by omega)
    | 25 =>
      simp only [List.getElem?_toArray, List.getElem?_cons_zero, List.getElem?_cons_succ, Option.some.injEq] at hop
      subst hop
      have n24 : a.tmps[43]?.getD undef = .agg #[.int .i64 7, .int .i64 fd, .int .i64 fo, .int .i64 fa, .int .i64 fb, .int .i64 fc, .int .u64 fv, .int .i64 ft] := hP 24 43 (by kernel_rfl) (by kernel_rfl)
      go_simp
      go_at_call 14
      refine (PL wr).mono ?_
      rintro ed w5 ⟨v5, rfl, ho5, hb5⟩
      go_simp
      exact hK _ _ hb5 fun _ => ho5.base (Nat.le_trans hW1 hb.size)
    | 26 =>
      simp only [List.getElem?_toArray, List.getElem?_cons_zero, List.getElem?_cons_succ, Option.some.injEq] at hop
      subst hop
      obtain ⟨va, n23, ha⟩ : ∃ va, a.tmps[42]?.getD undef = va ∧ Own wr W0 va U := ⟨_, rfl, (hP 23 42 (by kernel_rfl) (by kernel_rfl))⟩
      obtain ⟨vb, n25, hbo⟩ : ∃ vb, a.tmps[44]?.getD undef = vb ∧ Own wr W0 vb U := ⟨_, rfl, (hP 25 44 (by kernel_rfl) (by kernel_rfl))⟩
      go_simp
      go_at_call 12
      refine (same_any U U va vb wr ha.nums hbo.nums).mono ?_
      rintro ed w5 ⟨rfl, hb5⟩
      rw [decide_eq_true (rfl : U = U)]
      go_simp
      exact hK _ _ hb5 fun _ => rfl
    | 27 =>
      simp only [List.getElem?_toArray, List.getElem?_cons_zero, List.getElem?_cons_succ, Option.some.injEq] at hop
      subst hop
      have n21 : a.tmps[40]?.getD undef = .bool true := hP 21 40 (by kernel_rfl) (by kernel_rfl)
      have n26 : a.tmps[45]?.getD undef = .bool true := hP 26 45 (by kernel_rfl) (by kernel_rfl)
      go_simp
      exact hK _ _ (Below.refl _ _) fun _ => by first | rfl | exact wrap_val (by omega)
    | 28 =>
      simp only [List.getElem?_toArray, List.getElem?_cons_zero, List.getElem?_cons_succ, Option.some.injEq] at hop
      subst hop
      have n27 : a.tmps[46]?.getD undef = .bool true := hP 27 46 (by kernel_rfl) (by kernel_rfl)
      go_simp
      exact hK _ _ (Below.refl _ _) fun _ => by first | rfl | exact wrap_val (by omega)
    | 29 =>
      simp only [List.getElem?_toArray, List.getElem?_cons_zero, List.getElem?_cons_succ, Option.some.injEq] at hop
      subst hop
      go_simp
      exact hK _ _ (Below.refl _ _) fun _ => by first | rfl | exact wrap_val (by omega)
    | 30 =>
      simp only [List.getElem?_toArray, List.getElem?_cons_zero, List.getElem?_cons_succ, Option.some.injEq] at hop
      subst hop
      go_simp
      exact hK _ _ (Below.refl _ _) fun _ => by first | rfl | exact wrap_val (by omega)
    | 31 =>
      simp only [List.getElem?_toArray, List.getElem?_cons_zero, List.getElem?_cons_succ, Option.some.injEq] at hop
      subst hop
      have n30 : a.tmps[49]?.getD undef = .pointer (some ⟨w.heap.size, 0, none⟩) := hP 30 49 (by kernel_rfl) (by kernel_rfl)
      go_simp
      exact hK _ _ (Below.refl _ _) fun _ => by first | rfl | exact wrap_val (by omega)
    | 32 =>
      simp only [List.getElem?_toArray, List.getElem?_cons_zero, List.getElem?_cons_succ, Option.some.injEq] at hop
      subst hop
      have n31 : a.tmps[50]?.getD undef = .int .i64 7 := hP 31 50 (by kernel_rfl) (by kernel_rfl)
      go_simp
      exact hK _ _ (Below.refl _ _) fun _ => by first | rfl | exact wrap_val (by omega)
    | 33 =>
      simp only [List.getElem?_toArray, List.getElem?_cons_zero, List.getElem?_cons_succ, Option.some.injEq] at hop
      subst hop
      have n32 : a.tmps[51]?.getD undef = .bool false := hP 32 51 (by kernel_rfl) (by kernel_rfl)
      go_simp
      exact hK _ _ (Below.refl _ _) fun _ => by first | rfl | exact wrap_val (by omega)
    | 34 =>
      simp only [List.getElem?_toArray, List.getElem?_cons_zero, List.getElem?_cons_succ, Option.some.injEq] at hop
      subst hop
      go_simp
      exact hK _ _ (Below.refl _ _) fun _ => by first | rfl | exact wrap_val (by omega)
    | 35 =>
      simp only [List.getElem?_toArray, List.getElem?_cons_zero, List.getElem?_cons_succ, Option.some.injEq] at hop
      subst hop
      have n34 : a.tmps[53]?.getD undef = .pointer (some ⟨w.heap.size, 0, none⟩) := hP 34 53 (by kernel_rfl) (by kernel_rfl)
      go_simp
      exact hK _ _ (Below.refl _ _) fun _ => by first | rfl | exact wrap_val (by omega)
    | 36 =>
      simp only [List.getElem?_toArray, List.getElem?_cons_zero, List.getElem?_cons_succ, Option.some.injEq] at hop
      subst hop
      have n35 : a.tmps[54]?.getD undef = .int .i64 7 := hP 35 54 (by kernel_rfl) (by kernel_rfl)
      go_simp
      exact hK _ _ (Below.refl _ _) fun _ => by first | rfl | exact wrap_val (by omega)
    | 37 =>
      simp only [List.getElem?_toArray, List.getElem?_cons_zero, List.getElem?_cons_succ, Option.some.injEq] at hop
      subst hop
      have n33 : a.tmps[52]?.getD undef = .bool false := hP 33 52 (by kernel_rfl) (by kernel_rfl)
      have n36 : a.tmps[55]?.getD undef = .bool true := hP 36 55 (by kernel_rfl) (by kernel_rfl)
      go_simp
      exact hK _ _ (Below.refl _ _) fun _ => by first | rfl | exact wrap_val (by omega)
    | 38 =>
      simp only [List.getElem?_toArray, List.getElem?_cons_zero, List.getElem?_cons_succ, Option.some.injEq] at hop
      subst hop
      have n29 : a.tmps[48]?.getD undef = .bool true := hP 29 48 (by kernel_rfl) (by kernel_rfl)
      have n37 : a.tmps[56]?.getD undef = .bool true := hP 37 56 (by kernel_rfl) (by kernel_rfl)
      go_simp
      exact hK _ _ (Below.refl _ _) fun _ => by first | rfl | exact wrap_val (by omega)
    | 39 =>
      simp only [List.getElem?_toArray, List.getElem?_cons_zero, List.getElem?_cons_succ, Option.some.injEq] at hop
      subst hop
      have n28 : a.tmps[47]?.getD undef = .bool true := hP 28 47 (by kernel_rfl) (by kernel_rfl)
      have n38 : a.tmps[57]?.getD undef = .bool true := hP 38 57 (by kernel_rfl) (by kernel_rfl)
      go_simp
      exact hK _ _ (Below.refl _ _) fun _ => by first | rfl | exact wrap_val (by omega)
    | 40 =>
      simp only [List.getElem?_toArray, List.getElem?_cons_zero, List.getElem?_cons_succ, Option.some.injEq] at hop
      subst hop
      have n39 : a.tmps[58]?.getD undef = .bool true := hP 39 58 (by kernel_rfl) (by kernel_rfl)
      go_simp
      exact hK _ _ (Below.refl _ _) fun _ => by first | rfl | exact wrap_val (by omega)
    | 41 =>
      simp only [List.getElem?_toArray, List.getElem?_cons_zero, List.getElem?_cons_succ, Option.some.injEq] at hop
      subst hop
      go_simp
      exact hK _ _ (Below.refl _ _) fun _ => by first | rfl | exact wrap_val (by omega)
    | 42 =>
      simp only [List.getElem?_toArray, List.getElem?_cons_zero, List.getElem?_cons_succ, Option.some.injEq] at hop
      subst hop
      go_simp
      exact hK _ _ (Below.refl _ _) fun _ => by first | rfl | exact wrap_val (by omega)
    | 43 =>
      simp only [List.getElem?_toArray, List.getElem?_cons_zero, List.getElem?_cons_succ, Option.some.injEq] at hop
      subst hop
      have n42 : a.tmps[61]?.getD undef = .pointer (some ⟨w.heap.size, 0, none⟩) := hP 42 61 (by kernel_rfl) (by kernel_rfl)
      go_simp
      exact hK _ _ (Below.refl _ _) fun _ => by first | rfl | exact wrap_val (by omega)
    | 44 =>
      simp only [List.getElem?_toArray, List.getElem?_cons_zero, List.getElem?_cons_succ, Option.some.injEq] at hop
      subst hop
      have n43 : a.tmps[62]?.getD undef = .int .i64 7 := hP 43 62 (by kernel_rfl) (by kernel_rfl)
      go_simp
      exact hK _ _ (Below.refl _ _) fun _ => by first | rfl | exact wrap_val (by omega)
    | 45 =>
      simp only [List.getElem?_toArray, List.getElem?_cons_zero, List.getElem?_cons_succ, Option.some.injEq] at hop
      subst hop
      have n44 : a.tmps[63]?.getD undef = .bool true := hP 44 63 (by kernel_rfl) (by kernel_rfl)
      go_simp
      exact hK _ _ (Below.refl _ _) fun _ => by first | rfl | exact wrap_val (by omega)
    | 46 =>
      simp only [List.getElem?_toArray, List.getElem?_cons_zero, List.getElem?_cons_succ, Option.some.injEq] at hop
      subst hop
      go_simp
      exact hK _ _ (Below.refl _ _) fun _ => by first | rfl | exact wrap_val (by omega)
    | 47 =>
      simp only [List.getElem?_toArray, List.getElem?_cons_zero, List.getElem?_cons_succ, Option.some.injEq] at hop
      subst hop
      have n46 : a.tmps[65]?.getD undef = .pointer (some ⟨w.heap.size, 0, none⟩) := hP 46 65 (by kernel_rfl) (by kernel_rfl)
      go_simp
      exact hK _ _ (Below.refl _ _) fun _ => by first | rfl | exact wrap_val (by omega)
    | 48 =>
      simp only [List.getElem?_toArray, List.getElem?_cons_zero, List.getElem?_cons_succ, Option.some.injEq] at hop
      subst hop
      have n47 : a.tmps[66]?.getD undef = .int .i64 7 := hP 47 66 (by kernel_rfl) (by kernel_rfl)
      go_simp
      exact hK _ _ (Below.refl _ _) fun _ => by first | rfl | exact wrap_val (by omega)
    | 49 =>
      simp only [List.getElem?_toArray, List.getElem?_cons_zero, List.getElem?_cons_succ, Option.some.injEq] at hop
      subst hop
      have n45 : a.tmps[64]?.getD undef = .bool true := hP 45 64 (by kernel_rfl) (by kernel_rfl)
      have n48 : a.tmps[67]?.getD undef = .bool true := hP 48 67 (by kernel_rfl) (by kernel_rfl)
      go_simp
      exact hK _ _ (Below.refl _ _) fun _ => by first | rfl | exact wrap_val (by omega)
    | 50 =>
      simp only [List.getElem?_toArray, List.getElem?_cons_zero, List.getElem?_cons_succ, Option.some.injEq] at hop
      subst hop
      have n41 : a.tmps[60]?.getD undef = .bool true := hP 41 60 (by kernel_rfl) (by kernel_rfl)
      have n49 : a.tmps[68]?.getD undef = .bool true := hP 49 68 (by kernel_rfl) (by kernel_rfl)
      go_simp
      exact hK _ _ (Below.refl _ _) fun _ => by first | rfl | exact wrap_val (by omega)
    | 51 =>
      simp only [List.getElem?_toArray, List.getElem?_cons_zero, List.getElem?_cons_succ, Option.some.injEq] at hop
      subst hop
      have n40 : a.tmps[59]?.getD undef = .bool true := hP 40 59 (by kernel_rfl) (by kernel_rfl)
      have n50 : a.tmps[69]?.getD undef = .bool true := hP 50 69 (by kernel_rfl) (by kernel_rfl)
      go_simp
      exact hK _ _ (Below.refl _ _) fun _ => by first | rfl | exact wrap_val (by omega)
    | 52 =>
      simp only [List.getElem?_toArray, List.getElem?_cons_zero, List.getElem?_cons_succ, Option.some.injEq] at hop
      subst hop
      have n51 : a.tmps[70]?.getD undef = .bool true := hP 51 70 (by kernel_rfl) (by kernel_rfl)
      go_simp
      exact hK _ _ (Below.refl _ _) fun _ => by first | rfl | exact wrap_val (by omega)
    | _ + 53 => simp at hop
  · intro V wz hbz hR
    have e52 : V 52 = .bool true := hR 52 (by kernel_rfl)
    clear hR
    refine at_all (prs [19, 20, 21, 22, 23, 24, 25, 26, 27, 28, 29, 30, 31, 32, 33, 34, 35, 36, 37, 38, 39, 40, 41, 42, 43, 44, 45, 46, 47, 48, 49, 50, 51, 52, 53, 54, 55, 56, 57, 58, 59, 60, 61, 62, 63, 64, 65, 66, 67, 68, 69, 70, 2] V) (fun t => by kernel_rfl) ?_
    simp only [prs, List.zipIdx, List.map, List.foldl, Nat.zero_add, Nat.reduceAdd, List.setIfInBounds_toArray, List.set_cons_zero, List.set_cons_succ, e52]
    go_wp2
    go_ret
    exact ⟨rfl, (hbx.trans h13).trans (hbz.mono (Nat.le_trans hbx.size h13.size))⟩

set_option maxHeartbeats 4000000 in
set_option maxRecDepth 100000 in
theorem uses_13 (fd fo fa fb fc fv ft : Int) (w : World) (hV : Vars w.heap.size w) :
    Calls Tryd.prog 3 #[.agg #[.int .i64 13, .int .i64 fd, .int .i64 fo, .int .i64 fa, .int .i64 fb, .int .i64 fc, .int .u64 fv, .int .i64 ft]] w fun e w' => e = .returned (.bool true) ∧ Below w.heap.size w w' := by
  have hbx := (Below.refl w.heap.size w).alloc (Nat.le_refl _) (.cells #[.int .i64 13, .int .i64 fd, .int .i64 fo, .int .i64 fa, .int .i64 fb, .int .i64 fc, .int .u64 fv, .int .i64 ft] 26)
  have HB := Lib.hid (show (w.alloc (.cells #[.int .i64 13, .int .i64 fd, .int .i64 fo, .int .i64 fa, .int .i64 fb, .int .i64 fc, .int .u64 fv, .int .i64 ft] 26)).heap[w.heap.size]? = some (.cells #[.int .i64 13, .int .i64 fd, .int .i64 fo, .int .i64 fa, .int .i64 fb, .int .i64 fc, .int .u64 fv, .int .i64 ft] 26 (0, 0)) by rw [alloc_at, if_pos rfl])
  have PA := fun w1 (hb1 : Below w.heap.size w w1) => awake_any w1 ((hV.on hb1).mono hb1.size)
  have PS := fun w1 => sets_any ⟨13, fd, fo, fa, fb, fc, fv, ft⟩ w1
  have PD := fun w1 => defines_any ⟨13, fd, fo, fa, fb, fc, fv, ft⟩ w1
  have PJ := fun w1 => jumps_any ⟨13, fd, fo, fa, fb, fc, fv, ft⟩ w1
  have PU := fun w1 => uses_any ⟨13, fd, fo, fa, fb, fc, fv, ft⟩ w1
  have PL := fun w1 => luses_any ⟨13, fd, fo, fa, fb, fc, fv, ft⟩ w1
  obtain ⟨U, hU⟩ : ∃ U, U = usesP ⟨13, fd, fo, fa, fb, fc, fv, ft⟩ := ⟨_, rfl⟩
  rw [← hU] at PU PL
  clear hU
  have hD : setsB 13 = false := by rfl
  have hJ : jumpsB 13 = false := by rfl
  have hG : goesB 13 = false := by rfl
  simp only [hD] at PS
  simp only [hD, if_true, if_false, Bool.false_eq_true] at PD
  simp only [hJ, hG] at PJ
  clear hD hJ hG
  obtain ⟨W0, hW0⟩ : ∃ W0, W0 = w.heap.size := ⟨_, rfl⟩
  go_enter Tryd.func3, Tryd.ntmps3
  go_wp2_with (first
    | (go_at_call 8; refine (PA _ hbx).mono ?_; rintro ed w1 ⟨rfl, hb1⟩; obtain ⟨x0, x1, x2, x3, x4, x5, x6, x7⟩ := code_cells (keepB hb1 HB.out))
    | (go_at_call 9; refine (PD _).mono ?_; rintro ed w2 ⟨rfl, hb2⟩; have h12 := hb1.trans (hb2.mono hb1.size); obtain ⟨x0, x1, x2, x3, x4, x5, x6, x7⟩ := code_cells (keepB h12 HB.out))
    | (go_at_call 10; refine (PJ _).mono ?_; rintro ed w3 ⟨rfl, hb3⟩; have h13z := h12.trans (hb3.mono h12.size)))
  have HB3 := Lib.hid (keepB h13z HB.out)
  have h13 := h13z.mono (show w.heap.size ≤ (w.alloc (.cells #[.int .i64 13, .int .i64 fd, .int .i64 fo, .int .i64 fa, .int .i64 fb, .int .i64 fc, .int .u64 fv, .int .i64 ft] 26)).heap.size by simp)
  have hW1 : W0 ≤ w3.heap.size := by rw [hW0]; exact Nat.le_trans hbx.size h13.size
  refine wp_region_mono3 (by kernel_rfl) (by kernel_rfl) (by kernel_rfl) (by kernel_rfl) (by kernel_rfl) (fun (i : Nat) (v : Value) (wv : World) => match i with | 0 => v = .bool false | 1 => v = .agg #[.int .i64 13, .int .i64 fd, .int .i64 fo, .int .i64 fa, .int .i64 fb, .int .i64 fc, .int .u64 fv, .int .i64 ft] | 2 => v = .bool false | 3 => v = .bool true | 4 => v = .bool true | 5 => v = .bool false | 6 => v = .bool false | 7 => True | 8 => True | 9 => True | 10 => v = undef | 11 => v = .bool false | 12 => v = .bool false | 13 => v = .bool false | 14 => v = .bool true | 15 => v = .bool true | 16 => v = .int .i64 0 | 17 => v = .bool true | 18 => v = .bool true | 19 => v = .bool true | 20 => v = .bool true | 21 => v = .bool true | 22 => v = .agg #[.int .i64 13, .int .i64 fd, .int .i64 fo, .int .i64 fa, .int .i64 fb, .int .i64 fc, .int .u64 fv, .int .i64 ft] | 23 => Own wv W0 v U | 24 => v = .agg #[.int .i64 13, .int .i64 fd, .int .i64 fo, .int .i64 fa, .int .i64 fb, .int .i64 fc, .int .u64 fv, .int .i64 ft] | 25 => Own wv W0 v U | 26 => v = .bool true | 27 => v = .bool true | 28 => v = .bool true | 29 => v = .bool false | 30 => v = .pointer (some ⟨w.heap.size, 0, none⟩) | 31 => v = .int .i64 13 | 32 => v = .bool false | 33 => v = .bool false | 34 => v = .pointer (some ⟨w.heap.size, 0, none⟩) | 35 => v = .int .i64 13 | 36 => v = .bool false | 37 => v = .bool false | 38 => v = .bool true | 39 => v = .bool true | 40 => v = .bool true | 41 => v = .bool false | 42 => v = .pointer (some ⟨w.heap.size, 0, none⟩) | 43 => v = .int .i64 13 | 44 => v = .bool true | 45 => v = .bool true | 46 => v = .pointer (some ⟨w.heap.size, 0, none⟩) | 47 => v = .int .i64 13 | 48 => v = .bool false | 49 => v = .bool false | 50 => v = .bool true | 51 => v = .bool true | 52 => v = .bool true | _ => True) ?_ [(4, true), (12, false), (15, true), (21, true), (28, true), (33, false), (40, true), (45, true)] [(6, true)] (by kernel_rfl) ?_ ?_ ?_ ?_ ?_
  · intro i v w w' hb h
    match i with
    | 0 => exact h
    | 1 => exact h
    | 2 => exact h
    | 3 => exact h
    | 4 => exact h
    | 5 => exact h
    | 6 => exact h
    | 7 => exact h
    | 8 => exact h
    | 9 => exact h
    | 10 => exact h
    | 11 => exact h
    | 12 => exact h
    | 13 => exact h
    | 14 => exact h
    | 15 => exact h
    | 16 => exact h
    | 17 => exact h
    | 18 => exact h
    | 19 => exact h
    | 20 => exact h
    | 21 => exact h
    | 22 => exact h
    | 23 => exact Own.on h hb
    | 24 => exact h
    | 25 => exact Own.on h hb
    | 26 => exact h
    | 27 => exact h
    | 28 => exact h
    | 29 => exact h
    | 30 => exact h
    | 31 => exact h
    | 32 => exact h
    | 33 => exact h
    | 34 => exact h
    | 35 => exact h
    | 36 => exact h
    | 37 => exact h
    | 38 => exact h
    | 39 => exact h
    | 40 => exact h
    | 41 => exact h
    | 42 => exact h
    | 43 => exact h
    | 44 => exact h
    | 45 => exact h
    | 46 => exact h
    | 47 => exact h
    | 48 => exact h
    | 49 => exact h
    | 50 => exact h
    | 51 => exact h
    | 52 => exact h
    | _ + 53 => trivial
  · intro p hp v w h
    simp only [List.mem_cons, List.not_mem_nil, or_false] at hp
    rcases hp with rfl | rfl | rfl | rfl | rfl | rfl | rfl | rfl
    · exact h
    · exact h
    · exact h
    · exact h
    · exact h
    · exact h
    · exact h
    · exact h
  · intro p hp v w h
    simp only [List.mem_cons, List.not_mem_nil, or_false] at hp
    subst hp
    first | exact .inl h | exact .inr h
  · intro i o p ho hg hp w
    match i with
    | 0 => simp only [List.getElem?_toArray, List.getElem?_cons_zero, List.getElem?_cons_succ, Option.some.injEq] at ho; subst ho; first | (cases hg; done) | (cases hg; simp at hp; done)
    | 1 => simp only [List.getElem?_toArray, List.getElem?_cons_zero, List.getElem?_cons_succ, Option.some.injEq] at ho; subst ho; first | (cases hg; done) | (cases hg; simp at hp; done)
    | 2 => simp only [List.getElem?_toArray, List.getElem?_cons_zero, List.getElem?_cons_succ, Option.some.injEq] at ho; subst ho; first | (cases hg; done) | (cases hg; simp at hp; done)
    | 3 => simp only [List.getElem?_toArray, List.getElem?_cons_zero, List.getElem?_cons_succ, Option.some.injEq] at ho; subst ho; first | (cases hg; done) | (cases hg; simp at hp; done)
    | 4 => simp only [List.getElem?_toArray, List.getElem?_cons_zero, List.getElem?_cons_succ, Option.some.injEq] at ho; subst ho; first | (cases hg; done) | (cases hg; simp at hp; done)
    | 5 => simp only [List.getElem?_toArray, List.getElem?_cons_zero, List.getElem?_cons_succ, Option.some.injEq] at ho; subst ho; first | (cases hg; done) | (cases hg; simp at hp; done)
    | 6 => simp only [List.getElem?_toArray, List.getElem?_cons_zero, List.getElem?_cons_succ, Option.some.injEq] at ho; subst ho; first | (cases hg; done) | (cases hg; simp at hp; done)
    | 7 => exact trivial
    | 8 => exact trivial
    | 9 => exact trivial
    | 10 => exact rfl
    | 11 => simp only [List.getElem?_toArray, List.getElem?_cons_zero, List.getElem?_cons_succ, Option.some.injEq] at ho; subst ho; first | (cases hg; done) | (cases hg; simp at hp; done)
    | 12 => simp only [List.getElem?_toArray, List.getElem?_cons_zero, List.getElem?_cons_succ, Option.some.injEq] at ho; subst ho; first | (cases hg; done) | (cases hg; simp at hp; done)
    | 13 => simp only [List.getElem?_toArray, List.getElem?_cons_zero, List.getElem?_cons_succ, Option.some.injEq] at ho; subst ho; first | (cases hg; done) | (cases hg; simp at hp; done)
    | 14 => simp only [List.getElem?_toArray, List.getElem?_cons_zero, List.getElem?_cons_succ, Option.some.injEq] at ho; subst ho; first | (cases hg; done) | (cases hg; simp at hp; done)
    | 15 => simp only [List.getElem?_toArray, List.getElem?_cons_zero, List.getElem?_cons_succ, Option.some.injEq] at ho; subst ho; first | (cases hg; done) | (cases hg; simp at hp; done)
    | 16 => simp only [List.getElem?_toArray, List.getElem?_cons_zero, List.getElem?_cons_succ, Option.some.injEq] at ho; subst ho; first | (cases hg; done) | (cases hg; simp at hp; done)
    | 17 => simp only [List.getElem?_toArray, List.getElem?_cons_zero, List.getElem?_cons_succ, Option.some.injEq] at ho; subst ho; first | (cases hg; done) | (cases hg; simp at hp; done)
    | 18 => simp only [List.getElem?_toArray, List.getElem?_cons_zero, List.getElem?_cons_succ, Option.some.injEq] at ho; subst ho; first | (cases hg; done) | (cases hg; simp at hp; done)
    | 19 => simp only [List.getElem?_toArray, List.getElem?_cons_zero, List.getElem?_cons_succ, Option.some.injEq] at ho; subst ho; first | (cases hg; done) | (cases hg; simp at hp; done)
    | 20 => simp only [List.getElem?_toArray, List.getElem?_cons_zero, List.getElem?_cons_succ, Option.some.injEq] at ho; subst ho; first | (cases hg; done) | (cases hg; simp at hp; done)
    | 21 => simp only [List.getElem?_toArray, List.getElem?_cons_zero, List.getElem?_cons_succ, Option.some.injEq] at ho; subst ho; first | (cases hg; done) | (cases hg; simp at hp; done)
    | 22 => simp only [List.getElem?_toArray, List.getElem?_cons_zero, List.getElem?_cons_succ, Option.some.injEq] at ho; subst ho; first | (cases hg; done) | (cases hg; simp at hp; done)
    | 23 => simp only [List.getElem?_toArray, List.getElem?_cons_zero, List.getElem?_cons_succ, Option.some.injEq] at ho; subst ho; first | (cases hg; done) | (cases hg; simp at hp; done)
    | 24 => simp only [List.getElem?_toArray, List.getElem?_cons_zero, List.getElem?_cons_succ, Option.some.injEq] at ho; subst ho; first | (cases hg; done) | (cases hg; simp at hp; done)
    | 25 => simp only [List.getElem?_toArray, List.getElem?_cons_zero, List.getElem?_cons_succ, Option.some.injEq] at ho; subst ho; first | (cases hg; done) | (cases hg; simp at hp; done)
    | 26 => simp only [List.getElem?_toArray, List.getElem?_cons_zero, List.getElem?_cons_succ, Option.some.injEq] at ho; subst ho; first | (cases hg; done) | (cases hg; simp at hp; done)
    | 27 => simp only [List.getElem?_toArray, List.getElem?_cons_zero, List.getElem?_cons_succ, Option.some.injEq] at ho; subst ho; first | (cases hg; done) | (cases hg; simp at hp; done)
    | 28 => simp only [List.getElem?_toArray, List.getElem?_cons_zero, List.getElem?_cons_succ, Option.some.injEq] at ho; subst ho; first | (cases hg; done) | (cases hg; simp at hp; done)
    | 29 => simp only [List.getElem?_toArray, List.getElem?_cons_zero, List.getElem?_cons_succ, Option.some.injEq] at ho; subst ho; first | (cases hg; done) | (cases hg; simp at hp; done)
    | 30 => simp only [List.getElem?_toArray, List.getElem?_cons_zero, List.getElem?_cons_succ, Option.some.injEq] at ho; subst ho; first | (cases hg; done) | (cases hg; simp at hp; done)
    | 31 => simp only [List.getElem?_toArray, List.getElem?_cons_zero, List.getElem?_cons_succ, Option.some.injEq] at ho; subst ho; first | (cases hg; done) | (cases hg; simp at hp; done)
    | 32 => simp only [List.getElem?_toArray, List.getElem?_cons_zero, List.getElem?_cons_succ, Option.some.injEq] at ho; subst ho; first | (cases hg; done) | (cases hg; simp at hp; done)
    | 33 => simp only [List.getElem?_toArray, List.getElem?_cons_zero, List.getElem?_cons_succ, Option.some.injEq] at ho; subst ho; first | (cases hg; done) | (cases hg; simp at hp; done)
    | 34 => simp only [List.getElem?_toArray, List.getElem?_cons_zero, List.getElem?_cons_succ, Option.some.injEq] at ho; subst ho; first | (cases hg; done) | (cases hg; simp at hp; done)
    | 35 => simp only [List.getElem?_toArray, List.getElem?_cons_zero, List.getElem?_cons_succ, Option.some.injEq] at ho; subst ho; first | (cases hg; done) | (cases hg; simp at hp; done)
    | 36 => simp only [List.getElem?_toArray, List.getElem?_cons_zero, List.getElem?_cons_succ, Option.some.injEq] at ho; subst ho; first | (cases hg; done) | (cases hg; simp at hp; done)
    | 37 => simp only [List.getElem?_toArray, List.getElem?_cons_zero, List.getElem?_cons_succ, Option.some.injEq] at ho; subst ho; first | (cases hg; done) | (cases hg; simp at hp; done)
    | 38 => simp only [List.getElem?_toArray, List.getElem?_cons_zero, List.getElem?_cons_succ, Option.some.injEq] at ho; subst ho; first | (cases hg; done) | (cases hg; simp at hp; done)
    | 39 => simp only [List.getElem?_toArray, List.getElem?_cons_zero, List.getElem?_cons_succ, Option.some.injEq] at ho; subst ho; first | (cases hg; done) | (cases hg; simp at hp; done)
    | 40 => simp only [List.getElem?_toArray, List.getElem?_cons_zero, List.getElem?_cons_succ, Option.some.injEq] at ho; subst ho; first | (cases hg; done) | (cases hg; simp at hp; done)
    | 41 => simp only [List.getElem?_toArray, List.getElem?_cons_zero, List.getElem?_cons_succ, Option.some.injEq] at ho; subst ho; first | (cases hg; done) | (cases hg; simp at hp; done)
    | 42 => simp only [List.getElem?_toArray, List.getElem?_cons_zero, List.getElem?_cons_succ, Option.some.injEq] at ho; subst ho; first | (cases hg; done) | (cases hg; simp at hp; done)
    | 43 => simp only [List.getElem?_toArray, List.getElem?_cons_zero, List.getElem?_cons_succ, Option.some.injEq] at ho; subst ho; first | (cases hg; done) | (cases hg; simp at hp; done)
    | 44 => simp only [List.getElem?_toArray, List.getElem?_cons_zero, List.getElem?_cons_succ, Option.some.injEq] at ho; subst ho; first | (cases hg; done) | (cases hg; simp at hp; done)
    | 45 => simp only [List.getElem?_toArray, List.getElem?_cons_zero, List.getElem?_cons_succ, Option.some.injEq] at ho; subst ho; first | (cases hg; done) | (cases hg; simp at hp; done)
    | 46 => simp only [List.getElem?_toArray, List.getElem?_cons_zero, List.getElem?_cons_succ, Option.some.injEq] at ho; subst ho; first | (cases hg; done) | (cases hg; simp at hp; done)
    | 47 => simp only [List.getElem?_toArray, List.getElem?_cons_zero, List.getElem?_cons_succ, Option.some.injEq] at ho; subst ho; first | (cases hg; done) | (cases hg; simp at hp; done)
    | 48 => simp only [List.getElem?_toArray, List.getElem?_cons_zero, List.getElem?_cons_succ, Option.some.injEq] at ho; subst ho; first | (cases hg; done) | (cases hg; simp at hp; done)
    | 49 => simp only [List.getElem?_toArray, List.getElem?_cons_zero, List.getElem?_cons_succ, Option.some.injEq] at ho; subst ho; first | (cases hg; done) | (cases hg; simp at hp; done)
    | 50 => simp only [List.getElem?_toArray, List.getElem?_cons_zero, List.getElem?_cons_succ, Option.some.injEq] at ho; subst ho; first | (cases hg; done) | (cases hg; simp at hp; done)
    | 51 => simp only [List.getElem?_toArray, List.getElem?_cons_zero, List.getElem?_cons_succ, Option.some.injEq] at ho; subst ho; first | (cases hg; done) | (cases hg; simp at hp; done)
    | 52 => simp only [List.getElem?_toArray, List.getElem?_cons_zero, List.getElem?_cons_succ, Option.some.injEq] at ho; subst ho; first | (cases hg; done) | (cases hg; simp at hp; done)
    | _ + 53 => exact trivial
  · intro a wr i op hop hno hb hF hP K hK
    have s1 : a.tmps[1]?.getD undef = .pointer (some ⟨w.heap.size, 0, none⟩) := (hF 1 (by kernel_rfl)).trans rfl
    have s3 : a.tmps[3]?.getD undef = .int .i64 0 := (hF 3 (by kernel_rfl)).trans rfl
    have s4 : a.tmps[4]?.getD undef = .bool false := (hF 4 (by kernel_rfl)).trans rfl
    have s5 : a.tmps[5]?.getD undef = .bool false := (hF 5 (by kernel_rfl)).trans rfl
    have s6 : a.tmps[6]?.getD undef = .bool false := (hF 6 (by kernel_rfl)).trans rfl
    obtain ⟨x0, x1, x2, x3, x4, x5, x6, x7⟩ := code_cells (keepB hb HB3.out)
    match i with
    | 0 =>
      simp only [List.getElem?_toArray, List.getElem?_cons_zero, List.getElem?_cons_succ, Option.some.injEq] at hop
      subst hop
      go_simp
      exact hK _ _ (Below.refl _ _) fun _ => by first | rfl | exact wrap_val (by omega)
    | 1 =>
      simp only [List.getElem?_toArray, List.getElem?_cons_zero, List.getElem?_cons_succ, Option.some.injEq] at hop
      subst hop
      go_simp
      exact hK _ _ (Below.refl _ _) fun _ => by first | rfl | exact wrap_val (by omega)
    | 2 =>
      simp only [List.getElem?_toArray, List.getElem?_cons_zero, List.getElem?_cons_succ, Option.some.injEq] at hop
      subst hop
      have n1 : a.tmps[20]?.getD undef = .agg #[.int .i64 13, .int .i64 fd, .int .i64 fo, .int .i64 fa, .int .i64 fb, .int .i64 fc, .int .u64 fv, .int .i64 ft] := hP 1 20 (by kernel_rfl) (by kernel_rfl)
      go_simp
      go_at_call 11
      refine (PS wr).mono ?_
      rintro ed w5 ⟨rfl, hb5⟩
      go_simp
      exact hK _ _ hb5 fun _ => rfl
    | 3 =>
      simp only [List.getElem?_toArray, List.getElem?_cons_zero, List.getElem?_cons_succ, Option.some.injEq] at hop
      subst hop
      have n0 : a.tmps[19]?.getD undef = .bool false := hP 0 19 (by kernel_rfl) (by kernel_rfl)
      have n2 : a.tmps[21]?.getD undef = .bool false := hP 2 21 (by kernel_rfl) (by kernel_rfl)
      go_simp
      exact hK _ _ (Below.refl _ _) fun _ => by first | rfl | exact wrap_val (by omega)
    | 4 =>
      simp only [List.getElem?_toArray, List.getElem?_cons_zero, List.getElem?_cons_succ, Option.some.injEq] at hop
      subst hop
      have n3 : a.tmps[22]?.getD undef = .bool true := hP 3 22 (by kernel_rfl) (by kernel_rfl)
      go_simp
      exact hK _ _ (Below.refl _ _) fun _ => by first | rfl | exact wrap_val (by omega)
    | 5 =>
      simp only [List.getElem?_toArray, List.getElem?_cons_zero, List.getElem?_cons_succ, Option.some.injEq] at hop
      subst hop
      go_simp
      exact hK _ _ (Below.refl _ _) fun _ => by first | rfl | exact wrap_val (by omega)
    | 6 =>
      simp only [List.getElem?_toArray, List.getElem?_cons_zero, List.getElem?_cons_succ, Option.some.injEq] at hop
      subst hop
      have n5 : a.tmps[24]?.getD undef = .bool false := hP 5 24 (by kernel_rfl) (by kernel_rfl)
      go_simp
      exact hK _ _ (Below.refl _ _) fun _ => by first | rfl | exact wrap_val (by omega)
    | 7 =>
      simp only [List.getElem?_toArray, List.getElem?_cons_zero, List.getElem?_cons_succ, Option.some.injEq] at hop
      subst hop
      exact absurd (by simp) (hno _ rfl)
    | 8 =>
      simp only [List.getElem?_toArray, List.getElem?_cons_zero, List.getElem?_cons_succ, Option.some.injEq] at hop
      subst hop
      exact absurd (by simp) (hno _ rfl)
    | 9 =>
      simp only [List.getElem?_toArray, List.getElem?_cons_zero, List.getElem?_cons_succ, Option.some.injEq] at hop
      subst hop
      exact absurd (by simp) (hno _ rfl)
    | 10 =>
      simp only [List.getElem?_toArray, List.getElem?_cons_zero, List.getElem?_cons_succ, Option.some.injEq] at hop
      subst hop
      exact absurd (by simp) (hno _ rfl)
    | 11 =>
      simp only [List.getElem?_toArray, List.getElem?_cons_zero, List.getElem?_cons_succ, Option.some.injEq] at hop
      subst hop
      have n6 : a.tmps[25]?.getD undef = .bool false := hP 6 25 (by kernel_rfl) (by kernel_rfl)
      have n10 : a.tmps[29]?.getD undef = undef := hP 10 29 (by kernel_rfl) (by kernel_rfl)
      go_simp
      exact hK _ _ (Below.refl _ _) fun _ => by first | rfl | exact wrap_val (by omega)
    | 12 =>
      simp only [List.getElem?_toArray, List.getElem?_cons_zero, List.getElem?_cons_succ, Option.some.injEq] at hop
      subst hop
      have n11 : a.tmps[30]?.getD undef = .bool false := hP 11 30 (by kernel_rfl) (by kernel_rfl)
      go_simp
      exact hK _ _ (Below.refl _ _) fun _ => by first | rfl | exact wrap_val (by omega)
    | 13 =>
      simp only [List.getElem?_toArray, List.getElem?_cons_zero, List.getElem?_cons_succ, Option.some.injEq] at hop
      subst hop
      go_simp
      exact hK _ _ (Below.refl _ _) fun _ => by first | rfl | exact wrap_val (by omega)
    | 14 =>
      simp only [List.getElem?_toArray, List.getElem?_cons_zero, List.getElem?_cons_succ, Option.some.injEq] at hop
      subst hop
      have n13 : a.tmps[32]?.getD undef = .bool false := hP 13 32 (by kernel_rfl) (by kernel_rfl)
      go_simp
      exact hK _ _ (Below.refl _ _) fun _ => by first | rfl | exact wrap_val (by omega)
    | 15 =>
      simp only [List.getElem?_toArray, List.getElem?_cons_zero, List.getElem?_cons_succ, Option.some.injEq] at hop
      subst hop
      have n14 : a.tmps[33]?.getD undef = .bool true := hP 14 33 (by kernel_rfl) (by kernel_rfl)
      go_simp
      exact hK _ _ (Below.refl _ _) fun _ => by first | rfl | exact wrap_val (by omega)
    | 16 =>
      simp only [List.getElem?_toArray, List.getElem?_cons_zero, List.getElem?_cons_succ, Option.some.injEq] at hop
      subst hop
      go_simp
      exact hK _ _ (Below.refl _ _) fun _ => by first | rfl | exact wrap_val (by omega)
    | 17 =>
      simp only [List.getElem?_toArray, List.getElem?_cons_zero, List.getElem?_cons_succ, Option.some.injEq] at hop
      subst hop
      have n16 : a.tmps[35]?.getD undef = .int .i64 0 := hP 16 35 (by kernel_rfl) (by kernel_rfl)
      go_simp
      exact hK _ _ (Below.refl _ _) fun _ => by first | rfl | exact wrap_val (by omega)
    | 18 =>
      simp only [List.getElem?_toArray, List.getElem?_cons_zero, List.getElem?_cons_succ, Option.some.injEq] at hop
      subst hop
      have n15 : a.tmps[34]?.getD undef = .bool true := hP 15 34 (by kernel_rfl) (by kernel_rfl)
      have n17 : a.tmps[36]?.getD undef = .bool true := hP 17 36 (by kernel_rfl) (by kernel_rfl)
      go_simp
      exact hK _ _ (Below.refl _ _) fun _ => by first | rfl | exact wrap_val (by omega)
    | 19 =>
      simp only [List.getElem?_toArray, List.getElem?_cons_zero, List.getElem?_cons_succ, Option.some.injEq] at hop
      subst hop
      have n12 : a.tmps[31]?.getD undef = .bool false := hP 12 31 (by kernel_rfl) (by kernel_rfl)
      have n18 : a.tmps[37]?.getD undef = .bool true := hP 18 37 (by kernel_rfl) (by kernel_rfl)
      go_simp
      exact hK _ _ (Below.refl _ _) fun _ => by first | rfl | exact wrap_val (by omega)
    | 20 =>
      simp only [List.getElem?_toArray, List.getElem?_cons_zero, List.getElem?_cons_succ, Option.some.injEq] at hop
      subst hop
      have n4 : a.tmps[23]?.getD undef = .bool true := hP 4 23 (by kernel_rfl) (by kernel_rfl)
      have n19 : a.tmps[38]?.getD undef = .bool true := hP 19 38 (by kernel_rfl) (by kernel_rfl)
      go_simp
      exact hK _ _ (Below.refl _ _) fun _ => by first | rfl | exact wrap_val (by omega)
    | 21 =>
      simp only [List.getElem?_toArray, List.getElem?_cons_zero, List.getElem?_cons_succ, Option.some.injEq] at hop
      subst hop
      have n20 : a.tmps[39]?.getD undef = .bool true := hP 20 39 (by kernel_rfl) (by kernel_rfl)
      go_simp
      exact hK _ _ (Below.refl _ _) fun _ => by first | rfl | exact wrap_val (by omega)
    | 22 =>
      simp only [List.getElem?_toArray, List.getElem?_cons_zero, List.getElem?_cons_succ, Option.some.injEq] at hop
      subst hop
      go_simp
      exact hK _ _ (Below.refl _ _) fun _ => by first | rfl | exact wrap_val (by omega)
    | 23 =>
      simp only [List.getElem?_toArray, List.getElem?_cons_zero, List.getElem?_cons_succ, Option.some.injEq] at hop
      subst hop
      have n22 : a.tmps[41]?.getD undef = .agg #[.int .i64 13, .int .i64 fd, .int .i64 fo, .int .i64 fa, .int .i64 fb, .int .i64 fc, .int .u64 fv, .int .i64 ft] := hP 22 41 (by kernel_rfl) (by kernel_rfl)
      go_simp
      go_at_call 13
      refine (PU wr).mono ?_
      rintro ed w5 ⟨v5, rfl, ho5, hb5⟩
      go_simp
      exact hK _ _ hb5 fun _ => ho5.base (Nat.le_trans hW1 hb.size)
    | 24 =>
      simp only [List.getElem?_toArray, List.getElem?_cons_zero, List.getElem?_cons_succ, Option.some.injEq] at hop
      subst hop
      go_simp
      exact hK _ _ (Below.refl _ _) fun _ => by first | rfl | exact wrap_val (by omega)
    | 25 =>
      simp only [List.getElem?_toArray, List.getElem?_cons_zero, List.getElem?_cons_succ, Option.some.injEq] at hop
      subst hop
      have n24 : a.tmps[43]?.getD undef = .agg #[.int .i64 13, .int .i64 fd, .int .i64 fo, .int .i64 fa, .int .i64 fb, .int .i64 fc, .int .u64 fv, .int .i64 ft] := hP 24 43 (by kernel_rfl) (by kernel_rfl)
      go_simp
      go_at_call 14
      refine (PL wr).mono ?_
      rintro ed w5 ⟨v5, rfl, ho5, hb5⟩
      go_simp
      exact hK _ _ hb5 fun _ => ho5.base (Nat.le_trans hW1 hb.size)
    | 26 =>
      simp only [List.getElem?_toArray, List.getElem?_cons_zero, List.getElem?_cons_succ, Option.some.injEq] at hop
      subst hop
      obtain ⟨va, n23, ha⟩ : ∃ va, a.tmps[42]?.getD undef = va ∧ Own wr W0 va U := ⟨_, rfl, (hP 23 42 (by kernel_rfl) (by kernel_rfl))⟩
      obtain ⟨vb, n25, hbo⟩ : ∃ vb, a.tmps[44]?.getD undef = vb ∧ Own wr W0 vb U := ⟨_, rfl, (hP 25 44 (by kernel_rfl) (by kernel_rfl))⟩
      go_simp
      go_at_call 12
      refine (same_any U U va vb wr ha.nums hbo.nums).mono ?_
      rintro ed w5 ⟨rfl, hb5⟩
      rw [decide_eq_true (rfl : U = U)]
      go_simp
      exact hK _ _ hb5 fun _ => rfl
    | 27 =>
      simp only [List.getElem?_toArray, List.getElem?_cons_zero, List.getElem?_cons_succ, Option.some.injEq] at hop
      subst hop
      have n21 : a.tmps[40]?.getD undef = .bool true := hP 21 40 (by kernel_rfl) (by kernel_rfl)
      have n26 : a.tmps[45]?.getD undef = .bool true := hP 26 45 (by kernel_rfl) (by kernel_rfl)
      go_simp
      exact hK _ _ (Below.refl _ _) fun _ => by first | rfl | exact wrap_val (by omega)
    | 28 =>
      simp only [List.getElem?_toArray, List.getElem?_cons_zero, List.getElem?_cons_succ, Option.some.injEq] at hop
      subst hop
      have n27 : a.tmps[46]?.getD undef = .bool true := hP 27 46 (by kernel_rfl) (by kernel_rfl)
      go_simp
      exact hK _ _ (Below.refl _ _) fun _ => by first | rfl | exact wrap_val (by omega)
    | 29 =>
      simp only [List.getElem?_toArray, List.getElem?_cons_zero, List.getElem?_cons_succ, Option.some.injEq] at hop
      subst hop
      go_simp
      exact hK _ _ (Below.refl _ _) fun _ => by first | rfl | exact wrap_val (by omega)
    | 30 =>
      simp only [List.getElem?_toArray, List.getElem?_cons_zero, List.getElem?_cons_succ, Option.some.injEq] at hop
      subst hop
      go_simp
      exact hK _ _ (Below.refl _ _) fun _ => by first | rfl | exact wrap_val (by omega)
    | 31 =>
      simp only [List.getElem?_toArray, List.getElem?_cons_zero, List.getElem?_cons_succ, Option.some.injEq] at hop
      subst hop
      have n30 : a.tmps[49]?.getD undef = .pointer (some ⟨w.heap.size, 0, none⟩) := hP 30 49 (by kernel_rfl) (by kernel_rfl)
      go_simp
      exact hK _ _ (Below.refl _ _) fun _ => by first | rfl | exact wrap_val (by omega)
    | 32 =>
      simp only [List.getElem?_toArray, List.getElem?_cons_zero, List.getElem?_cons_succ, Option.some.injEq] at hop
      subst hop
      have n31 : a.tmps[50]?.getD undef = .int .i64 13 := hP 31 50 (by kernel_rfl) (by kernel_rfl)
      go_simp
      exact hK _ _ (Below.refl _ _) fun _ => by first | rfl | exact wrap_val (by omega)
    | 33 =>
      simp only [List.getElem?_toArray, List.getElem?_cons_zero, List.getElem?_cons_succ, Option.some.injEq] at hop
      subst hop
      have n32 : a.tmps[51]?.getD undef = .bool false := hP 32 51 (by kernel_rfl) (by kernel_rfl)
      go_simp
      exact hK _ _ (Below.refl _ _) fun _ => by first | rfl | exact wrap_val (by omega)
    | 34 =>
      simp only [List.getElem?_toArray, List.getElem?_cons_zero, List.getElem?_cons_succ, Option.some.injEq] at hop
      subst hop
      go_simp
      exact hK _ _ (Below.refl _ _) fun _ => by first | rfl | exact wrap_val (by omega)
    | 35 =>
      simp only [List.getElem?_toArray, List.getElem?_cons_zero, List.getElem?_cons_succ, Option.some.injEq] at hop
      subst hop
      have n34 : a.tmps[53]?.getD undef = .pointer (some ⟨w.heap.size, 0, none⟩) := hP 34 53 (by kernel_rfl) (by kernel_rfl)
      go_simp
      exact hK _ _ (Below.refl _ _) fun _ => by first | rfl | exact wrap_val (by omega)
    | 36 =>
      simp only [List.getElem?_toArray, List.getElem?_cons_zero, List.getElem?_cons_succ, Option.some.injEq] at hop
      subst hop
      have n35 : a.tmps[54]?.getD undef = .int .i64 13 := hP 35 54 (by kernel_rfl) (by kernel_rfl)
      go_simp
      exact hK _ _ (Below.refl _ _) fun _ => by first | rfl | exact wrap_val (by omega)
    | 37 =>
      simp only [List.getElem?_toArray, List.getElem?_cons_zero, List.getElem?_cons_succ, Option.some.injEq] at hop
      subst hop
      have n33 : a.tmps[52]?.getD undef = .bool false := hP 33 52 (by kernel_rfl) (by kernel_rfl)
      have n36 : a.tmps[55]?.getD undef = .bool false := hP 36 55 (by kernel_rfl) (by kernel_rfl)
      go_simp
      exact hK _ _ (Below.refl _ _) fun _ => by first | rfl | exact wrap_val (by omega)
    | 38 =>
      simp only [List.getElem?_toArray, List.getElem?_cons_zero, List.getElem?_cons_succ, Option.some.injEq] at hop
      subst hop
      have n29 : a.tmps[48]?.getD undef = .bool false := hP 29 48 (by kernel_rfl) (by kernel_rfl)
      have n37 : a.tmps[56]?.getD undef = .bool false := hP 37 56 (by kernel_rfl) (by kernel_rfl)
      go_simp
      exact hK _ _ (Below.refl _ _) fun _ => by first | rfl | exact wrap_val (by omega)
    | 39 =>
      simp only [List.getElem?_toArray, List.getElem?_cons_zero, List.getElem?_cons_succ, Option.some.injEq] at hop
      subst hop
      have n28 : a.tmps[47]?.getD undef = .bool true := hP 28 47 (by kernel_rfl) (by kernel_rfl)
      have n38 : a.tmps[57]?.getD undef = .bool true := hP 38 57 (by kernel_rfl) (by kernel_rfl)
      go_simp
      exact hK _ _ (Below.refl _ _) fun _ => by first | rfl | exact wrap_val (by omega)
    | 40 =>
      simp only [List.getElem?_toArray, List.getElem?_cons_zero, List.getElem?_cons_succ, Option.some.injEq] at hop
      subst hop
      have n39 : a.tmps[58]?.getD undef = .bool true := hP 39 58 (by kernel_rfl) (by kernel_rfl)
      go_simp
      exact hK _ _ (Below.refl _ _) fun _ => by first | rfl | exact wrap_val (by omega)
    | 41 =>
      simp only [List.getElem?_toArray, List.getElem?_cons_zero, List.getElem?_cons_succ, Option.some.injEq] at hop
      subst hop
      go_simp
      exact hK _ _ (Below.refl _ _) fun _ => by first | rfl | exact wrap_val (by omega)
    | 42 =>
      simp only [List.getElem?_toArray, List.getElem?_cons_zero, List.getElem?_cons_succ, Option.some.injEq] at hop
      subst hop
      go_simp
      exact hK _ _ (Below.refl _ _) fun _ => by first | rfl | exact wrap_val (by omega)
    | 43 =>
      simp only [List.getElem?_toArray, List.getElem?_cons_zero, List.getElem?_cons_succ, Option.some.injEq] at hop
      subst hop
      have n42 : a.tmps[61]?.getD undef = .pointer (some ⟨w.heap.size, 0, none⟩) := hP 42 61 (by kernel_rfl) (by kernel_rfl)
      go_simp
      exact hK _ _ (Below.refl _ _) fun _ => by first | rfl | exact wrap_val (by omega)
    | 44 =>
      simp only [List.getElem?_toArray, List.getElem?_cons_zero, List.getElem?_cons_succ, Option.some.injEq] at hop
      subst hop
      have n43 : a.tmps[62]?.getD undef = .int .i64 13 := hP 43 62 (by kernel_rfl) (by kernel_rfl)
      go_simp
      exact hK _ _ (Below.refl _ _) fun _ => by first | rfl | exact wrap_val (by omega)
    | 45 =>
      simp only [List.getElem?_toArray, List.getElem?_cons_zero, List.getElem?_cons_succ, Option.some.injEq] at hop
      subst hop
      have n44 : a.tmps[63]?.getD undef = .bool true := hP 44 63 (by kernel_rfl) (by kernel_rfl)
      go_simp
      exact hK _ _ (Below.refl _ _) fun _ => by first | rfl | exact wrap_val (by omega)
    | 46 =>
      simp only [List.getElem?_toArray, List.getElem?_cons_zero, List.getElem?_cons_succ, Option.some.injEq] at hop
      subst hop
      go_simp
      exact hK _ _ (Below.refl _ _) fun _ => by first | rfl | exact wrap_val (by omega)
    | 47 =>
      simp only [List.getElem?_toArray, List.getElem?_cons_zero, List.getElem?_cons_succ, Option.some.injEq] at hop
      subst hop
      have n46 : a.tmps[65]?.getD undef = .pointer (some ⟨w.heap.size, 0, none⟩) := hP 46 65 (by kernel_rfl) (by kernel_rfl)
      go_simp
      exact hK _ _ (Below.refl _ _) fun _ => by first | rfl | exact wrap_val (by omega)
    | 48 =>
      simp only [List.getElem?_toArray, List.getElem?_cons_zero, List.getElem?_cons_succ, Option.some.injEq] at hop
      subst hop
      have n47 : a.tmps[66]?.getD undef = .int .i64 13 := hP 47 66 (by kernel_rfl) (by kernel_rfl)
      go_simp
      exact hK _ _ (Below.refl _ _) fun _ => by first | rfl | exact wrap_val (by omega)
    | 49 =>
      simp only [List.getElem?_toArray, List.getElem?_cons_zero, List.getElem?_cons_succ, Option.some.injEq] at hop
      subst hop
      have n45 : a.tmps[64]?.getD undef = .bool true := hP 45 64 (by kernel_rfl) (by kernel_rfl)
      have n48 : a.tmps[67]?.getD undef = .bool false := hP 48 67 (by kernel_rfl) (by kernel_rfl)
      go_simp
      exact hK _ _ (Below.refl _ _) fun _ => by first | rfl | exact wrap_val (by omega)
    | 50 =>
      simp only [List.getElem?_toArray, List.getElem?_cons_zero, List.getElem?_cons_succ, Option.some.injEq] at hop
      subst hop
      have n41 : a.tmps[60]?.getD undef = .bool false := hP 41 60 (by kernel_rfl) (by kernel_rfl)
      have n49 : a.tmps[68]?.getD undef = .bool false := hP 49 68 (by kernel_rfl) (by kernel_rfl)
      go_simp
      exact hK _ _ (Below.refl _ _) fun _ => by first | rfl | exact wrap_val (by omega)
    | 51 =>
      simp only [List.getElem?_toArray, List.getElem?_cons_zero, List.getElem?_cons_succ, Option.some.injEq] at hop
      subst hop
      have n40 : a.tmps[59]?.getD undef = .bool true := hP 40 59 (by kernel_rfl) (by kernel_rfl)
      have n50 : a.tmps[69]?.getD undef = .bool true := hP 50 69 (by kernel_rfl) (by kernel_rfl)
      go_simp
      exact hK _ _ (Below.refl _ _) fun _ => by first | rfl | exact wrap_val (by omega)
    | 52 =>
      simp only [List.getElem?_toArray, List.getElem?_cons_zero, List.getElem?_cons_succ, Option.some.injEq] at hop
      subst hop
      have n51 : a.tmps[70]?.getD undef = .bool true := hP 51 70 (by kernel_rfl) (by kernel_rfl)
      go_simp
      exact hK _ _ (Below.refl _ _) fun _ => by first | rfl | exact wrap_val (by omega)
    | _ + 53 => simp at hop
  · intro V wz hbz hR
    have e52 : V 52 = .bool true := hR 52 (by kernel_rfl)
    clear hR
    refine at_all (prs [19, 20, 21, 22, 23, 24, 25, 26, 27, 28, 29, 30, 31, 32, 33, 34, 35, 36, 37, 38, 39, 40, 41, 42, 43, 44, 45, 46, 47, 48, 49, 50, 51, 52, 53, 54, 55, 56, 57, 58, 59, 60, 61, 62, 63, 64, 65, 66, 67, 68, 69, 70, 2] V) (fun t => by kernel_rfl) ?_
    simp only [prs, List.zipIdx, List.map, List.foldl, Nat.zero_add, Nat.reduceAdd, List.setIfInBounds_toArray, List.set_cons_zero, List.set_cons_succ, e52]
    go_wp2
    go_ret
    exact ⟨rfl, (hbx.trans h13).trans (hbz.mono (Nat.le_trans hbx.size h13.size))⟩

set_option maxHeartbeats 4000000 in
set_option maxRecDepth 100000 in
theorem uses_no (op fd fo fa fb fc fv ft : Int) (d0 : ¬ op = 0) (d1 : ¬ op = 1) (d2 : ¬ op = 2) (d3 : ¬ op = 3) (d4 : ¬ op = 4) (e6 : ¬ op = 6) (f6 : (op != 6) = true) (g6 : (op == 6) = false) (e7 : ¬ op = 7) (g7 : (op == 7) = false) (e13 : ¬ op = 13) (f13 : (op != 13) = true) (w : World) (hV : Vars w.heap.size w) :
    Calls Tryd.prog 3 #[.agg #[.int .i64 op, .int .i64 fd, .int .i64 fo, .int .i64 fa, .int .i64 fb, .int .i64 fc, .int .u64 fv, .int .i64 ft]] w fun e w' => e = .returned (.bool true) ∧ Below w.heap.size w w' := by
  have hbx := (Below.refl w.heap.size w).alloc (Nat.le_refl _) (.cells #[.int .i64 op, .int .i64 fd, .int .i64 fo, .int .i64 fa, .int .i64 fb, .int .i64 fc, .int .u64 fv, .int .i64 ft] 26)
  have HB := Lib.hid (show (w.alloc (.cells #[.int .i64 op, .int .i64 fd, .int .i64 fo, .int .i64 fa, .int .i64 fb, .int .i64 fc, .int .u64 fv, .int .i64 ft] 26)).heap[w.heap.size]? = some (.cells #[.int .i64 op, .int .i64 fd, .int .i64 fo, .int .i64 fa, .int .i64 fb, .int .i64 fc, .int .u64 fv, .int .i64 ft] 26 (0, 0)) by rw [alloc_at, if_pos rfl])
  have PA := fun w1 (hb1 : Below w.heap.size w w1) => awake_any w1 ((hV.on hb1).mono hb1.size)
  have PS := fun w1 => sets_any ⟨op, fd, fo, fa, fb, fc, fv, ft⟩ w1
  have PD := fun w1 => defines_any ⟨op, fd, fo, fa, fb, fc, fv, ft⟩ w1
  have PJ := fun w1 => jumps_any ⟨op, fd, fo, fa, fb, fc, fv, ft⟩ w1
  have PU := fun w1 => uses_any ⟨op, fd, fo, fa, fb, fc, fv, ft⟩ w1
  have PL := fun w1 => luses_any ⟨op, fd, fo, fa, fb, fc, fv, ft⟩ w1
  obtain ⟨U, hU⟩ : ∃ U, U = usesP ⟨op, fd, fo, fa, fb, fc, fv, ft⟩ := ⟨_, rfl⟩
  rw [← hU] at PU PL
  clear hU
  have hD : setsB op = false := by simp [setsB, *]
  have hJ : jumpsB op = false := by simp [jumpsB, *]
  have hG : goesB op = true := by simp [goesB, *]
  simp only [hD] at PS
  simp only [hD, if_true, if_false, Bool.false_eq_true] at PD
  simp only [hJ, hG] at PJ
  clear hD hJ hG
  obtain ⟨W0, hW0⟩ : ∃ W0, W0 = w.heap.size := ⟨_, rfl⟩
  go_enter Tryd.func3, Tryd.ntmps3
  go_wp2_with (first
    | (go_at_call 8; refine (PA _ hbx).mono ?_; rintro ed w1 ⟨rfl, hb1⟩; obtain ⟨x0, x1, x2, x3, x4, x5, x6, x7⟩ := code_cells (keepB hb1 HB.out))
    | (go_at_call 9; refine (PD _).mono ?_; rintro ed w2 ⟨rfl, hb2⟩; have h12 := hb1.trans (hb2.mono hb1.size); obtain ⟨x0, x1, x2, x3, x4, x5, x6, x7⟩ := code_cells (keepB h12 HB.out))
    | (go_at_call 10; refine (PJ _).mono ?_; rintro ed w3 ⟨rfl, hb3⟩; have h13z := h12.trans (hb3.mono h12.size)))
  have HB3 := Lib.hid (keepB h13z HB.out)
  have h13 := h13z.mono (show w.heap.size ≤ (w.alloc (.cells #[.int .i64 op, .int .i64 fd, .int .i64 fo, .int .i64 fa, .int .i64 fb, .int .i64 fc, .int .u64 fv, .int .i64 ft] 26)).heap.size by simp)
  have hW1 : W0 ≤ w3.heap.size := by rw [hW0]; exact Nat.le_trans hbx.size h13.size
  refine wp_region_mono3 (by kernel_rfl) (by kernel_rfl) (by kernel_rfl) (by kernel_rfl) (by kernel_rfl) (fun (i : Nat) (v : Value) (wv : World) => match i with | 0 => v = .bool false | 1 => v = .agg #[.int .i64 op, .int .i64 fd, .int .i64 fo, .int .i64 fa, .int .i64 fb, .int .i64 fc, .int .u64 fv, .int .i64 ft] | 2 => v = .bool false | 3 => v = .bool true | 4 => v = .bool true | 5 => v = .bool false | 6 => v = .bool false | 7 => True | 8 => True | 9 => True | 10 => v = undef | 11 => v = .bool false | 12 => v = .bool false | 13 => v = .bool false | 14 => v = .bool true | 15 => v = .bool true | 16 => v = .int .i64 0 | 17 => v = .bool true | 18 => v = .bool true | 19 => v = .bool true | 20 => v = .bool true | 21 => v = .bool true | 22 => v = .agg #[.int .i64 op, .int .i64 fd, .int .i64 fo, .int .i64 fa, .int .i64 fb, .int .i64 fc, .int .u64 fv, .int .i64 ft] | 23 => Own wv W0 v U | 24 => v = .agg #[.int .i64 op, .int .i64 fd, .int .i64 fo, .int .i64 fa, .int .i64 fb, .int .i64 fc, .int .u64 fv, .int .i64 ft] | 25 => Own wv W0 v U | 26 => v = .bool true | 27 => v = .bool true | 28 => v = .bool true | 29 => v = .bool false | 30 => v = .pointer (some ⟨w.heap.size, 0, none⟩) | 31 => v = .int .i64 op | 32 => v = .bool false | 33 => v = .bool false | 34 => v = .pointer (some ⟨w.heap.size, 0, none⟩) | 35 => v = .int .i64 op | 36 => v = .bool false | 37 => v = .bool false | 38 => v = .bool true | 39 => v = .bool true | 40 => v = .bool true | 41 => v = .bool true | 42 => v = .pointer (some ⟨w.heap.size, 0, none⟩) | 43 => v = .int .i64 op | 44 => v = .bool true | 45 => v = .bool true | 46 => v = .pointer (some ⟨w.heap.size, 0, none⟩) | 47 => v = .int .i64 op | 48 => v = .bool true | 49 => v = .bool true | 50 => v = .bool true | 51 => v = .bool true | 52 => v = .bool true | _ => True) ?_ [(4, true), (12, false), (15, true), (21, true), (28, true), (33, false), (40, true), (45, true)] [(6, true)] (by kernel_rfl) ?_ ?_ ?_ ?_ ?_
  · intro i v w w' hb h
    match i with
    | 0 => exact h
    | 1 => exact h
    | 2 => exact h
    | 3 => exact h
    | 4 => exact h
    | 5 => exact h
    | 6 => exact h
    | 7 => exact h
    | 8 => exact h
    | 9 => exact h
    | 10 => exact h
    | 11 => exact h
    | 12 => exact h
    | 13 => exact h
    | 14 => exact h
    | 15 => exact h
    | 16 => exact h
    | 17 => exact h
    | 18 => exact h
    | 19 => exact h
    | 20 => exact h
    | 21 => exact h
    | 22 => exact h
    | 23 => exact Own.on h hb
    | 24 => exact h
    | 25 => exact Own.on h hb
    | 26 => exact h
    | 27 => exact h
    | 28 => exact h
    | 29 => exact h
    | 30 => exact h
    | 31 => exact h
    | 32 => exact h
    | 33 => exact h
    | 34 => exact h
    | 35 => exact h
    | 36 => exact h
    | 37 => exact h
    | 38 => exact h
    | 39 => exact h
    | 40 => exact h
    | 41 => exact h
    | 42 => exact h
    | 43 => exact h
    | 44 => exact h
    | 45 => exact h
    | 46 => exact h
    | 47 => exact h
    | 48 => exact h
    | 49 => exact h
    | 50 => exact h
    | 51 => exact h
    | 52 => exact h
    | _ + 53 => trivial
  · intro p hp v w h
    simp only [List.mem_cons, List.not_mem_nil, or_false] at hp
    rcases hp with rfl | rfl | rfl | rfl | rfl | rfl | rfl | rfl
    · exact h
    · exact h
    · exact h
    · exact h
    · exact h
    · exact h
    · exact h
    · exact h
  · intro p hp v w h
    simp only [List.mem_cons, List.not_mem_nil, or_false] at hp
    subst hp
    first | exact .inl h | exact .inr h
  · intro i o p ho hg hp w
    match i with
    | 0 => simp only [List.getElem?_toArray, List.getElem?_cons_zero, List.getElem?_cons_succ, Option.some.injEq] at ho; subst ho; first | (cases hg; done) | (cases hg; simp at hp; done)
    | 1 => simp only [List.getElem?_toArray, List.getElem?_cons_zero, List.getElem?_cons_succ, Option.some.injEq] at ho; subst ho; first | (cases hg; done) | (cases hg; simp at hp; done)
    | 2 => simp only [List.getElem?_toArray, List.getElem?_cons_zero, List.getElem?_cons_succ, Option.some.injEq] at ho; subst ho; first | (cases hg; done) | (cases hg; simp at hp; done)
    | 3 => simp only [List.getElem?_toArray, List.getElem?_cons_zero, List.getElem?_cons_succ, Option.some.injEq] at ho; subst ho; first | (cases hg; done) | (cases hg; simp at hp; done)
    | 4 => simp only [List.getElem?_toArray, List.getElem?_cons_zero, List.getElem?_cons_succ, Option.some.injEq] at ho; subst ho; first | (cases hg; done) | (cases hg; simp at hp; done)
    | 5 => simp only [List.getElem?_toArray, List.getElem?_cons_zero, List.getElem?_cons_succ, Option.some.injEq] at ho; subst ho; first | (cases hg; done) | (cases hg; simp at hp; done)
    | 6 => simp only [List.getElem?_toArray, List.getElem?_cons_zero, List.getElem?_cons_succ, Option.some.injEq] at ho; subst ho; first | (cases hg; done) | (cases hg; simp at hp; done)
    | 7 => exact trivial
    | 8 => exact trivial
    | 9 => exact trivial
    | 10 => exact rfl
    | 11 => simp only [List.getElem?_toArray, List.getElem?_cons_zero, List.getElem?_cons_succ, Option.some.injEq] at ho; subst ho; first | (cases hg; done) | (cases hg; simp at hp; done)
    | 12 => simp only [List.getElem?_toArray, List.getElem?_cons_zero, List.getElem?_cons_succ, Option.some.injEq] at ho; subst ho; first | (cases hg; done) | (cases hg; simp at hp; done)
    | 13 => simp only [List.getElem?_toArray, List.getElem?_cons_zero, List.getElem?_cons_succ, Option.some.injEq] at ho; subst ho; first | (cases hg; done) | (cases hg; simp at hp; done)
    | 14 => simp only [List.getElem?_toArray, List.getElem?_cons_zero, List.getElem?_cons_succ, Option.some.injEq] at ho; subst ho; first | (cases hg; done) | (cases hg; simp at hp; done)
    | 15 => simp only [List.getElem?_toArray, List.getElem?_cons_zero, List.getElem?_cons_succ, Option.some.injEq] at ho; subst ho; first | (cases hg; done) | (cases hg; simp at hp; done)
    | 16 => simp only [List.getElem?_toArray, List.getElem?_cons_zero, List.getElem?_cons_succ, Option.some.injEq] at ho; subst ho; first | (cases hg; done) | (cases hg; simp at hp; done)
    | 17 => simp only [List.getElem?_toArray, List.getElem?_cons_zero, List.getElem?_cons_succ, Option.some.injEq] at ho; subst ho; first | (cases hg; done) | (cases hg; simp at hp; done)
    | 18 => simp only [List.getElem?_toArray, List.getElem?_cons_zero, List.getElem?_cons_succ, Option.some.injEq] at ho; subst ho; first | (cases hg; done) | (cases hg; simp at hp; done)
    | 19 => simp only [List.getElem?_toArray, List.getElem?_cons_zero, List.getElem?_cons_succ, Option.some.injEq] at ho; subst ho; first | (cases hg; done) | (cases hg; simp at hp; done)
    | 20 => simp only [List.getElem?_toArray, List.getElem?_cons_zero, List.getElem?_cons_succ, Option.some.injEq] at ho; subst ho; first | (cases hg; done) | (cases hg; simp at hp; done)
    | 21 => simp only [List.getElem?_toArray, List.getElem?_cons_zero, List.getElem?_cons_succ, Option.some.injEq] at ho; subst ho; first | (cases hg; done) | (cases hg; simp at hp; done)
    | 22 => simp only [List.getElem?_toArray, List.getElem?_cons_zero, List.getElem?_cons_succ, Option.some.injEq] at ho; subst ho; first | (cases hg; done) | (cases hg; simp at hp; done)
    | 23 => simp only [List.getElem?_toArray, List.getElem?_cons_zero, List.getElem?_cons_succ, Option.some.injEq] at ho; subst ho; first | (cases hg; done) | (cases hg; simp at hp; done)
    | 24 => simp only [List.getElem?_toArray, List.getElem?_cons_zero, List.getElem?_cons_succ, Option.some.injEq] at ho; subst ho; first | (cases hg; done) | (cases hg; simp at hp; done)
    | 25 => simp only [List.getElem?_toArray, List.getElem?_cons_zero, List.getElem?_cons_succ, Option.some.injEq] at ho; subst ho; first | (cases hg; done) | (cases hg; simp at hp; done)
    | 26 => simp only [List.getElem?_toArray, List.getElem?_cons_zero, List.getElem?_cons_succ, Option.some.injEq] at ho; subst ho; first | (cases hg; done) | (cases hg; simp at hp; done)
    | 27 => simp only [List.getElem?_toArray, List.getElem?_cons_zero, List.getElem?_cons_succ, Option.some.injEq] at ho; subst ho; first | (cases hg; done) | (cases hg; simp at hp; done)
    | 28 => simp only [List.getElem?_toArray, List.getElem?_cons_zero, List.getElem?_cons_succ, Option.some.injEq] at ho; subst ho; first | (cases hg; done) | (cases hg; simp at hp; done)
    | 29 => simp only [List.getElem?_toArray, List.getElem?_cons_zero, List.getElem?_cons_succ, Option.some.injEq] at ho; subst ho; first | (cases hg; done) | (cases hg; simp at hp; done)
    | 30 => simp only [List.getElem?_toArray, List.getElem?_cons_zero, List.getElem?_cons_succ, Option.some.injEq] at ho; subst ho; first | (cases hg; done) | (cases hg; simp at hp; done)
    | 31 => simp only [List.getElem?_toArray, List.getElem?_cons_zero, List.getElem?_cons_succ, Option.some.injEq] at ho; subst ho; first | (cases hg; done) | (cases hg; simp at hp; done)
    | 32 => simp only [List.getElem?_toArray, List.getElem?_cons_zero, List.getElem?_cons_succ, Option.some.injEq] at ho; subst ho; first | (cases hg; done) | (cases hg; simp at hp; done)
    | 33 => simp only [List.getElem?_toArray, List.getElem?_cons_zero, List.getElem?_cons_succ, Option.some.injEq] at ho; subst ho; first | (cases hg; done) | (cases hg; simp at hp; done)
    | 34 => simp only [List.getElem?_toArray, List.getElem?_cons_zero, List.getElem?_cons_succ, Option.some.injEq] at ho; subst ho; first | (cases hg; done) | (cases hg; simp at hp; done)
    | 35 => simp only [List.getElem?_toArray, List.getElem?_cons_zero, List.getElem?_cons_succ, Option.some.injEq] at ho; subst ho; first | (cases hg; done) | (cases hg; simp at hp; done)
    | 36 => simp only [List.getElem?_toArray, List.getElem?_cons_zero, List.getElem?_cons_succ, Option.some.injEq] at ho; subst ho; first | (cases hg; done) | (cases hg; simp at hp; done)
    | 37 => simp only [List.getElem?_toArray, List.getElem?_cons_zero, List.getElem?_cons_succ, Option.some.injEq] at ho; subst ho; first | (cases hg; done) | (cases hg; simp at hp; done)
    | 38 => simp only [List.getElem?_toArray, List.getElem?_cons_zero, List.getElem?_cons_succ, Option.some.injEq] at ho; subst ho; first | (cases hg; done) | (cases hg; simp at hp; done)
    | 39 => simp only [List.getElem?_toArray, List.getElem?_cons_zero, List.getElem?_cons_succ, Option.some.injEq] at ho; subst ho; first | (cases hg; done) | (cases hg; simp at hp; done)
    | 40 => simp only [List.getElem?_toArray, List.getElem?_cons_zero, List.getElem?_cons_succ, Option.some.injEq] at ho; subst ho; first | (cases hg; done) | (cases hg; simp at hp; done)
    | 41 => simp only [List.getElem?_toArray, List.getElem?_cons_zero, List.getElem?_cons_succ, Option.some.injEq] at ho; subst ho; first | (cases hg; done) | (cases hg; simp at hp; done)
    | 42 => simp only [List.getElem?_toArray, List.getElem?_cons_zero, List.getElem?_cons_succ, Option.some.injEq] at ho; subst ho; first | (cases hg; done) | (cases hg; simp at hp; done)
    | 43 => simp only [List.getElem?_toArray, List.getElem?_cons_zero, List.getElem?_cons_succ, Option.some.injEq] at ho; subst ho; first | (cases hg; done) | (cases hg; simp at hp; done)
    | 44 => simp only [List.getElem?_toArray, List.getElem?_cons_zero, List.getElem?_cons_succ, Option.some.injEq] at ho; subst ho; first | (cases hg; done) | (cases hg; simp at hp; done)
    | 45 => simp only [List.getElem?_toArray, List.getElem?_cons_zero, List.getElem?_cons_succ, Option.some.injEq] at ho; subst ho; first | (cases hg; done) | (cases hg; simp at hp; done)
    | 46 => simp only [List.getElem?_toArray, List.getElem?_cons_zero, List.getElem?_cons_succ, Option.some.injEq] at ho; subst ho; first | (cases hg; done) | (cases hg; simp at hp; done)
    | 47 => simp only [List.getElem?_toArray, List.getElem?_cons_zero, List.getElem?_cons_succ, Option.some.injEq] at ho; subst ho; first | (cases hg; done) | (cases hg; simp at hp; done)
    | 48 => simp only [List.getElem?_toArray, List.getElem?_cons_zero, List.getElem?_cons_succ, Option.some.injEq] at ho; subst ho; first | (cases hg; done) | (cases hg; simp at hp; done)
    | 49 => simp only [List.getElem?_toArray, List.getElem?_cons_zero, List.getElem?_cons_succ, Option.some.injEq] at ho; subst ho; first | (cases hg; done) | (cases hg; simp at hp; done)
    | 50 => simp only [List.getElem?_toArray, List.getElem?_cons_zero, List.getElem?_cons_succ, Option.some.injEq] at ho; subst ho; first | (cases hg; done) | (cases hg; simp at hp; done)
    | 51 => simp only [List.getElem?_toArray, List.getElem?_cons_zero, List.getElem?_cons_succ, Option.some.injEq] at ho; subst ho; first | (cases hg; done) | (cases hg; simp at hp; done)
    | 52 => simp only [List.getElem?_toArray, List.getElem?_cons_zero, List.getElem?_cons_succ, Option.some.injEq] at ho; subst ho; first | (cases hg; done) | (cases hg; simp at hp; done)
    | _ + 53 => exact trivial
  · intro a wr i op hop hno hb hF hP K hK
    have s1 : a.tmps[1]?.getD undef = .pointer (some ⟨w.heap.size, 0, none⟩) := (hF 1 (by kernel_rfl)).trans rfl
    have s3 : a.tmps[3]?.getD undef = .int .i64 0 := (hF 3 (by kernel_rfl)).trans rfl
    have s4 : a.tmps[4]?.getD undef = .bool false := (hF 4 (by kernel_rfl)).trans rfl
    have s5 : a.tmps[5]?.getD undef = .bool false := (hF 5 (by kernel_rfl)).trans rfl
    have s6 : a.tmps[6]?.getD undef = .bool true := (hF 6 (by kernel_rfl)).trans rfl
    obtain ⟨x0, x1, x2, x3, x4, x5, x6, x7⟩ := code_cells (keepB hb HB3.out)
    match i with
    | 0 =>
      simp only [List.getElem?_toArray, List.getElem?_cons_zero, List.getElem?_cons_succ, Option.some.injEq] at hop
      subst hop
      go_simp
      exact hK _ _ (Below.refl _ _) fun _ => by first | rfl | exact wrap_val (by omega)
    | 1 =>
      simp only [List.getElem?_toArray, List.getElem?_cons_zero, List.getElem?_cons_succ, Option.some.injEq] at hop
      subst hop
      go_simp
      exact hK _ _ (Below.refl _ _) fun _ => by first | rfl | exact wrap_val (by omega)
    | 2 =>
      simp only [List.getElem?_toArray, List.getElem?_cons_zero, List.getElem?_cons_succ, Option.some.injEq] at hop
      subst hop
      have n1 : a.tmps[20]?.getD undef = .agg #[.int .i64 op, .int .i64 fd, .int .i64 fo, .int .i64 fa, .int .i64 fb, .int .i64 fc, .int .u64 fv, .int .i64 ft] := hP 1 20 (by kernel_rfl) (by kernel_rfl)
      go_simp
      go_at_call 11
      refine (PS wr).mono ?_
      rintro ed w5 ⟨rfl, hb5⟩
      go_simp
      exact hK _ _ hb5 fun _ => rfl
    | 3 =>
      simp only [List.getElem?_toArray, List.getElem?_cons_zero, List.getElem?_cons_succ, Option.some.injEq] at hop
      subst hop
      have n0 : a.tmps[19]?.getD undef = .bool false := hP 0 19 (by kernel_rfl) (by kernel_rfl)
      have n2 : a.tmps[21]?.getD undef = .bool false := hP 2 21 (by kernel_rfl) (by kernel_rfl)
      go_simp
      exact hK _ _ (Below.refl _ _) fun _ => by first | rfl | exact wrap_val (by omega)
    | 4 =>
      simp only [List.getElem?_toArray, List.getElem?_cons_zero, List.getElem?_cons_succ, Option.some.injEq] at hop
      subst hop
      have n3 : a.tmps[22]?.getD undef = .bool true := hP 3 22 (by kernel_rfl) (by kernel_rfl)
      go_simp
      exact hK _ _ (Below.refl _ _) fun _ => by first | rfl | exact wrap_val (by omega)
    | 5 =>
      simp only [List.getElem?_toArray, List.getElem?_cons_zero, List.getElem?_cons_succ, Option.some.injEq] at hop
      subst hop
      go_simp
      exact hK _ _ (Below.refl _ _) fun _ => by first | rfl | exact wrap_val (by omega)
    | 6 =>
      simp only [List.getElem?_toArray, List.getElem?_cons_zero, List.getElem?_cons_succ, Option.some.injEq] at hop
      subst hop
      have n5 : a.tmps[24]?.getD undef = .bool false := hP 5 24 (by kernel_rfl) (by kernel_rfl)
      go_simp
      exact hK _ _ (Below.refl _ _) fun _ => by first | rfl | exact wrap_val (by omega)
    | 7 =>
      simp only [List.getElem?_toArray, List.getElem?_cons_zero, List.getElem?_cons_succ, Option.some.injEq] at hop
      subst hop
      exact absurd (by simp) (hno _ rfl)
    | 8 =>
      simp only [List.getElem?_toArray, List.getElem?_cons_zero, List.getElem?_cons_succ, Option.some.injEq] at hop
      subst hop
      exact absurd (by simp) (hno _ rfl)
    | 9 =>
      simp only [List.getElem?_toArray, List.getElem?_cons_zero, List.getElem?_cons_succ, Option.some.injEq] at hop
      subst hop
      exact absurd (by simp) (hno _ rfl)
    | 10 =>
      simp only [List.getElem?_toArray, List.getElem?_cons_zero, List.getElem?_cons_succ, Option.some.injEq] at hop
      subst hop
      exact absurd (by simp) (hno _ rfl)
    | 11 =>
      simp only [List.getElem?_toArray, List.getElem?_cons_zero, List.getElem?_cons_succ, Option.some.injEq] at hop
      subst hop
      have n6 : a.tmps[25]?.getD undef = .bool false := hP 6 25 (by kernel_rfl) (by kernel_rfl)
      have n10 : a.tmps[29]?.getD undef = undef := hP 10 29 (by kernel_rfl) (by kernel_rfl)
      go_simp
      exact hK _ _ (Below.refl _ _) fun _ => by first | rfl | exact wrap_val (by omega)
    | 12 =>
      simp only [List.getElem?_toArray, List.getElem?_cons_zero, List.getElem?_cons_succ, Option.some.injEq] at hop
      subst hop
      have n11 : a.tmps[30]?.getD undef = .bool false := hP 11 30 (by kernel_rfl) (by kernel_rfl)
      go_simp
      exact hK _ _ (Below.refl _ _) fun _ => by first | rfl | exact wrap_val (by omega)
    | 13 =>
      simp only [List.getElem?_toArray, List.getElem?_cons_zero, List.getElem?_cons_succ, Option.some.injEq] at hop
      subst hop
      go_simp
      exact hK _ _ (Below.refl _ _) fun _ => by first | rfl | exact wrap_val (by omega)
    | 14 =>
      simp only [List.getElem?_toArray, List.getElem?_cons_zero, List.getElem?_cons_succ, Option.some.injEq] at hop
      subst hop
      have n13 : a.tmps[32]?.getD undef = .bool false := hP 13 32 (by kernel_rfl) (by kernel_rfl)
      go_simp
      exact hK _ _ (Below.refl _ _) fun _ => by first | rfl | exact wrap_val (by omega)
    | 15 =>
      simp only [List.getElem?_toArray, List.getElem?_cons_zero, List.getElem?_cons_succ, Option.some.injEq] at hop
      subst hop
      have n14 : a.tmps[33]?.getD undef = .bool true := hP 14 33 (by kernel_rfl) (by kernel_rfl)
      go_simp
      exact hK _ _ (Below.refl _ _) fun _ => by first | rfl | exact wrap_val (by omega)
    | 16 =>
      simp only [List.getElem?_toArray, List.getElem?_cons_zero, List.getElem?_cons_succ, Option.some.injEq] at hop
      subst hop
      go_simp
      exact hK _ _ (Below.refl _ _) fun _ => by first | rfl | exact wrap_val (by omega)
    | 17 =>
      simp only [List.getElem?_toArray, List.getElem?_cons_zero, List.getElem?_cons_succ, Option.some.injEq] at hop
      subst hop
      have n16 : a.tmps[35]?.getD undef = .int .i64 0 := hP 16 35 (by kernel_rfl) (by kernel_rfl)
      go_simp
      exact hK _ _ (Below.refl _ _) fun _ => by first | rfl | exact wrap_val (by omega)
    | 18 =>
      simp only [List.getElem?_toArray, List.getElem?_cons_zero, List.getElem?_cons_succ, Option.some.injEq] at hop
      subst hop
      have n15 : a.tmps[34]?.getD undef = .bool true := hP 15 34 (by kernel_rfl) (by kernel_rfl)
      have n17 : a.tmps[36]?.getD undef = .bool true := hP 17 36 (by kernel_rfl) (by kernel_rfl)
      go_simp
      exact hK _ _ (Below.refl _ _) fun _ => by first | rfl | exact wrap_val (by omega)
    | 19 =>
      simp only [List.getElem?_toArray, List.getElem?_cons_zero, List.getElem?_cons_succ, Option.some.injEq] at hop
      subst hop
      have n12 : a.tmps[31]?.getD undef = .bool false := hP 12 31 (by kernel_rfl) (by kernel_rfl)
      have n18 : a.tmps[37]?.getD undef = .bool true := hP 18 37 (by kernel_rfl) (by kernel_rfl)
      go_simp
      exact hK _ _ (Below.refl _ _) fun _ => by first | rfl | exact wrap_val (by omega)
    | 20 =>
      simp only [List.getElem?_toArray, List.getElem?_cons_zero, List.getElem?_cons_succ, Option.some.injEq] at hop
      subst hop
      have n4 : a.tmps[23]?.getD undef = .bool true := hP 4 23 (by kernel_rfl) (by kernel_rfl)
      have n19 : a.tmps[38]?.getD undef = .bool true := hP 19 38 (by kernel_rfl) (by kernel_rfl)
      go_simp
      exact hK _ _ (Below.refl _ _) fun _ => by first | rfl | exact wrap_val (by omega)
    | 21 =>
      simp only [List.getElem?_toArray, List.getElem?_cons_zero, List.getElem?_cons_succ, Option.some.injEq] at hop
      subst hop
      have n20 : a.tmps[39]?.getD undef = .bool true := hP 20 39 (by kernel_rfl) (by kernel_rfl)
      go_simp
      exact hK _ _ (Below.refl _ _) fun _ => by first | rfl | exact wrap_val (by omega)
    | 22 =>
      simp only [List.getElem?_toArray, List.getElem?_cons_zero, List.getElem?_cons_succ, Option.some.injEq] at hop
      subst hop
      go_simp
      exact hK _ _ (Below.refl _ _) fun _ => by first | rfl | exact wrap_val (by omega)
    | 23 =>
      simp only [List.getElem?_toArray, List.getElem?_cons_zero, List.getElem?_cons_succ, Option.some.injEq] at hop
      subst hop
      have n22 : a.tmps[41]?.getD undef = .agg #[.int .i64 op, .int .i64 fd, .int .i64 fo, .int .i64 fa, .int .i64 fb, .int .i64 fc, .int .u64 fv, .int .i64 ft] := hP 22 41 (by kernel_rfl) (by kernel_rfl)
      go_simp
      go_at_call 13
      refine (PU wr).mono ?_
      rintro ed w5 ⟨v5, rfl, ho5, hb5⟩
      go_simp
      exact hK _ _ hb5 fun _ => ho5.base (Nat.le_trans hW1 hb.size)
    | 24 =>
      simp only [List.getElem?_toArray, List.getElem?_cons_zero, List.getElem?_cons_succ, Option.some.injEq] at hop
      subst hop
      go_simp
      exact hK _ _ (Below.refl _ _) fun _ => by first | rfl | exact wrap_val (by omega)
    | 25 =>
      simp only [List.getElem?_toArray, List.getElem?_cons_zero, List.getElem?_cons_succ, Option.some.injEq] at hop
      subst hop
      have n24 : a.tmps[43]?.getD undef = .agg #[.int .i64 op, .int .i64 fd, .int .i64 fo, .int .i64 fa, .int .i64 fb, .int .i64 fc, .int .u64 fv, .int .i64 ft] := hP 24 43 (by kernel_rfl) (by kernel_rfl)
      go_simp
      go_at_call 14
      refine (PL wr).mono ?_
      rintro ed w5 ⟨v5, rfl, ho5, hb5⟩
      go_simp
      exact hK _ _ hb5 fun _ => ho5.base (Nat.le_trans hW1 hb.size)
    | 26 =>
      simp only [List.getElem?_toArray, List.getElem?_cons_zero, List.getElem?_cons_succ, Option.some.injEq] at hop
      subst hop
      obtain ⟨va, n23, ha⟩ : ∃ va, a.tmps[42]?.getD undef = va ∧ Own wr W0 va U := ⟨_, rfl, (hP 23 42 (by kernel_rfl) (by kernel_rfl))⟩
      obtain ⟨vb, n25, hbo⟩ : ∃ vb, a.tmps[44]?.getD undef = vb ∧ Own wr W0 vb U := ⟨_, rfl, (hP 25 44 (by kernel_rfl) (by kernel_rfl))⟩
      go_simp
      go_at_call 12
      refine (same_any U U va vb wr ha.nums hbo.nums).mono ?_
      rintro ed w5 ⟨rfl, hb5⟩
      rw [decide_eq_true (rfl : U = U)]
      go_simp
      exact hK _ _ hb5 fun _ => rfl
    | 27 =>
      simp only [List.getElem?_toArray, List.getElem?_cons_zero, List.getElem?_cons_succ, Option.some.injEq] at hop
      subst hop
      have n21 : a.tmps[40]?.getD undef = .bool true := hP 21 40 (by kernel_rfl) (by kernel_rfl)
      have n26 : a.tmps[45]?.getD undef = .bool true := hP 26 45 (by kernel_rfl) (by kernel_rfl)
      go_simp
      exact hK _ _ (Below.refl _ _) fun _ => by first | rfl | exact wrap_val (by omega)
    | 28 =>
      simp only [List.getElem?_toArray, List.getElem?_cons_zero, List.getElem?_cons_succ, Option.some.injEq] at hop
      subst hop
      have n27 : a.tmps[46]?.getD undef = .bool true := hP 27 46 (by kernel_rfl) (by kernel_rfl)
      go_simp
      exact hK _ _ (Below.refl _ _) fun _ => by first | rfl | exact wrap_val (by omega)
    | 29 =>
      simp only [List.getElem?_toArray, List.getElem?_cons_zero, List.getElem?_cons_succ, Option.some.injEq] at hop
      subst hop
      go_simp
      exact hK _ _ (Below.refl _ _) fun _ => by first | rfl | exact wrap_val (by omega)
    | 30 =>
      simp only [List.getElem?_toArray, List.getElem?_cons_zero, List.getElem?_cons_succ, Option.some.injEq] at hop
      subst hop
      go_simp
      exact hK _ _ (Below.refl _ _) fun _ => by first | rfl | exact wrap_val (by omega)
    | 31 =>
      simp only [List.getElem?_toArray, List.getElem?_cons_zero, List.getElem?_cons_succ, Option.some.injEq] at hop
      subst hop
      have n30 : a.tmps[49]?.getD undef = .pointer (some ⟨w.heap.size, 0, none⟩) := hP 30 49 (by kernel_rfl) (by kernel_rfl)
      go_simp
      exact hK _ _ (Below.refl _ _) fun _ => by first | rfl | exact wrap_val (by omega)
    | 32 =>
      simp only [List.getElem?_toArray, List.getElem?_cons_zero, List.getElem?_cons_succ, Option.some.injEq] at hop
      subst hop
      have n31 : a.tmps[50]?.getD undef = .int .i64 op := hP 31 50 (by kernel_rfl) (by kernel_rfl)
      go_simp
      exact hK _ _ (Below.refl _ _) fun _ => by first | rfl | exact wrap_val (by omega)
    | 33 =>
      simp only [List.getElem?_toArray, List.getElem?_cons_zero, List.getElem?_cons_succ, Option.some.injEq] at hop
      subst hop
      have n32 : a.tmps[51]?.getD undef = .bool false := hP 32 51 (by kernel_rfl) (by kernel_rfl)
      go_simp
      exact hK _ _ (Below.refl _ _) fun _ => by first | rfl | exact wrap_val (by omega)
    | 34 =>
      simp only [List.getElem?_toArray, List.getElem?_cons_zero, List.getElem?_cons_succ, Option.some.injEq] at hop
      subst hop
      go_simp
      exact hK _ _ (Below.refl _ _) fun _ => by first | rfl | exact wrap_val (by omega)
    | 35 =>
      simp only [List.getElem?_toArray, List.getElem?_cons_zero, List.getElem?_cons_succ, Option.some.injEq] at hop
      subst hop
      have n34 : a.tmps[53]?.getD undef = .pointer (some ⟨w.heap.size, 0, none⟩) := hP 34 53 (by kernel_rfl) (by kernel_rfl)
      go_simp
      exact hK _ _ (Below.refl _ _) fun _ => by first | rfl | exact wrap_val (by omega)
    | 36 =>
      simp only [List.getElem?_toArray, List.getElem?_cons_zero, List.getElem?_cons_succ, Option.some.injEq] at hop
      subst hop
      have n35 : a.tmps[54]?.getD undef = .int .i64 op := hP 35 54 (by kernel_rfl) (by kernel_rfl)
      go_simp
      exact hK _ _ (Below.refl _ _) fun _ => by first | rfl | exact wrap_val (by omega)
    | 37 =>
      simp only [List.getElem?_toArray, List.getElem?_cons_zero, List.getElem?_cons_succ, Option.some.injEq] at hop
      subst hop
      have n33 : a.tmps[52]?.getD undef = .bool false := hP 33 52 (by kernel_rfl) (by kernel_rfl)
      have n36 : a.tmps[55]?.getD undef = .bool false := hP 36 55 (by kernel_rfl) (by kernel_rfl)
      go_simp
      exact hK _ _ (Below.refl _ _) fun _ => by first | rfl | exact wrap_val (by omega)
    | 38 =>
      simp only [List.getElem?_toArray, List.getElem?_cons_zero, List.getElem?_cons_succ, Option.some.injEq] at hop
      subst hop
      have n29 : a.tmps[48]?.getD undef = .bool false := hP 29 48 (by kernel_rfl) (by kernel_rfl)
      have n37 : a.tmps[56]?.getD undef = .bool false := hP 37 56 (by kernel_rfl) (by kernel_rfl)
      go_simp
      exact hK _ _ (Below.refl _ _) fun _ => by first | rfl | exact wrap_val (by omega)
    | 39 =>
      simp only [List.getElem?_toArray, List.getElem?_cons_zero, List.getElem?_cons_succ, Option.some.injEq] at hop
      subst hop
      have n28 : a.tmps[47]?.getD undef = .bool true := hP 28 47 (by kernel_rfl) (by kernel_rfl)
      have n38 : a.tmps[57]?.getD undef = .bool true := hP 38 57 (by kernel_rfl) (by kernel_rfl)
      go_simp
      exact hK _ _ (Below.refl _ _) fun _ => by first | rfl | exact wrap_val (by omega)
    | 40 =>
      simp only [List.getElem?_toArray, List.getElem?_cons_zero, List.getElem?_cons_succ, Option.some.injEq] at hop
      subst hop
      have n39 : a.tmps[58]?.getD undef = .bool true := hP 39 58 (by kernel_rfl) (by kernel_rfl)
      go_simp
      exact hK _ _ (Below.refl _ _) fun _ => by first | rfl | exact wrap_val (by omega)
    | 41 =>
      simp only [List.getElem?_toArray, List.getElem?_cons_zero, List.getElem?_cons_succ, Option.some.injEq] at hop
      subst hop
      go_simp
      exact hK _ _ (Below.refl _ _) fun _ => by first | rfl | exact wrap_val (by omega)
    | 42 =>
      simp only [List.getElem?_toArray, List.getElem?_cons_zero, List.getElem?_cons_succ, Option.some.injEq] at hop
      subst hop
      go_simp
      exact hK _ _ (Below.refl _ _) fun _ => by first | rfl | exact wrap_val (by omega)
    | 43 =>
      simp only [List.getElem?_toArray, List.getElem?_cons_zero, List.getElem?_cons_succ, Option.some.injEq] at hop
      subst hop
      have n42 : a.tmps[61]?.getD undef = .pointer (some ⟨w.heap.size, 0, none⟩) := hP 42 61 (by kernel_rfl) (by kernel_rfl)
      go_simp
      exact hK _ _ (Below.refl _ _) fun _ => by first | rfl | exact wrap_val (by omega)
    | 44 =>
      simp only [List.getElem?_toArray, List.getElem?_cons_zero, List.getElem?_cons_succ, Option.some.injEq] at hop
      subst hop
      have n43 : a.tmps[62]?.getD undef = .int .i64 op := hP 43 62 (by kernel_rfl) (by kernel_rfl)
      go_simp
      exact hK _ _ (Below.refl _ _) fun _ => by first | rfl | exact wrap_val (by omega)
    | 45 =>
      simp only [List.getElem?_toArray, List.getElem?_cons_zero, List.getElem?_cons_succ, Option.some.injEq] at hop
      subst hop
      have n44 : a.tmps[63]?.getD undef = .bool true := hP 44 63 (by kernel_rfl) (by kernel_rfl)
      go_simp
      exact hK _ _ (Below.refl _ _) fun _ => by first | rfl | exact wrap_val (by omega)
    | 46 =>
      simp only [List.getElem?_toArray, List.getElem?_cons_zero, List.getElem?_cons_succ, Option.some.injEq] at hop
      subst hop
      go_simp
      exact hK _ _ (Below.refl _ _) fun _ => by first | rfl | exact wrap_val (by omega)
    | 47 =>
      simp only [List.getElem?_toArray, List.getElem?_cons_zero, List.getElem?_cons_succ, Option.some.injEq] at hop
      subst hop
      have n46 : a.tmps[65]?.getD undef = .pointer (some ⟨w.heap.size, 0, none⟩) := hP 46 65 (by kernel_rfl) (by kernel_rfl)
      go_simp
      exact hK _ _ (Below.refl _ _) fun _ => by first | rfl | exact wrap_val (by omega)
    | 48 =>
      simp only [List.getElem?_toArray, List.getElem?_cons_zero, List.getElem?_cons_succ, Option.some.injEq] at hop
      subst hop
      have n47 : a.tmps[66]?.getD undef = .int .i64 op := hP 47 66 (by kernel_rfl) (by kernel_rfl)
      go_simp
      exact hK _ _ (Below.refl _ _) fun _ => by first | rfl | exact wrap_val (by omega)
    | 49 =>
      simp only [List.getElem?_toArray, List.getElem?_cons_zero, List.getElem?_cons_succ, Option.some.injEq] at hop
      subst hop
      have n45 : a.tmps[64]?.getD undef = .bool true := hP 45 64 (by kernel_rfl) (by kernel_rfl)
      have n48 : a.tmps[67]?.getD undef = .bool true := hP 48 67 (by kernel_rfl) (by kernel_rfl)
      go_simp
      exact hK _ _ (Below.refl _ _) fun _ => by first | rfl | exact wrap_val (by omega)
    | 50 =>
      simp only [List.getElem?_toArray, List.getElem?_cons_zero, List.getElem?_cons_succ, Option.some.injEq] at hop
      subst hop
      have n41 : a.tmps[60]?.getD undef = .bool true := hP 41 60 (by kernel_rfl) (by kernel_rfl)
      have n49 : a.tmps[68]?.getD undef = .bool true := hP 49 68 (by kernel_rfl) (by kernel_rfl)
      go_simp
      exact hK _ _ (Below.refl _ _) fun _ => by first | rfl | exact wrap_val (by omega)
    | 51 =>
      simp only [List.getElem?_toArray, List.getElem?_cons_zero, List.getElem?_cons_succ, Option.some.injEq] at hop
      subst hop
      have n40 : a.tmps[59]?.getD undef = .bool true := hP 40 59 (by kernel_rfl) (by kernel_rfl)
      have n50 : a.tmps[69]?.getD undef = .bool true := hP 50 69 (by kernel_rfl) (by kernel_rfl)
      go_simp
      exact hK _ _ (Below.refl _ _) fun _ => by first | rfl | exact wrap_val (by omega)
    | 52 =>
      simp only [List.getElem?_toArray, List.getElem?_cons_zero, List.getElem?_cons_succ, Option.some.injEq] at hop
      subst hop
      have n51 : a.tmps[70]?.getD undef = .bool true := hP 51 70 (by kernel_rfl) (by kernel_rfl)
      go_simp
      exact hK _ _ (Below.refl _ _) fun _ => by first | rfl | exact wrap_val (by omega)
    | _ + 53 => simp at hop
  · intro V wz hbz hR
    have e52 : V 52 = .bool true := hR 52 (by kernel_rfl)
    clear hR
    refine at_all (prs [19, 20, 21, 22, 23, 24, 25, 26, 27, 28, 29, 30, 31, 32, 33, 34, 35, 36, 37, 38, 39, 40, 41, 42, 43, 44, 45, 46, 47, 48, 49, 50, 51, 52, 53, 54, 55, 56, 57, 58, 59, 60, 61, 62, 63, 64, 65, 66, 67, 68, 69, 70, 2] V) (fun t => by kernel_rfl) ?_
    simp only [prs, List.zipIdx, List.map, List.foldl, Nat.zero_add, Nat.reduceAdd, List.setIfInBounds_toArray, List.set_cons_zero, List.set_cons_succ, e52]
    go_wp2
    go_ret
    exact ⟨rfl, (hbx.trans h13).trans (hbz.mono (Nat.le_trans hbx.size h13.size))⟩

theorem uses_walk (x : Cd) (w : World) (hV : Vars w.heap.size w) :
    Calls Tryd.prog 3 #[.agg #[.int .i64 x.op, .int .i64 x.dop, .int .i64 x.to, .int .i64 x.a, .int .i64 x.b, .int .i64 x.c, .int .u64 x.v, .int .i64 x.t]] w fun e w' => e = .returned (.bool true) ∧ Below w.heap.size w w' := by
  obtain ⟨op, dop, to, a, b, c, v, t⟩ := x
  by_cases k6 : op = 6
  · subst k6; exact uses_6 dop to a b c v t w hV
  by_cases k7 : op = 7
  · subst k7; exact uses_7 dop to a b c v t w hV
  by_cases k13 : op = 13
  · subst k13; exact uses_13 dop to a b c v t w hV
  have f6 : (op != 6) = true := by simpa using k6
  have g6 : (op == 6) = false := by simpa using k6
  have g7 : (op == 7) = false := by simpa using k7
  have f13 : (op != 13) = true := by simpa using k13
  by_cases hD : setsB op = true
  · exact uses_set op dop to a b c v t hD k6 f6 g6 k7 g7 k13 f13 w hV
  · have hn : ¬ (op = 0 ∨ op = 1 ∨ op = 2 ∨ op = 3 ∨ op = 4) := fun h => hD (by rcases h with rfl | rfl | rfl | rfl | rfl <;> rfl)
    exact uses_no op dop to a b c v t (by omega) (by omega) (by omega) (by omega) (by omega) k6 f6 g6 k7 g7 k13 f13 w hV
end Go.Proofs.YtjiecfagblijhaaDoor.Cd
