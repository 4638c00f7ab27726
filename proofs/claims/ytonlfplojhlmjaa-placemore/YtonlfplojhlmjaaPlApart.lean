/- The walk of PlaceApart: on every input it returns true. Conditions: none. -/
import Derived.Test.YtonlfplojhlmjaaPlOfW
namespace Go.Proofs.Ytonlfplojhlmjaa.Pl
open Go.ChangeShapes Go.WideShapes Go.RowKit Go.Maps
set_option linter.unusedVariables false
set_option linter.unusedSimpArgs false

theorem cells_apart {zs : List Int} {bs : List Bool} {k : Nat} {d : Pd} (h : (declsP zs bs)[k]? = some d) : max 1 (min d.size 64) = cellsP d := by
  rw [decls_cells h]; split <;> omega
theorem size_app (a b : List Pd) : sizeP (a ++ b) = sizeP a + sizeP b := by
  induction a with
  | nil => simp [sizeP]
  | cons x a ih => simp only [sizeP, List.cons_append, ih]; omega
theorem size_apart {ds : List Pd} {i j : Nat} {d : Pd} (hd : ds[i]? = some d) (h : i < j) (hj : j ≤ ds.length) : sizeP (ds.take i) + cellsP d ≤ sizeP (ds.take j) := by
  have e : sizeP (ds.take (i + 1)) = sizeP (ds.take i) + cellsP d := by rw [take_snoc hd, size_snoc]
  have e2 : ds.take j = ds.take (i + 1) ++ (ds.drop (i + 1)).take (j - (i + 1)) := by
    rw [← List.take_append_drop (i + 1) (ds.take j)]
    congr 1
    · rw [List.take_take, Nat.min_eq_left (by omega)]
    · rw [List.drop_take]
  rw [e2, size_app, e]
  have := size_nonneg ((ds.drop (i + 1)).take (j - (i + 1)))
  omega

set_option maxHeartbeats 4000000 in
set_option maxRecDepth 100000 in
theorem apart_walk (w : World) (v0 : Value) (zs0 : List Int) (a1 a2 : Int) (h0 : IntsAt w .i8 v0 zs0) (z0 : ∀ n ∈ zs0, (Lit.int .i8 n).wf = true) (b1 : 0 ≤ a1 ∧ a1 < 256) (b2 : 0 ≤ a2 ∧ a2 < 256) :
    Calls Try.prog 6 #[v0, .int .u8 a1, .int .u8 a2] w fun e w' => e = .returned (.bool true) ∧ Below w.heap.size w w' := by
  obtain ⟨ds, hds⟩ : ∃ ds, ds = declsP zs0 [] := ⟨_, rfl⟩
  have HA := awake_any w
  have HD : ∀ w1, Below w.heap.size w w1 → Calls Try.prog 9 #[v0, .slice none 0 0] w1 fun e w' => ∃ v', e = .returned v' ∧ PRow w1.heap.size w' v' ds ∧ Below w1.heap.size w1 w' := fun w1 hb => hds ▸ decls_any zs0 [] v0 _ w1 (ints_below h0 hb) z0 (bools_nil w1)
  have HP : ∀ lo w v, PRow lo w v ds → PsAt w v ds := fun lo w v h => hds ▸ row_ps (hds ▸ h)
  have hlen : ds.length ≤ 600 := by rw [hds, decls_len]; omega
  have HST : Hid (∀ k d, ds[k]? = some d → startsP ds none0 0 d.name = some (sizeP (ds.take k))) := Lib.hid fun k d h => by rw [hds] at h ⊢; exact decls_start h
  have HCE : Hid (∀ (k : Nat) d, ds[k]? = some d → max 1 (min d.size 64) = cellsP d) := Lib.hid fun k d h => by rw [hds] at h; exact cells_apart h
  have HUN : Hid (∀ (a b : Nat) x y, ds[a]? = some x → ds[b]? = some y → x.name = y.name → a = b) := Lib.hid fun a b x y ha hb => by rw [hds] at ha hb; exact decls_unlike zs0 [] a b x y ha hb
  clear hds h0
  by_cases hz : ds.length = 0
  · go_enter Try.func6, Try.ntmps6
    have hnil : ds = [] := List.length_eq_zero_iff.1 hz
    go_wp2_with (first
      | (go_at_call 8; refine HA.mono ?_; rintro e w1 ⟨rfl, hb1⟩)
      | (go_at_call 9; refine (HD _ hb1).mono ?_; rintro e w2 ⟨v2, rfl, hR2, hb2⟩; have hP2 := HP _ _ _ hR2; obtain ⟨ao, cap, rfl⟩ := ps_slice hP2; rw [hz] at *; have HO := of_any ds _ w2 hP2; rw [hnil] at HO; have hb02 := hb1.trans (hb2.mono hb1.size))
      | (go_at_call 10; refine HO.mono ?_; rintro e w3 ⟨rfl, hM3, hb3⟩)
      | (go_at_call 13; refine (size_any _ _ _).mono ?_; rintro e w4 ⟨rfl, hb4⟩))
    go_ret
    have b3 := hb02.trans (hb3.mono hb02.size)
    exact ⟨by simp [sizeP], b3.trans (hb4.mono b3.size)⟩
  · obtain ⟨N, hN⟩ : ∃ N, N = ds.length := ⟨_, rfl⟩
    have hN0 : ¬ (N : Int) = 0 := by omega
    obtain ⟨A, hA⟩ : ∃ A : Nat, Int.tmod a1 (N : Int) = (A : Int) := ⟨(Int.tmod a1 N).toNat, by have := Int.tmod_nonneg (N : Int) b1.1; omega⟩
    obtain ⟨B, hB⟩ : ∃ B : Nat, Int.tmod a2 (N : Int) = (B : Int) := ⟨(Int.tmod a2 N).toNat, by have := Int.tmod_nonneg (N : Int) b2.1; omega⟩
    have hAN : A < N := by have := Int.tmod_lt_of_pos a1 (b := (N : Int)) (by omega); omega
    have hBN : B < N := by have := Int.tmod_lt_of_pos a2 (b := (N : Int)) (by omega); omega
    have hN6 : N ≤ 600 := by omega
    have hz' : ¬ N = 0 := by omega
    obtain ⟨x, hx⟩ : ∃ x, ds[A]? = some x := ⟨ds[A], by simp [hN] at hAN; simp [hAN]⟩
    obtain ⟨y, hy⟩ : ∃ y, ds[B]? = some y := ⟨ds[B], by simp [hN] at hBN; simp [hBN]⟩
    have HN := Lib.hid hN
    have HX := Lib.hid hx
    have HY := Lib.hid hy
    have HPS : Hid (∀ w ao cap, PsAt w (.slice ao N cap) ds → PsAt w (.slice ao ds.length cap) ds) := Lib.hid fun w ao cap h => hN ▸ h
    have HSL : ∀ w v, PsAt w v ds → ∃ ao cap, v = .slice ao N cap := fun w v h => hN ▸ ps_slice h
    clear hx hy hN hz hlen
    go_enter Try.func6, Try.ntmps6
    go_wp2_with (first
      | (go_at_call 8; refine HA.mono ?_; rintro e w1 ⟨rfl, hb1⟩)
      | (go_at_call 9; refine (HD _ hb1).mono ?_; rintro e w2 ⟨v2, rfl, hR2, hb2⟩; have hP2 := HP _ _ _ hR2; obtain ⟨ao, cap, rfl⟩ := HSL _ _ hP2; have HO := of_any ds _ w2 hP2; have hb02 := hb1.trans (hb2.mono hb1.size))
      | (go_at_call 10; refine HO.mono ?_; rintro e w3 ⟨rfl, hM3, hb3⟩))
    have hb03 := hb02.trans (hb3.mono hb02.size)
    obtain ⟨S, hS⟩ : ∃ S, S = sizeP ds := ⟨_, rfl⟩
    rw [← hS]
    obtain ⟨w4, hw4⟩ : ∃ w4, w4 = w3.alloc (.cells #[.map (some (w2.heap.size + 1)), .int .i64 S] 29) := ⟨_, rfl⟩
    have hB4 : w4.heap[w3.heap.size]? = some (.cells #[.map (some (w2.heap.size + 1)), .int .i64 S] 29 (0, 0)) := by rw [hw4, alloc_at, if_pos rfl]
    have hb34 : Below w3.heap.size w3 w4 := by rw [hw4]; exact (Below.refl _ _).alloc (Nat.le_refl _) _
    have hP4 := (hP2.below hb3).below hb34
    have hM4 := hM3.below hb34
    have hb04 := hb03.trans (hb34.mono hb03.size)
    try rw [← hS] at hw4
    rw [← hw4]
    obtain ⟨nx, g, off, rfl, hg, p0, p1, p2, p3, p4, p5⟩ := ps_get (HPS.out _ _ _ hP4) HX.out
    obtain ⟨ny, g', off', e', hg', q0, q1, q2, q3, q4, q5⟩ := ps_get (HPS.out _ _ _ hP4) HY.out
    cases e'
    have HB4 := Lib.hid hB4
    have HM4 := Lib.hid hM4
    have hl4 := heap_lt hB4
    clear hw4 hB4 hM4 hP4 hP2 hR2 hM3 HO hS hb34
    obtain ⟨I, hI⟩ : ∃ I, I = sizeP (ds.take A) := ⟨_, rfl⟩
    obtain ⟨J, hJ⟩ : ∃ J, J = sizeP (ds.take B) := ⟨_, rfl⟩
    obtain ⟨c, hc⟩ : ∃ c, c = cellsP x := ⟨_, rfl⟩
    obtain ⟨f, hf⟩ : ∃ f, f = cellsP y := ⟨_, rfl⟩
    have hsx := HST.out A x HX.out
    have hsy := HST.out B y HY.out
    have hcx := HCE.out A x HX.out
    have hcy := HCE.out B y HY.out
    have hc1 := cells_pos x
    have hf1 := cells_pos y
    have hI1 := size_nonneg (ds.take A)
    have hJ1 := size_nonneg (ds.take B)
    rw [List.length_take] at hI1 hJ1
    rw [← hI] at hsx hI1
    rw [← hJ] at hsy hJ1
    rw [← hc] at hcx hc1
    rw [← hf] at hcy hf1
    have hI2 : 0 ≤ I ∧ I ≤ 38400 := by have := HN.out; omega
    have hJ2 : 0 ≤ J ∧ J ≤ 38400 := by have := HN.out; omega
    clear hI1 hJ1
    have hcase : (A = B ∧ x = y ∧ I = J) ∨ (x.name ≠ y.name ∧ I + c ≤ J) ∨ (x.name ≠ y.name ∧ ¬ I + c ≤ J ∧ J + f ≤ I) := by
      rcases Nat.lt_trichotomy A B with h | h | h
      · refine .inr (.inl ⟨fun e => absurd (HUN.out A B x y HX.out HY.out e) (by omega), ?_⟩)
        rw [hI, hJ, hc]
        exact size_apart HX.out h (by have := HN.out; omega)
      · subst h
        have hxy := HX.out.symm.trans HY.out
        cases hxy
        exact .inl ⟨rfl, rfl, hI.trans hJ.symm⟩
      · have h2 := size_apart HY.out h (by have := HN.out; omega)
        rw [← hI, ← hJ, ← hf] at h2
        exact .inr (.inr ⟨fun e => absurd (HUN.out A B x y HX.out HY.out e) (by omega), by omega, h2⟩)
    have HCASE := Lib.hid hcase
    clear hcase hI hJ hc hf
    go_region
    · obtain ⟨wA, hwA⟩ : ∃ wA, wA = ((w4.alloc (dobj x)).alloc (dobj y)).drew := ⟨_, rfl⟩
      have hbA : Below w4.heap.size w4 wA := by rw [hwA]; exact (((Below.refl _ _).alloc (Nat.le_refl _) _).alloc (by simp) _).drew
      have hXA : wA.heap[w4.heap.size]? = some (dobj x) := by rw [hwA]; show ((w4.alloc (dobj x)).alloc (dobj y)).heap[w4.heap.size]? = _; rw [alloc_at, if_neg (by rw [alloc_size]; omega), alloc_at, if_pos rfl]
      have hYA : wA.heap[w4.heap.size + 1]? = some (dobj y) := by rw [hwA]; show ((w4.alloc (dobj x)).alloc (dobj y)).heap[w4.heap.size + 1]? = _; rw [alloc_at, if_pos (by rw [alloc_size])]
      have hBA : wA.heap[w3.heap.size]? = _ := (hbA.block _ hl4).trans HB4.out
      rw [← hwA]
      have H5 := start_some (HM4.out.below hbA) S x.name nx I hsx
      obtain ⟨b0, b1, _, _⟩ := map_cells hBA
      obtain ⟨x0, x1, x2, x3, x4, x5⟩ := dobj_cells hXA
      have HXA := Lib.hid hXA
      have HYA := Lib.hid hYA
      have HBA := Lib.hid hBA
      clear hwA hXA hYA hBA
      go_wp2_with fail
      go_at_call 12
      refine H5.mono ?_
      rintro e w5 ⟨rfl, hb5⟩
      have H6 := start_some ((HM4.out.below hbA).below hb5) S y.name ny J hsy
      have hX5 : w5.heap[w4.heap.size]? = _ := (hb5.block _ (heap_lt HXA.out)).trans HXA.out
      have hY5 : w5.heap[w4.heap.size + 1]? = _ := (hb5.block _ (heap_lt HYA.out)).trans HYA.out
      have hB5 : w5.heap[w3.heap.size]? = _ := (hb5.block _ (heap_lt HBA.out)).trans HBA.out
      clear b0 b1 x0 x1 x2 x3 x4 x5
      obtain ⟨b0, b1, _, _⟩ := map_cells hB5
      obtain ⟨y0, y1, y2, y3, y4, y5⟩ := dobj_cells hY5
      have HX5 := Lib.hid hX5
      have HY5 := Lib.hid hY5
      clear hX5 hY5 hB5 H5
      go_wp2_with fail
      go_at_call 12
      refine H6.mono ?_
      rintro e w6 ⟨rfl, hb6⟩
      have hX6 : w6.heap[w4.heap.size]? = _ := (hb6.block _ (heap_lt HX5.out)).trans HX5.out
      have hY6 : w6.heap[w4.heap.size + 1]? = _ := (hb6.block _ (heap_lt HY5.out)).trans HY5.out
      clear b0 b1 y0 y1 y2 y3 y4 y5
      obtain ⟨x0, x1, x2, x3, x4, x5⟩ := dobj_cells hX6
      obtain ⟨y0, y1, y2, y3, y4, y5⟩ := dobj_cells hY6
      have hb06 : Below w.heap.size w w6 := by
        have h1 := hb04.trans (hbA.mono hb04.size)
        have h2 := h1.trans (hb5.mono h1.size)
        exact h2.trans (hb6.mono h2.size)
      clear hX6 hY6 H6
      go_wp2_with fail
      go_region
      all_goals
        rcases HCASE.out with ⟨rfl, rfl, rfl⟩ | ⟨hne, hle⟩ | ⟨hne, hnl, hle⟩
        · have hse : (x.name.toList == x.name.toList) = true := by rw [str_eq]; simp
          go_wp2
          go_ret
          exact ⟨rfl, hb06.drew⟩
        · have hse : (x.name.toList == y.name.toList) = false := by rw [str_eq]; simpa using hne
          have hse2 : (x.name.toList != y.name.toList) = true := by rw [bne, hse]; rfl
          go_wp2
          go_ret
          exact ⟨rfl, hb06.drew⟩
        · have hse : (x.name.toList == y.name.toList) = false := by rw [str_eq]; simpa using hne
          have hse2 : (x.name.toList != y.name.toList) = true := by rw [bne, hse]; rfl
          go_wp2
          go_ret
          exact ⟨rfl, hb06.drew⟩
    · obtain ⟨wA, hwA⟩ : ∃ wA, wA = ((w4.alloc (dobj y)).alloc (dobj x)).drew := ⟨_, rfl⟩
      have hbA : Below w4.heap.size w4 wA := by rw [hwA]; exact (((Below.refl _ _).alloc (Nat.le_refl _) _).alloc (by simp) _).drew
      have hXA : wA.heap[w4.heap.size + 1]? = some (dobj x) := by rw [hwA]; show ((w4.alloc (dobj y)).alloc (dobj x)).heap[w4.heap.size + 1]? = _; rw [alloc_at, if_pos (by rw [alloc_size])]
      have hYA : wA.heap[w4.heap.size]? = some (dobj y) := by rw [hwA]; show ((w4.alloc (dobj y)).alloc (dobj x)).heap[w4.heap.size]? = _; rw [alloc_at, if_neg (by rw [alloc_size]; omega), alloc_at, if_pos rfl]
      have hBA : wA.heap[w3.heap.size]? = _ := (hbA.block _ hl4).trans HB4.out
      rw [← hwA]
      have H5 := start_some (HM4.out.below hbA) S x.name nx I hsx
      obtain ⟨b0, b1, _, _⟩ := map_cells hBA
      obtain ⟨x0, x1, x2, x3, x4, x5⟩ := dobj_cells hXA
      have HXA := Lib.hid hXA
      have HYA := Lib.hid hYA
      have HBA := Lib.hid hBA
      clear hwA hXA hYA hBA
      go_wp2_with fail
      go_at_call 12
      refine H5.mono ?_
      rintro e w5 ⟨rfl, hb5⟩
      have H6 := start_some ((HM4.out.below hbA).below hb5) S y.name ny J hsy
      have hX5 : w5.heap[w4.heap.size + 1]? = _ := (hb5.block _ (heap_lt HXA.out)).trans HXA.out
      have hY5 : w5.heap[w4.heap.size]? = _ := (hb5.block _ (heap_lt HYA.out)).trans HYA.out
      have hB5 : w5.heap[w3.heap.size]? = _ := (hb5.block _ (heap_lt HBA.out)).trans HBA.out
      clear b0 b1 x0 x1 x2 x3 x4 x5
      obtain ⟨b0, b1, _, _⟩ := map_cells hB5
      obtain ⟨y0, y1, y2, y3, y4, y5⟩ := dobj_cells hY5
      have HX5 := Lib.hid hX5
      have HY5 := Lib.hid hY5
      clear hX5 hY5 hB5 H5
      go_wp2_with fail
      go_at_call 12
      refine H6.mono ?_
      rintro e w6 ⟨rfl, hb6⟩
      have hX6 : w6.heap[w4.heap.size + 1]? = _ := (hb6.block _ (heap_lt HX5.out)).trans HX5.out
      have hY6 : w6.heap[w4.heap.size]? = _ := (hb6.block _ (heap_lt HY5.out)).trans HY5.out
      clear b0 b1 y0 y1 y2 y3 y4 y5
      obtain ⟨x0, x1, x2, x3, x4, x5⟩ := dobj_cells hX6
      obtain ⟨y0, y1, y2, y3, y4, y5⟩ := dobj_cells hY6
      have hb06 : Below w.heap.size w w6 := by
        have h1 := hb04.trans (hbA.mono hb04.size)
        have h2 := h1.trans (hb5.mono h1.size)
        exact h2.trans (hb6.mono h2.size)
      clear hX6 hY6 H6
      go_wp2_with fail
      go_region
      all_goals
        rcases HCASE.out with ⟨rfl, rfl, rfl⟩ | ⟨hne, hle⟩ | ⟨hne, hnl, hle⟩
        · have hse : (x.name.toList == x.name.toList) = true := by rw [str_eq]; simp
          go_wp2
          go_ret
          exact ⟨rfl, hb06.drew⟩
        · have hse : (x.name.toList == y.name.toList) = false := by rw [str_eq]; simpa using hne
          have hse2 : (x.name.toList != y.name.toList) = true := by rw [bne, hse]; rfl
          go_wp2
          go_ret
          exact ⟨rfl, hb06.drew⟩
        · have hse : (x.name.toList == y.name.toList) = false := by rw [str_eq]; simpa using hne
          have hse2 : (x.name.toList != y.name.toList) = true := by rw [bne, hse]; rfl
          go_wp2
          go_ret
          exact ⟨rfl, hb06.drew⟩
end Go.Proofs.Ytonlfplojhlmjaa.Pl
