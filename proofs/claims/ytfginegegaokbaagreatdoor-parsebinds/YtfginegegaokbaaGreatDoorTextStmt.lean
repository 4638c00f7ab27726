/- What page.stmt and choice write, when they are called. Conditions: as in StmRep. -/
import Derived.Test.YtfginegegaokbaaGreatDoorStmRep
namespace Go.Proofs.YtfginegegaokbaaGreatDoor
open Go.ChangeShapes Go.WideShapes Go.ChangeAt Go.RowKit
set_option linter.unusedVariables false
set_option linter.unusedSimpArgs false

theorem bys_cat (a b : ByteArray) : bys (a ++ b) = bys a ++ bys b := by simp [bys, ByteArray.data_append]
theorem skind_cases (k : Int) : k = 0 ∨ k = 1 ∨ k = 2 ∨ k = 3 ∨ k = 4 ∨ k = 5 ∨ k = 6 ∨ k = 7 ∨ k = 8 ∨ (k ≠ 0 ∧ k ≠ 1 ∧ k ≠ 2 ∧ k ≠ 3 ∧ k ≠ 4 ∧ k ≠ 5 ∧ k ≠ 6 ∧ k ≠ 7 ∧ k ≠ 8) := by omega
theorem line_at (B b : Nat) (l : List UInt8) (d : Nat) (s : ByteArray) (x : List UInt8) (hx : bys s = x) (w : World) (hP : PageAt B b l d w) (hd : d ≤ 1000000) (hlen : l.length + (lineT d x).length ≤ 70368744177664) :
    Calls Tryz.prog 28 #[.pointer (some ⟨b, 0, none⟩), .string s] w (Wrote B b l d w (lineT d x)) := by
  subst hx
  exact line_any B b l d s w hP hd hlen
theorem value_at (B b m : Nat) (l : List UInt8) (d : Nat) (s : ByteArray) (x : List UInt8) (hx : bys s = x) (es : List Tree) (v : Value) (w : World) (hP : PageAt B b l d w) (hK : Kids 0 B w (fun v' t' => ERep 0 B w m v' t') v es) (hV : Vars B w) (hd : d ≤ 1000000) (hlen : l.length + (valueT m d x es).length ≤ 70368744177664) :
    Calls Tryz.prog 79 #[.pointer (some ⟨b, 0, none⟩), .string s, v] w (Wrote B b l d w (valueT m d x es)) := by
  subst hx
  exact value_any B b m l d s es v w hP hK hV hd hlen

set_option maxHeartbeats 4000000 in
set_option maxRecDepth 100000 in
theorem choice_of {m n : Nat} (ih : StmtC m n) (B b : Nat) (l : List UInt8) (d : Nat) (s : Stm) (v : Value) (w : World) (hP : PageAt B b l d w) (hE : SRep 0 B w m (n + 1) v s) (hV : Vars B w) (hd : d + (n + 1) ≤ 1000000) (hlen : l.length + (choiceT m n d s).length ≤ 70368744177664) :
    Calls Tryz.prog 82 #[.pointer (some ⟨b, 0, none⟩), v] w (Wrote B b l d w (choiceT m n d s)) := by
  have hE0 := hE
  obtain ⟨hc1, hc2, hnm, eao, ecap, bao, bcap, lao, lcap, rfl, hK, hSb, hSl⟩ := hE
  have hBw := hP.base
  have hlt := hP.lt
  have HB : Hid (w.heap.size ≠ b) := by show _ ≠ _; omega
  have hA : Stay B b w (w.alloc (.cells #[.int .i64 s.kind, .string s.name, .slice eao s.exprs.length ecap, .int .i64 s.count, .slice bao s.body.length bcap, .slice lao s.els.length lcap, .int .i64 s.at_] 60)) := (Stay.refl _ _ _).alloc hBw _
  have HBox := Lib.hid (show (w.alloc (.cells #[.int .i64 s.kind, .string s.name, .slice eao s.exprs.length ecap, .int .i64 s.count, .slice bao s.body.length bcap, .slice lao s.els.length lcap, .int .i64 s.at_] 60)).heap[w.heap.size]? = some (.cells #[.int .i64 s.kind, .string s.name, .slice eao s.exprs.length ecap, .int .i64 s.count, .slice bao s.body.length bcap, .slice lao s.els.length lcap, .int .i64 s.at_] 60 (0, 0)) from heap_alloc_new w _)
  have hPA := hP.alloc (.cells #[.int .i64 s.kind, .string s.name, .slice eao s.exprs.length ecap, .int .i64 s.count, .slice bao s.body.length bcap, .slice lao s.els.length lcap, .int .i64 s.at_] 60)
  have e4 : (ByteArray.mk #[105, 102, 32, 40]).size = 4 := rfl
  have e5 : (ByteArray.mk #[41, 32, 123, 10]).size = 4 := rfl
  have hl : (l ++ choiceT m n d s).length ≤ 70368744177664 := by simpa using hlen
  obtain ⟨mid, hmid⟩ : ∃ x, x = (if s.els.length = 0 then [] else lineT d sElse ++ btext m n (d + 1) s.els) := ⟨_, rfl⟩
  have HT : Hid (l ++ choiceT m n d s = l ++ tabs d ++ bys ⟨#[105, 102, 32, 40]⟩ ++ epart m s.exprs 0 0 ++ bys ⟨#[41, 32, 123, 10]⟩ ++ btext m n (d + 1) s.body ++ mid ++ lineT d [125]) := by show _ = _; rw [hmid]; simp [choiceT, sIf, sThen, bys]
  rw [HT.out] at hl
  simp only [List.length_append, tabs_len, bys_length, e4, e5] at hl
  have hl1 : (lineT d [125]).length = d + 2 := by simp [lineT, tabs_len]
  rw [hl1] at hl
  by_cases hel : s.els.length = 0
  · rw [if_pos hel] at hmid
    subst hmid
    simp only [List.length_nil] at hl
    rw [hel] at hA hPA HBox ⊢
    go_enter Tryz.func82, Tryz.ntmps82
    go_wp2_with (go_at_call 50; refine (indent_any B b l d _ hPA (by omega) (by omega)).mono ?_; rintro e w1 ⟨rfl, hP1, hb1⟩)
    go_wp2_with (go_at_call 48; refine (writeString_any B b _ d ⟨#[105, 102, 32, 40]⟩ _ hP1 (by simp only [List.length_append, tabs_len, e4]; omega)).mono ?_; rintro e w2 ⟨rfl, hP2, hb2⟩; have hb12 := hb1.trans hb2; have hbx2 := hb12.2 _ _ _ _ HB.out (by decide) HBox.out; obtain ⟨a0, a1, a2, a3, a4, a5, a6⟩ := stmt_cells hbx2)
    have hb02 := hA.trans hb12
    go_wp2_with (go_at_call 81; refine (part_of (expr_all m) B b _ d s.exprs _ 0 0 _ hP2.page (hK.on hb02.1) (hV.on hb02.1) (by omega) (by omega) (by simp only [List.length_append, tabs_len, bys_length, e4, e5]; omega)).mono ?_; rintro e w3 ⟨rfl, hP3, hb3⟩)
    go_wp2_with (go_at_call 48; refine (writeString_any B b _ d ⟨#[41, 32, 123, 10]⟩ _ hP3 (by simp only [List.length_append, tabs_len, bys_length, e4, e5]; omega)).mono ?_; rintro e w4 ⟨rfl, hP4, hb4⟩; have hb14 := (hb12.trans hb3).trans hb4; clear a0 a1 a2 a3 a4 a5 a6; have hbx4 := hb14.2 _ _ _ _ HB.out (by decide) HBox.out; obtain ⟨a0, a1, a2, a3, a4, a5, a6⟩ := stmt_cells hbx4)
    have hb04 := hA.trans hb14
    go_wp2_with (go_at_call 29; refine (block_of ih B b _ d s.body _ _ hP4.page (hSb.on hb04.1) (hV.on hb04.1) (by omega) (by simp only [List.length_append, tabs_len, bys_length, e4, e5]; omega)).mono ?_; rintro e w5 ⟨rfl, hP5, hb5⟩; have hb15 := hb14.trans hb5; clear a0 a1 a2 a3 a4 a5 a6; have hbx5 := hb15.2 _ _ _ _ HB.out (by decide) HBox.out; obtain ⟨a0, a1, a2, a3, a4, a5, a6⟩ := stmt_cells hbx5)
    have hb05 := hA.trans hb15
    go_wp2_with (go_at_call 28; refine (line_at B b _ d ⟨#[125]⟩ [125] rfl _ hP5 (by omega) (by simp only [List.length_append, tabs_len, bys_length, e4, e5, hl1]; omega)).mono ?_; rintro e w6 ⟨rfl, hP6, hb6⟩)
    go_end0
    exact ⟨rfl, by rw [HT.out, List.append_nil]; exact hP6, hb05.trans hb6⟩
  · rw [if_neg hel] at hmid
    subst hmid
    have hl2 : (lineT d sElse).length = d + 9 := by simp [lineT, tabs_len, sElse]
    simp only [List.length_append, hl2] at hl
    have helI : (0 : Int) < (s.els.length : Int) := by omega
    go_enter Tryz.func82, Tryz.ntmps82
    go_wp2_with (go_at_call 50; refine (indent_any B b l d _ hPA (by omega) (by omega)).mono ?_; rintro e w1 ⟨rfl, hP1, hb1⟩)
    go_wp2_with (go_at_call 48; refine (writeString_any B b _ d ⟨#[105, 102, 32, 40]⟩ _ hP1 (by simp only [List.length_append, tabs_len, e4]; omega)).mono ?_; rintro e w2 ⟨rfl, hP2, hb2⟩; have hb12 := hb1.trans hb2; have hbx2 := hb12.2 _ _ _ _ HB.out (by decide) HBox.out; obtain ⟨a0, a1, a2, a3, a4, a5, a6⟩ := stmt_cells hbx2)
    have hb02 := hA.trans hb12
    go_wp2_with (go_at_call 81; refine (part_of (expr_all m) B b _ d s.exprs _ 0 0 _ hP2.page (hK.on hb02.1) (hV.on hb02.1) (by omega) (by omega) (by simp only [List.length_append, tabs_len, bys_length, e4, e5]; omega)).mono ?_; rintro e w3 ⟨rfl, hP3, hb3⟩)
    go_wp2_with (go_at_call 48; refine (writeString_any B b _ d ⟨#[41, 32, 123, 10]⟩ _ hP3 (by simp only [List.length_append, tabs_len, bys_length, e4, e5]; omega)).mono ?_; rintro e w4 ⟨rfl, hP4, hb4⟩; have hb14 := (hb12.trans hb3).trans hb4; clear a0 a1 a2 a3 a4 a5 a6; have hbx4 := hb14.2 _ _ _ _ HB.out (by decide) HBox.out; obtain ⟨a0, a1, a2, a3, a4, a5, a6⟩ := stmt_cells hbx4)
    have hb04 := hA.trans hb14
    go_wp2_with (go_at_call 29; refine (block_of ih B b _ d s.body _ _ hP4.page (hSb.on hb04.1) (hV.on hb04.1) (by omega) (by simp only [List.length_append, tabs_len, bys_length, e4, e5]; omega)).mono ?_; rintro e w5 ⟨rfl, hP5, hb5⟩; have hb15 := hb14.trans hb5; clear a0 a1 a2 a3 a4 a5 a6; have hbx5 := hb15.2 _ _ _ _ HB.out (by decide) HBox.out; obtain ⟨a0, a1, a2, a3, a4, a5, a6⟩ := stmt_cells hbx5)
    have hb05 := hA.trans hb15
    go_wp2_with (first | (go_at_call 28; refine (line_at B b _ d ⟨#[125, 32, 101, 108, 115, 101, 32, 123]⟩ sElse rfl _ hP5 (by omega) (by simp only [List.length_append, tabs_len, bys_length, e4, e5, hl2]; omega)).mono ?_; rintro e w6 ⟨rfl, hP6, hb6⟩; have hb16 := hb15.trans hb6; clear a0 a1 a2 a3 a4 a5 a6; have hbx6 := hb16.2 _ _ _ _ HB.out (by decide) HBox.out; obtain ⟨a0, a1, a2, a3, a4, a5, a6⟩ := stmt_cells hbx6))
    have hb06 := hb05.trans hb6
    go_wp2_with (go_at_call 29; refine (block_of ih B b _ d s.els _ _ hP6 (hSl.on hb06.1) (hV.on hb06.1) (by omega) (by simp only [List.length_append, tabs_len, bys_length, e4, e5, hl2]; omega)).mono ?_; rintro e w7 ⟨rfl, hP7, hb7⟩)
    go_wp2_with (go_at_call 28; refine (line_at B b _ d ⟨#[125]⟩ [125] rfl _ hP7 (by omega) (by simp only [List.length_append, tabs_len, bys_length, e4, e5, hl1, hl2]; omega)).mono ?_; rintro e w8 ⟨rfl, hP8, hb8⟩)
    go_end0
    exact ⟨rfl, by rw [HT.out]; simpa using hP8, (hb06.trans hb7).trans hb8⟩

set_option maxHeartbeats 4000000 in
set_option maxRecDepth 100000 in
theorem stmt_step {m n : Nat} (ih : StmtC m n) : StmtC m (n + 1) := by
  intro B b l d s v w hP hE hV hd hlen
  have hE0 := hE
  obtain ⟨hc1, hc2, hnm, eao, ecap, bao, bcap, lao, lcap, rfl, hK, hSb, hSl⟩ := hE
  have hBw := hP.base
  have hlt := hP.lt
  have HB : Hid (w.heap.size ≠ b) := by show _ ≠ _; omega
  have hA : Stay B b w (w.alloc (.cells #[.int .i64 s.kind, .string s.name, .slice eao s.exprs.length ecap, .int .i64 s.count, .slice bao s.body.length bcap, .slice lao s.els.length lcap, .int .i64 s.at_] 60)) := (Stay.refl _ _ _).alloc hBw _
  have HBox := Lib.hid (show (w.alloc (.cells #[.int .i64 s.kind, .string s.name, .slice eao s.exprs.length ecap, .int .i64 s.count, .slice bao s.body.length bcap, .slice lao s.els.length lcap, .int .i64 s.at_] 60)).heap[w.heap.size]? = some (.cells #[.int .i64 s.kind, .string s.name, .slice eao s.exprs.length ecap, .int .i64 s.count, .slice bao s.body.length bcap, .slice lao s.els.length lcap, .int .i64 s.at_] 60 (0, 0)) from heap_alloc_new w _)
  have hPA := hP.alloc (.cells #[.int .i64 s.kind, .string s.name, .slice eao s.exprs.length ecap, .int .i64 s.count, .slice bao s.body.length bcap, .slice lao s.els.length lcap, .int .i64 s.at_] 60)
  rcases skind_cases s.kind with hk | hk | hk | hk | hk | hk | hk | hk | hk | ⟨k0, k1, k2, k3, k4, k5, k6, k7, k8⟩
  · rw [stext_0 m n d s hk] at hlen ⊢
    rw [hk] at hA hPA HBox ⊢
    obtain ⟨X, hX⟩ : ∃ X : ByteArray, ⟨#[108, 111, 99, 97, 108, 32]⟩ ++ s.name ++ ⟨#[32, 61, 32]⟩ = X := ⟨_, rfl⟩
    have HX : Hid (bys X = sLocal ++ bys s.name ++ sIs) := by show _ = _; rw [← hX]; simp only [bys_cat]; rfl
    go_enter Tryz.func52, Tryz.ntmps52
    go_wp2_with (go_at_call 79; refine (value_at B b m l d X _ HX.out s.exprs _ _ hPA (hK.on hA.1) (hV.on hA.1) (by omega) hlen).mono ?_; rintro e w1 ⟨rfl, hP1, hb1⟩)
    go_end0
    exact ⟨rfl, hP1, hA.trans hb1⟩
  · rw [stext_1 m n d s hk] at hlen ⊢
    rw [hk] at hA hPA HBox ⊢
    obtain ⟨X, hX⟩ : ∃ X : ByteArray, s.name ++ ⟨#[32, 61, 32]⟩ = X := ⟨_, rfl⟩
    have HX : Hid (bys X = bys s.name ++ sIs) := by show _ = _; rw [← hX]; simp only [bys_cat]; rfl
    go_enter Tryz.func52, Tryz.ntmps52
    go_wp2_with (go_at_call 79; refine (value_at B b m l d X _ HX.out s.exprs _ _ hPA (hK.on hA.1) (hV.on hA.1) (by omega) hlen).mono ?_; rintro e w1 ⟨rfl, hP1, hb1⟩)
    go_end0
    exact ⟨rfl, hP1, hA.trans hb1⟩
  · rw [stext_2 m n d s hk] at hlen ⊢
    rw [hk] at hA hPA HBox ⊢
    have e3 : (ByteArray.mk #[32, 61, 32]).size = 3 := rfl
    have e2 : (ByteArray.mk #[59, 10]).size = 2 := rfl
    have HT : Hid (l ++ (tabs d ++ cellText m s.name s.exprs ++ sIs ++ epart m s.exprs 1 0 ++ [59, 10]) = l ++ tabs d ++ cellText m s.name s.exprs ++ bys ⟨#[32, 61, 32]⟩ ++ epart m s.exprs 1 0 ++ bys ⟨#[59, 10]⟩) := by show _ = _; simp [sIs, bys]
    have hl : (l ++ (tabs d ++ cellText m s.name s.exprs ++ sIs ++ epart m s.exprs 1 0 ++ [59, 10])).length ≤ 70368744177664 := by rw [List.length_append]; exact hlen
    rw [HT.out] at hl
    simp only [List.length_append, tabs_len, bys_length, e3, e2] at hl
    obtain ⟨Z, hZ⟩ : ∃ Z, tabs d ++ cellText m s.name s.exprs ++ sIs ++ epart m s.exprs 1 0 ++ [59, 10] = Z := ⟨_, rfl⟩
    rw [hZ] at HT hlen ⊢
    clear hZ hlen
    go_enter Tryz.func52, Tryz.ntmps52
    go_wp2_with (go_at_call 50; refine (indent_any B b l d _ hPA (by omega) (by omega)).mono ?_; rintro e w1 ⟨rfl, hP1, hb1⟩; have hbx1 := hb1.2 _ _ _ _ HB.out (by decide) HBox.out; obtain ⟨a0, a1, a2, a3, a4, a5, a6⟩ := stmt_cells hbx1)
    have hb01 := hA.trans hb1
    go_wp2_with (go_at_call 80; refine (cell_of (expr_all m) B b _ d s.name s.exprs _ _ hP1 (hK.on hb01.1) (hV.on hb01.1) (by simp only [List.length_append, tabs_len]; omega)).mono ?_; rintro e w2 ⟨rfl, hP2, hb2⟩)
    go_wp2_with (go_at_call 48; refine (writeString_any B b _ d ⟨#[32, 61, 32]⟩ _ hP2 (by simp only [List.length_append, tabs_len, e3]; omega)).mono ?_; rintro e w3 ⟨rfl, hP3, hb3⟩; have hb13 := (hb1.trans hb2).trans hb3; clear a0 a1 a2 a3 a4 a5 a6; have hbx3 := hb13.2 _ _ _ _ HB.out (by decide) HBox.out; obtain ⟨a0, a1, a2, a3, a4, a5, a6⟩ := stmt_cells hbx3)
    have hb03 := hA.trans hb13
    go_wp2_with (go_at_call 81; refine (part_of (expr_all m) B b _ d s.exprs _ 1 0 _ hP3.page (hK.on hb03.1) (hV.on hb03.1) (by omega) (by omega) (by simp only [List.length_append, tabs_len, bys_length, e3]; omega)).mono ?_; rintro e w4 ⟨rfl, hP4, hb4⟩)
    go_wp2_with (go_at_call 48; refine (writeString_any B b _ d ⟨#[59, 10]⟩ _ hP4 (by simp only [List.length_append, tabs_len, bys_length, e3, e2]; omega)).mono ?_; rintro e w5 ⟨rfl, hP5, hb5⟩)
    go_end0
    exact ⟨rfl, by rw [HT.out]; exact hP5.page, (hb03.trans hb4).trans hb5⟩
  · rw [stext_3 m n d s hk] at hlen ⊢
    have Hc := choice_of ih B b l d s _ _ hPA (hE0.on hA.1) (hV.on hA.1) hd hlen
    rw [hk] at hA hPA HBox Hc ⊢
    go_enter Tryz.func52, Tryz.ntmps52
    go_wp2_with (go_at_call 82; refine Hc.mono ?_; rintro e w1 ⟨rfl, hP1, hb1⟩)
    go_end0
    exact ⟨rfl, hP1, hA.trans hb1⟩
  · rw [stext_4 m n d s hk] at hlen ⊢
    rw [hk] at hA hPA HBox ⊢
    obtain ⟨X1, hX1⟩ : ∃ X : ByteArray, ⟨#[108, 111, 111, 112, 32]⟩ ++ s.name ++ ⟨#[32]⟩ = X := ⟨_, rfl⟩
    have hszX : X1.size = s.name.size + 6 := by rw [← hX1]; simp [ByteArray.size_append]; have e1 : (ByteArray.mk #[108, 111, 111, 112, 32]).size = 5 := rfl; have e2 : (ByteArray.mk #[32]).size = 1 := rfl; omega
    obtain ⟨I, hI⟩ : ∃ I, bstr (Lib.itoa s.count) = I := ⟨_, rfl⟩
    have hszI : I.size ≤ 21 := by rw [← hI, bstr_size]; exact Lib.itoa_length_le s.count hc1 hc2
    obtain ⟨X, hX⟩ : ∃ X : ByteArray, X1 ++ I ++ ⟨#[32, 123]⟩ = X := ⟨_, rfl⟩
    have HX : Hid (bys X = sLoop ++ bys s.name ++ [32] ++ Lib.itoa s.count ++ [32, 123]) := by show _ = _; rw [← hX, ← hX1, ← hI]; simp only [bys_cat]; rfl
    have Hit := fun w' (h : Vars B w') => itoa_any s.count hc1 hc2 B w' h
    rw [hI] at Hit
    clear hI
    obtain ⟨Z, hZ⟩ : ∃ Z, lineT d (sLoop ++ bys s.name ++ [32] ++ Lib.itoa s.count ++ [32, 123]) ++ btext m n (d + 1) s.body ++ lineT d [125] = Z := ⟨_, rfl⟩
    have HZ := Lib.hid hZ
    rw [hZ] at hlen ⊢
    rw [← hZ] at hlen
    simp only [List.length_append] at hlen
    clear hZ
    go_enter Tryz.func52, Tryz.ntmps52
    go_wp2
    go_region_with (first
      | (go_at_call 49; refine (Hit _ (hV.on hA.drew.1)).mono ?_; rintro e w1 ⟨rfl, hb1⟩; have hP1 := hPA.drew.below hb1; have hbx1 := (hb1.block _ (heap_lt HBox.out)).trans HBox.out; obtain ⟨a0, a1, a2, a3, a4, a5, a6⟩ := stmt_cells hbx1)
      | (go_at_call 28; refine (line_at B b l d X _ HX.out _ hP1 (by omega) (by omega)).mono ?_; rintro e w2 ⟨rfl, hP2, hb2⟩; have hbx2 := hb2.2 _ _ _ _ HB.out (by decide) hbx1; clear a0 a1 a2 a3 a4 a5 a6; obtain ⟨a0, a1, a2, a3, a4, a5, a6⟩ := stmt_cells hbx2))
    all_goals (
      have hb02 := (hA.trans (Stay.of_drew hb1 (Nat.le_trans hBw (by simp)))).trans hb2
      go_wp2_with (first
        | (go_at_call 29; refine (block_of ih B b _ d s.body _ _ hP2 (hSb.on hb02.1) (hV.on hb02.1) (by omega) (by rw [List.length_append]; omega)).mono ?_; rintro e w3 ⟨rfl, hP3, hb3⟩))
      go_wp2_with (go_at_call 28; refine (line_at B b _ d ⟨#[125]⟩ [125] rfl _ hP3 (by omega) (by rw [List.length_append, List.length_append]; omega)).mono ?_; rintro e w4 ⟨rfl, hP4, hb4⟩)
      go_end0
      exact ⟨rfl, by rw [← HZ.out]; simpa using hP4, (hb02.trans hb3).trans hb4⟩)
  · rw [stext_5 m n d s hk] at hlen ⊢
    rw [hk] at hA hPA HBox ⊢
    obtain ⟨X, hX⟩ : ∃ X : ByteArray, ⟨#[116, 97, 107, 101, 32]⟩ ++ s.name ++ ⟨#[59]⟩ = X := ⟨_, rfl⟩
    have HX : Hid (bys X = sTake ++ bys s.name ++ [59]) := by show _ = _; rw [← hX]; simp only [bys_cat]; rfl
    go_enter Tryz.func52, Tryz.ntmps52
    go_wp2_with (go_at_call 28; refine (line_at B b l d X _ HX.out _ hPA (by omega) hlen).mono ?_; rintro e w1 ⟨rfl, hP1, hb1⟩)
    go_end0
    exact ⟨rfl, hP1, hA.trans hb1⟩
  · rw [stext_6 m n d s hk] at hlen ⊢
    rw [hk] at hA hPA HBox ⊢
    obtain ⟨X, hX⟩ : ∃ X : ByteArray, ⟨#[103, 105, 118, 101, 32]⟩ ++ s.name ++ ⟨#[59]⟩ = X := ⟨_, rfl⟩
    have HX : Hid (bys X = sGive ++ bys s.name ++ [59]) := by show _ = _; rw [← hX]; simp only [bys_cat]; rfl
    go_enter Tryz.func52, Tryz.ntmps52
    go_wp2_with (go_at_call 28; refine (line_at B b l d X _ HX.out _ hPA (by omega) hlen).mono ?_; rintro e w1 ⟨rfl, hP1, hb1⟩)
    go_end0
    exact ⟨rfl, hP1, hA.trans hb1⟩
  · rw [stext_7 m n d s hk] at hlen ⊢
    rw [hk] at hA hPA HBox ⊢
    obtain ⟨X, hX⟩ : ∃ X : ByteArray, ⟨#[97, 100, 100, 32]⟩ ++ s.name ++ ⟨#[32]⟩ = X := ⟨_, rfl⟩
    have HX : Hid (bys X = sAdd ++ bys s.name ++ [32]) := by show _ = _; rw [← hX]; simp only [bys_cat]; rfl
    go_enter Tryz.func52, Tryz.ntmps52
    go_wp2_with (go_at_call 79; refine (value_at B b m l d X _ HX.out s.exprs _ _ hPA (hK.on hA.1) (hV.on hA.1) (by omega) hlen).mono ?_; rintro e w1 ⟨rfl, hP1, hb1⟩)
    go_end0
    exact ⟨rfl, hP1, hA.trans hb1⟩
  · rw [stext_8 m n d s hk] at hlen ⊢
    rw [hk] at hA hPA HBox ⊢
    go_enter Tryz.func52, Tryz.ntmps52
    go_wp2_with (go_at_call 28; refine (line_at B b l d ⟨#[102, 101, 110, 99, 101, 59]⟩ sFence rfl _ hPA (by omega) hlen).mono ?_; rintro e w1 ⟨rfl, hP1, hb1⟩)
    go_end0
    exact ⟨rfl, hP1, hA.trans hb1⟩
  · rw [stext_9 m n d s k0 k1 k2 k3 k4 k5 k6 k7 k8] at hlen ⊢
    go_enter Tryz.func52, Tryz.ntmps52
    go_wp2_with (go_at_call 79; refine (value_at B b m l d ⟨#[111, 117, 116, 112, 117, 116, 32]⟩ sOutput rfl s.exprs _ _ hPA (hK.on hA.1) (hV.on hA.1) (by omega) hlen).mono ?_; rintro e w1 ⟨rfl, hP1, hb1⟩)
    go_end0
    exact ⟨rfl, hP1, hA.trans hb1⟩

theorem stmt_all (m : Nat) : ∀ n, StmtC m n
  | 0 => fun B b l d s v w _ hE => hE.elim
  | n + 1 => stmt_step (stmt_all m n)
end Go.Proofs.YtfginegegaokbaaGreatDoor
