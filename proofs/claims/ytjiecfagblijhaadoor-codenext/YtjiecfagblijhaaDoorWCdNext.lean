/- The walk of CodeNext: it answers true. Conditions: the table of powers holds what its initialiser lays. -/
import Derived.Test.YtjiecfagblijhaaDoorCdAwake
import Derived.Test.YtjiecfagblijhaaDoorCdWant
import Derived.Deep.CutRange
namespace Go.Proofs.YtjiecfagblijhaaDoor.Cd
open Go.ChangeShapes Go.WideShapes Go.ChangeAt Go.RowKit
set_option linter.unusedVariables false
set_option linter.unusedSimpArgs false

set_option maxHeartbeats 4000000 in
set_option maxRecDepth 100000 in
theorem wnext_6 (fd fo fa fb fc fv t : Int) (q n : Nat) (hq : q ≤ 255) (hn : n ≤ 255) (w : World) (hV : Vars w.heap.size w) :
    Calls Tryd.prog 4 #[.agg #[.int .i64 6, .int .i64 fd, .int .i64 fo, .int .i64 fa, .int .i64 fb, .int .i64 fc, .int .u64 fv, .int .i64 t], .int .u8 q, .int .u8 n] w fun e w' => e = .returned (.bool true) ∧ Below w.heap.size w w' := by
  have hbx := (Below.refl w.heap.size w).alloc (Nat.le_refl _) (.cells #[.int .i64 6, .int .i64 fd, .int .i64 fo, .int .i64 fa, .int .i64 fb, .int .i64 fc, .int .u64 fv, .int .i64 t] 26)
  have HB := Lib.hid (show (w.alloc (.cells #[.int .i64 6, .int .i64 fd, .int .i64 fo, .int .i64 fa, .int .i64 fb, .int .i64 fc, .int .u64 fv, .int .i64 t] 26)).heap[w.heap.size]? = some (.cells #[.int .i64 6, .int .i64 fd, .int .i64 fo, .int .i64 fa, .int .i64 fb, .int .i64 fc, .int .u64 fv, .int .i64 t] 26 (0, 0)) by rw [alloc_at, if_pos rfl])
  have PA := fun w1 (hb1 : Below w.heap.size w w1) => awake_any w1 ((hV.on hb1).mono hb1.size)
  have hN : nextP ⟨6, fd, fo, fa, fb, fc, fv, t⟩ (q : Int) (n : Int) = wantP true false t q n := by
    unfold nextP
    exact next_want _ _ _ _ _
  have PN := fun w1 => next_any ⟨6, fd, fo, fa, fb, fc, fv, t⟩ (q : Int) (n : Int) w1 (by omega) (by omega)
  rw [hN] at PN
  clear hN
  go_enter Tryd.func4, Tryd.ntmps4
  go_wp2_with (go_at_call 8; refine (PA _ hbx).mono ?_; rintro ed w1 ⟨rfl, hb1⟩; have HB1 := Lib.hid (keepB hb1 HB.out); have h01 := hbx.trans (hb1.mono (show w.heap.size ≤ (w.alloc (.cells #[.int .i64 6, .int .i64 fd, .int .i64 fo, .int .i64 fa, .int .i64 fb, .int .i64 fc, .int .u64 fv, .int .i64 t] 26)).heap.size by simp)))
  go_loopw [7, 8] (fun y i wr => ∃ k : Nat, k ≤ n ∧ i = .int .i64 k ∧ Own wr w1.heap.size y (wantP true false t q k) ∧ Below w1.heap.size w1 wr) (fun _ i _ => n - (intOf i).toNat)
  case atStart => exact ⟨0, Nat.zero_le _, rfl, Own.nil _ _, Below.refl _ _⟩
  case round =>
    obtain ⟨k, hk, rfl, hO, hBr⟩ := hrel
    obtain ⟨x0, x1, x2, x3, x4, x5, x6, x7⟩ := code_cells (keepB hBr HB1.out)
    have hBz := hBr.size
    by_cases hlt : k < n
    · have hLn := want_len true false t q k
      obtain ⟨L, hL⟩ : ∃ L, L = wantP true false t q k := ⟨_, rfl⟩
      rw [← hL] at hO hLn
      replace hLn : L.length ≤ 1000000 := by omega
      by_cases htk : t = (k : Int)
      · subst htk
        have HS : Hid (wantP true false (k : Int) q (k + 1) = L ++ [(k : Int)]) := Lib.hid (by rw [hL]; simp [wantP, pickB])
        clear hL
        go_upto_region 8 with fail
        go_wp2_with (refine append_int (w0 := w1) (k : Int) rfl _ _ rfl rfl rfl hO hBz hBr hLn ?_; intro v5 w5 hO5 hb5)
        go_roundw
        case rel => exact ⟨k + 1, by omega, by go_num, by rw [HS.out]; exact hO5, hb5⟩
        case measure => simp [intOf]; omega
      · have HS : Hid (wantP true false t q (k + 1) = L) := Lib.hid (by rw [hL]; simp [wantP, pickB, htk])
        clear hL
        have gt : ((k : Int) == t) = false := by simp; omega
        have ft : ¬ (k : Int) = t := by omega
        clear htk
        go_wp2
        go_roundw
        case rel => exact ⟨k + 1, by omega, by go_num, by rw [HS.out]; exact hO, hBr⟩
        case measure => simp [intOf]; omega
    · obtain rfl : k = n := by omega
      have PS := fun va vb w2 ha hb => same_any (wantP true false t q k) (wantP true false t q k) va vb w2 ha hb
      simp only [decide_true] at PS
      go_wp2_with (first
        | (go_at_call 15; refine (PN _).mono ?_; rintro ed w2 ⟨v2, rfl, ho2, hb2⟩)
        | (go_at_call 12; refine (PS _ _ _ ho2.nums (hO.on hb2).nums).mono ?_; rintro ed w3 ⟨rfl, hb3⟩))
      go_ret
      exact ⟨rfl, ((h01.trans (hBr.mono h01.size)).trans (hb2.mono (Nat.le_trans h01.size hBz))).trans (hb3.mono (Nat.le_trans (Nat.le_trans h01.size hBz) hb2.size))⟩

set_option maxHeartbeats 4000000 in
set_option maxRecDepth 100000 in
theorem wnext_7 (fd fo fa fb fc fv t : Int) (q n : Nat) (hq : q ≤ 255) (hn : n ≤ 255) (w : World) (hV : Vars w.heap.size w) :
    Calls Tryd.prog 4 #[.agg #[.int .i64 7, .int .i64 fd, .int .i64 fo, .int .i64 fa, .int .i64 fb, .int .i64 fc, .int .u64 fv, .int .i64 t], .int .u8 q, .int .u8 n] w fun e w' => e = .returned (.bool true) ∧ Below w.heap.size w w' := by
  have hbx := (Below.refl w.heap.size w).alloc (Nat.le_refl _) (.cells #[.int .i64 7, .int .i64 fd, .int .i64 fo, .int .i64 fa, .int .i64 fb, .int .i64 fc, .int .u64 fv, .int .i64 t] 26)
  have HB := Lib.hid (show (w.alloc (.cells #[.int .i64 7, .int .i64 fd, .int .i64 fo, .int .i64 fa, .int .i64 fb, .int .i64 fc, .int .u64 fv, .int .i64 t] 26)).heap[w.heap.size]? = some (.cells #[.int .i64 7, .int .i64 fd, .int .i64 fo, .int .i64 fa, .int .i64 fb, .int .i64 fc, .int .u64 fv, .int .i64 t] 26 (0, 0)) by rw [alloc_at, if_pos rfl])
  have PA := fun w1 (hb1 : Below w.heap.size w w1) => awake_any w1 ((hV.on hb1).mono hb1.size)
  have hN : nextP ⟨7, fd, fo, fa, fb, fc, fv, t⟩ (q : Int) (n : Int) = wantP true true t q n := by
    unfold nextP
    exact next_want _ _ _ _ _
  have PN := fun w1 => next_any ⟨7, fd, fo, fa, fb, fc, fv, t⟩ (q : Int) (n : Int) w1 (by omega) (by omega)
  rw [hN] at PN
  clear hN
  go_enter Tryd.func4, Tryd.ntmps4
  go_wp2_with (go_at_call 8; refine (PA _ hbx).mono ?_; rintro ed w1 ⟨rfl, hb1⟩; have HB1 := Lib.hid (keepB hb1 HB.out); have h01 := hbx.trans (hb1.mono (show w.heap.size ≤ (w.alloc (.cells #[.int .i64 7, .int .i64 fd, .int .i64 fo, .int .i64 fa, .int .i64 fb, .int .i64 fc, .int .u64 fv, .int .i64 t] 26)).heap.size by simp)))
  go_loopw [7, 8] (fun y i wr => ∃ k : Nat, k ≤ n ∧ i = .int .i64 k ∧ Own wr w1.heap.size y (wantP true true t q k) ∧ Below w1.heap.size w1 wr) (fun _ i _ => n - (intOf i).toNat)
  case atStart => exact ⟨0, Nat.zero_le _, rfl, Own.nil _ _, Below.refl _ _⟩
  case round =>
    obtain ⟨k, hk, rfl, hO, hBr⟩ := hrel
    obtain ⟨x0, x1, x2, x3, x4, x5, x6, x7⟩ := code_cells (keepB hBr HB1.out)
    have hBz := hBr.size
    by_cases hlt : k < n
    · have hLn := want_len true true t q k
      obtain ⟨L, hL⟩ : ∃ L, L = wantP true true t q k := ⟨_, rfl⟩
      rw [← hL] at hO hLn
      replace hLn : L.length ≤ 1000000 := by omega
      by_cases hkq : k = q + 1
      · have gkp : ((k : Int) == (q : Int) + 1) = true := by simp; omega
        have HS : Hid (wantP true true t q (k + 1) = L ++ [(k : Int)]) := Lib.hid (by rw [hL]; simp [wantP, pickB, hkq])
        clear hL
        clear hkq
        go_upto_region 8 with fail
        go_wp2_with (refine append_int (w0 := w1) (k : Int) rfl _ _ rfl rfl rfl hO hBz hBr hLn ?_; intro v5 w5 hO5 hb5)
        go_roundw
        case rel => exact ⟨k + 1, by omega, by go_num, by rw [HS.out]; exact hO5, hb5⟩
        case measure => simp [intOf]; omega
      · by_cases htk : t = (k : Int)
        · subst htk
          have HS : Hid (wantP true true (k : Int) q (k + 1) = L ++ [(k : Int)]) := Lib.hid (by rw [hL]; simp [wantP, pickB])
          clear hL
          have gkq : ((k : Int) == (q : Int) + 1) = false := by simp; omega
          have fkq : ¬ (k : Int) = (q : Int) + 1 := by omega
          go_upto_region 8 with fail
          go_wp2_with (refine append_int (w0 := w1) (k : Int) rfl _ _ rfl rfl rfl hO hBz hBr hLn ?_; intro v5 w5 hO5 hb5)
          go_roundw
          case rel => exact ⟨k + 1, by omega, by go_num, by rw [HS.out]; exact hO5, hb5⟩
          case measure => simp [intOf]; omega
        · have HS : Hid (wantP true true t q (k + 1) = L) := Lib.hid (by rw [hL]; simp [wantP, pickB, hkq, htk])
          clear hL
          have gkq : ((k : Int) == (q : Int) + 1) = false := by simp; omega
          have fkq : ¬ (k : Int) = (q : Int) + 1 := by omega
          have gt : ((k : Int) == t) = false := by simp; omega
          have ft : ¬ (k : Int) = t := by omega
          clear hkq htk
          go_wp2
          go_roundw
          case rel => exact ⟨k + 1, by omega, by go_num, by rw [HS.out]; exact hO, hBr⟩
          case measure => simp [intOf]; omega
    · obtain rfl : k = n := by omega
      have PS := fun va vb w2 ha hb => same_any (wantP true true t q k) (wantP true true t q k) va vb w2 ha hb
      simp only [decide_true] at PS
      go_wp2_with (first
        | (go_at_call 15; refine (PN _).mono ?_; rintro ed w2 ⟨v2, rfl, ho2, hb2⟩)
        | (go_at_call 12; refine (PS _ _ _ ho2.nums (hO.on hb2).nums).mono ?_; rintro ed w3 ⟨rfl, hb3⟩))
      go_ret
      exact ⟨rfl, ((h01.trans (hBr.mono h01.size)).trans (hb2.mono (Nat.le_trans h01.size hBz))).trans (hb3.mono (Nat.le_trans (Nat.le_trans h01.size hBz) hb2.size))⟩

set_option maxHeartbeats 4000000 in
set_option maxRecDepth 100000 in
theorem wnext_13 (fd fo fa fb fc fv t : Int) (q n : Nat) (hq : q ≤ 255) (hn : n ≤ 255) (w : World) (hV : Vars w.heap.size w) :
    Calls Tryd.prog 4 #[.agg #[.int .i64 13, .int .i64 fd, .int .i64 fo, .int .i64 fa, .int .i64 fb, .int .i64 fc, .int .u64 fv, .int .i64 t], .int .u8 q, .int .u8 n] w fun e w' => e = .returned (.bool true) ∧ Below w.heap.size w w' := by
  have hbx := (Below.refl w.heap.size w).alloc (Nat.le_refl _) (.cells #[.int .i64 13, .int .i64 fd, .int .i64 fo, .int .i64 fa, .int .i64 fb, .int .i64 fc, .int .u64 fv, .int .i64 t] 26)
  have HB := Lib.hid (show (w.alloc (.cells #[.int .i64 13, .int .i64 fd, .int .i64 fo, .int .i64 fa, .int .i64 fb, .int .i64 fc, .int .u64 fv, .int .i64 t] 26)).heap[w.heap.size]? = some (.cells #[.int .i64 13, .int .i64 fd, .int .i64 fo, .int .i64 fa, .int .i64 fb, .int .i64 fc, .int .u64 fv, .int .i64 t] 26 (0, 0)) by rw [alloc_at, if_pos rfl])
  have PA := fun w1 (hb1 : Below w.heap.size w w1) => awake_any w1 ((hV.on hb1).mono hb1.size)
  have hN : nextP ⟨13, fd, fo, fa, fb, fc, fv, t⟩ (q : Int) (n : Int) = wantP false false t q n := by
    unfold nextP
    exact next_want _ _ _ _ _
  have PN := fun w1 => next_any ⟨13, fd, fo, fa, fb, fc, fv, t⟩ (q : Int) (n : Int) w1 (by omega) (by omega)
  rw [hN] at PN
  clear hN
  go_enter Tryd.func4, Tryd.ntmps4
  go_wp2_with (go_at_call 8; refine (PA _ hbx).mono ?_; rintro ed w1 ⟨rfl, hb1⟩; have HB1 := Lib.hid (keepB hb1 HB.out); have h01 := hbx.trans (hb1.mono (show w.heap.size ≤ (w.alloc (.cells #[.int .i64 13, .int .i64 fd, .int .i64 fo, .int .i64 fa, .int .i64 fb, .int .i64 fc, .int .u64 fv, .int .i64 t] 26)).heap.size by simp)))
  go_loopw [7, 8] (fun y i wr => ∃ k : Nat, k ≤ n ∧ i = .int .i64 k ∧ Own wr w1.heap.size y (wantP false false t q k) ∧ Below w1.heap.size w1 wr) (fun _ i _ => n - (intOf i).toNat)
  case atStart => exact ⟨0, Nat.zero_le _, rfl, Own.nil _ _, Below.refl _ _⟩
  case round =>
    obtain ⟨k, hk, rfl, hO, hBr⟩ := hrel
    obtain ⟨x0, x1, x2, x3, x4, x5, x6, x7⟩ := code_cells (keepB hBr HB1.out)
    have hBz := hBr.size
    by_cases hlt : k < n
    · have hLn := want_len false false t q k
      obtain ⟨L, hL⟩ : ∃ L, L = wantP false false t q k := ⟨_, rfl⟩
      rw [← hL] at hO hLn
      replace hLn : L.length ≤ 1000000 := by omega
      have HS : Hid (wantP false false t q (k + 1) = L) := Lib.hid (by rw [hL]; simp [wantP, pickB])
      clear hL
      go_wp2
      go_roundw
      case rel => exact ⟨k + 1, by omega, by go_num, by rw [HS.out]; exact hO, hBr⟩
      case measure => simp [intOf]; omega
    · obtain rfl : k = n := by omega
      have PS := fun va vb w2 ha hb => same_any (wantP false false t q k) (wantP false false t q k) va vb w2 ha hb
      simp only [decide_true] at PS
      go_wp2_with (first
        | (go_at_call 15; refine (PN _).mono ?_; rintro ed w2 ⟨v2, rfl, ho2, hb2⟩)
        | (go_at_call 12; refine (PS _ _ _ ho2.nums (hO.on hb2).nums).mono ?_; rintro ed w3 ⟨rfl, hb3⟩))
      go_ret
      exact ⟨rfl, ((h01.trans (hBr.mono h01.size)).trans (hb2.mono (Nat.le_trans h01.size hBz))).trans (hb3.mono (Nat.le_trans (Nat.le_trans h01.size hBz) hb2.size))⟩

set_option maxHeartbeats 4000000 in
set_option maxRecDepth 100000 in
theorem wnext_op (op fd fo fa fb fc fv t : Int) (e6 : ¬ op = 6) (f6 : (op != 6) = true) (g6 : (op == 6) = false) (e7 : ¬ op = 7) (g7 : (op == 7) = false) (e13 : ¬ op = 13) (f13 : (op != 13) = true) (q n : Nat) (hq : q ≤ 255) (hn : n ≤ 255) (w : World) (hV : Vars w.heap.size w) :
    Calls Tryd.prog 4 #[.agg #[.int .i64 op, .int .i64 fd, .int .i64 fo, .int .i64 fa, .int .i64 fb, .int .i64 fc, .int .u64 fv, .int .i64 t], .int .u8 q, .int .u8 n] w fun e w' => e = .returned (.bool true) ∧ Below w.heap.size w w' := by
  have hbx := (Below.refl w.heap.size w).alloc (Nat.le_refl _) (.cells #[.int .i64 op, .int .i64 fd, .int .i64 fo, .int .i64 fa, .int .i64 fb, .int .i64 fc, .int .u64 fv, .int .i64 t] 26)
  have HB := Lib.hid (show (w.alloc (.cells #[.int .i64 op, .int .i64 fd, .int .i64 fo, .int .i64 fa, .int .i64 fb, .int .i64 fc, .int .u64 fv, .int .i64 t] 26)).heap[w.heap.size]? = some (.cells #[.int .i64 op, .int .i64 fd, .int .i64 fo, .int .i64 fa, .int .i64 fb, .int .i64 fc, .int .u64 fv, .int .i64 t] 26 (0, 0)) by rw [alloc_at, if_pos rfl])
  have PA := fun w1 (hb1 : Below w.heap.size w w1) => awake_any w1 ((hV.on hb1).mono hb1.size)
  have hN : nextP ⟨op, fd, fo, fa, fb, fc, fv, t⟩ (q : Int) (n : Int) = wantP false true t q n := by
    unfold nextP
    rw [show jumpsB op = false by simp [jumpsB, *], show goesB op = true by simp [goesB, *]]
    exact next_want _ _ _ _ _
  have PN := fun w1 => next_any ⟨op, fd, fo, fa, fb, fc, fv, t⟩ (q : Int) (n : Int) w1 (by omega) (by omega)
  rw [hN] at PN
  clear hN
  go_enter Tryd.func4, Tryd.ntmps4
  go_wp2_with (go_at_call 8; refine (PA _ hbx).mono ?_; rintro ed w1 ⟨rfl, hb1⟩; have HB1 := Lib.hid (keepB hb1 HB.out); have h01 := hbx.trans (hb1.mono (show w.heap.size ≤ (w.alloc (.cells #[.int .i64 op, .int .i64 fd, .int .i64 fo, .int .i64 fa, .int .i64 fb, .int .i64 fc, .int .u64 fv, .int .i64 t] 26)).heap.size by simp)))
  go_loopw [7, 8] (fun y i wr => ∃ k : Nat, k ≤ n ∧ i = .int .i64 k ∧ Own wr w1.heap.size y (wantP false true t q k) ∧ Below w1.heap.size w1 wr) (fun _ i _ => n - (intOf i).toNat)
  case atStart => exact ⟨0, Nat.zero_le _, rfl, Own.nil _ _, Below.refl _ _⟩
  case round =>
    obtain ⟨k, hk, rfl, hO, hBr⟩ := hrel
    obtain ⟨x0, x1, x2, x3, x4, x5, x6, x7⟩ := code_cells (keepB hBr HB1.out)
    have hBz := hBr.size
    by_cases hlt : k < n
    · have hLn := want_len false true t q k
      obtain ⟨L, hL⟩ : ∃ L, L = wantP false true t q k := ⟨_, rfl⟩
      rw [← hL] at hO hLn
      replace hLn : L.length ≤ 1000000 := by omega
      by_cases hkq : k = q + 1
      · have gkp : ((k : Int) == (q : Int) + 1) = true := by simp; omega
        have HS : Hid (wantP false true t q (k + 1) = L ++ [(k : Int)]) := Lib.hid (by rw [hL]; simp [wantP, pickB, hkq])
        clear hL
        clear hkq
        go_upto_region 8 with fail
        go_wp2_with (refine append_int (w0 := w1) (k : Int) rfl _ _ rfl rfl rfl hO hBz hBr hLn ?_; intro v5 w5 hO5 hb5)
        go_roundw
        case rel => exact ⟨k + 1, by omega, by go_num, by rw [HS.out]; exact hO5, hb5⟩
        case measure => simp [intOf]; omega
      · have HS : Hid (wantP false true t q (k + 1) = L) := Lib.hid (by rw [hL]; simp [wantP, pickB, hkq])
        clear hL
        have gkq : ((k : Int) == (q : Int) + 1) = false := by simp; omega
        have fkq : ¬ (k : Int) = (q : Int) + 1 := by omega
        clear hkq
        go_wp2
        go_roundw
        case rel => exact ⟨k + 1, by omega, by go_num, by rw [HS.out]; exact hO, hBr⟩
        case measure => simp [intOf]; omega
    · obtain rfl : k = n := by omega
      have PS := fun va vb w2 ha hb => same_any (wantP false true t q k) (wantP false true t q k) va vb w2 ha hb
      simp only [decide_true] at PS
      go_wp2_with (first
        | (go_at_call 15; refine (PN _).mono ?_; rintro ed w2 ⟨v2, rfl, ho2, hb2⟩)
        | (go_at_call 12; refine (PS _ _ _ ho2.nums (hO.on hb2).nums).mono ?_; rintro ed w3 ⟨rfl, hb3⟩))
      go_ret
      exact ⟨rfl, ((h01.trans (hBr.mono h01.size)).trans (hb2.mono (Nat.le_trans h01.size hBz))).trans (hb3.mono (Nat.le_trans (Nat.le_trans h01.size hBz) hb2.size))⟩

theorem next_walk (x : Cd) (q n : Nat) (hq : q ≤ 255) (hn : n ≤ 255) (w : World) (hV : Vars w.heap.size w) :
    Calls Tryd.prog 4 #[.agg #[.int .i64 x.op, .int .i64 x.dop, .int .i64 x.to, .int .i64 x.a, .int .i64 x.b, .int .i64 x.c, .int .u64 x.v, .int .i64 x.t], .int .u8 q, .int .u8 n] w fun e w' => e = .returned (.bool true) ∧ Below w.heap.size w w' := by
  obtain ⟨op, dop, fo, a, b, c, v, t⟩ := x
  by_cases k6 : op = 6
  · subst k6; exact wnext_6 dop fo a b c v t q n hq hn w hV
  by_cases k7 : op = 7
  · subst k7; exact wnext_7 dop fo a b c v t q n hq hn w hV
  by_cases k13 : op = 13
  · subst k13; exact wnext_13 dop fo a b c v t q n hq hn w hV
  have f6 : (op != 6) = true := by simpa using k6
  have g6 : (op == 6) = false := by simpa using k6
  have g7 : (op == 7) = false := by simpa using k7
  have f13 : (op != 13) = true := by simpa using k13
  exact wnext_op op dop fo a b c v t k6 f6 g6 k7 g7 k13 f13 q n hq hn w hV
end Go.Proofs.YtjiecfagblijhaaDoor.Cd
