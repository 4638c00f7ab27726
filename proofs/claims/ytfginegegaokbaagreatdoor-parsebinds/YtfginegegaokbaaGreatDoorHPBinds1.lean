/- ParseBinds answers true, whatever the two numbers are. Conditions: lex's variables are as they are laid. -/
import Derived.Test.YtfginegegaokbaaGreatDoorHPBinds0
import Derived.Test.YtfginegegaokbaaGreatDoorGRegAll
import Derived.BigQuiet
namespace Go.Proofs.YtfginegegaokbaaGreatDoor.Pr
open Go.ChangeShapes Go.WideShapes Go.ChangeAt Go.RowKit
open Lx (Tok)
set_option linter.unusedVariables false
set_option linter.unusedSimpArgs false
structure BG where
  q : Nat
  dao : Option Addr
  dcap : Nat
  tao : Option Addr
  tcap : Nat
@[reducible] def bS (x : Nat) : ByteArray := bstr (signs10.getD x [])
@[reducible] def bT0 : ByteArray := ⟨#[116, 104, 114, 101, 97, 100, 32, 123, 32, 118, 32, 61, 32, 105, 32]⟩
@[reducible] def bT1 : ByteArray := ⟨#[32, 106, 32]⟩
@[reducible] def bT2 : ByteArray := ⟨#[32, 107, 59, 32, 125]⟩
@[reducible] def bP (g : BG) : Value := .agg #[.slice g.dao 0 g.dcap, .slice g.tao 1 g.tcap]
def bindV (sb x y : Nat) (g : BG) : Nat → Value
  | 0 => .slice (some ⟨sb, 0, none⟩) 10 10
  | 1 => .int .i64 (x : Int)
  | 2 => .pointer (some ⟨sb, x, none⟩)
  | 3 => .string (bS x)
  | 4 => .string (bT0 ++ bS x)
  | 5 => .string (bT0 ++ bS x ++ bT1)
  | 6 => .slice (some ⟨sb, 0, none⟩) 10 10
  | 7 => .int .i64 (y : Int)
  | 8 => .pointer (some ⟨sb, y, none⟩)
  | 9 => .string (bS y)
  | 10 => .string (bT0 ++ bS x ++ bT1 ++ bS y)
  | 11 => .string (bT0 ++ bS x ++ bT1 ++ bS y ++ bT2)
  | 12 => .tuple #[bP g, .nilIface]
  | 13 => .tuple #[bP g, .nilIface]
  | 14 => bP g
  | 15 => .nilIface
  | 16 => .pointer (some ⟨g.q, 0, none⟩)
  | 17 => undef
  | _ => .nilIface
def bindInv (W : World) (s : Stm) (L : Nat → Bool) (g : BG) (wr : World) : Prop :=
  Below W.heap.size W wr ∧ (L 12 = true → Thrs W.heap.size wr.heap.size bigM 41 wr (.slice g.tao 1 g.tcap) [[s]]) ∧
    (L 16 = true → W.heap.size ≤ g.q ∧ wr.heap[g.q]? = some (if L 17 then progO (.slice g.dao 0 g.dcap) (.slice g.tao 1 g.tcap) else zeroP))
theorem bys_text (x y : Nat) : bys (bT0 ++ bS x ++ bT1 ++ bS y ++ bT2) = bindTxt x y := by
  have app : ∀ a b : ByteArray, bys (a ++ b) = bys a ++ bys b := fun a b => by simp [bys, ByteArray.data_append]
  rw [app, app, app, app, bys_bstr, bys_bstr]; rfl
theorem tight_0 (w : World) : (Instr.index 9 (.string ⟨#[54, 54, 55, 52, 49, 50, 53, 53, 51, 51]⟩) (.int .i64 ((0 : Nat) : Int))).run Tryz.prog w = .ok (.int .u8 (bindT 0 : Int)) w := by kernel_rfl
theorem tight_1 (w : World) : (Instr.index 9 (.string ⟨#[54, 54, 55, 52, 49, 50, 53, 53, 51, 51]⟩) (.int .i64 ((1 : Nat) : Int))).run Tryz.prog w = .ok (.int .u8 (bindT 1 : Int)) w := by kernel_rfl
theorem tight_2 (w : World) : (Instr.index 9 (.string ⟨#[54, 54, 55, 52, 49, 50, 53, 53, 51, 51]⟩) (.int .i64 ((2 : Nat) : Int))).run Tryz.prog w = .ok (.int .u8 (bindT 2 : Int)) w := by kernel_rfl
theorem tight_3 (w : World) : (Instr.index 9 (.string ⟨#[54, 54, 55, 52, 49, 50, 53, 53, 51, 51]⟩) (.int .i64 ((3 : Nat) : Int))).run Tryz.prog w = .ok (.int .u8 (bindT 3 : Int)) w := by kernel_rfl
theorem tight_4 (w : World) : (Instr.index 9 (.string ⟨#[54, 54, 55, 52, 49, 50, 53, 53, 51, 51]⟩) (.int .i64 ((4 : Nat) : Int))).run Tryz.prog w = .ok (.int .u8 (bindT 4 : Int)) w := by kernel_rfl
theorem tight_5 (w : World) : (Instr.index 9 (.string ⟨#[54, 54, 55, 52, 49, 50, 53, 53, 51, 51]⟩) (.int .i64 ((5 : Nat) : Int))).run Tryz.prog w = .ok (.int .u8 (bindT 5 : Int)) w := by kernel_rfl
theorem tight_6 (w : World) : (Instr.index 9 (.string ⟨#[54, 54, 55, 52, 49, 50, 53, 53, 51, 51]⟩) (.int .i64 ((6 : Nat) : Int))).run Tryz.prog w = .ok (.int .u8 (bindT 6 : Int)) w := by kernel_rfl
theorem tight_7 (w : World) : (Instr.index 9 (.string ⟨#[54, 54, 55, 52, 49, 50, 53, 53, 51, 51]⟩) (.int .i64 ((7 : Nat) : Int))).run Tryz.prog w = .ok (.int .u8 (bindT 7 : Int)) w := by kernel_rfl
theorem tight_8 (w : World) : (Instr.index 9 (.string ⟨#[54, 54, 55, 52, 49, 50, 53, 53, 51, 51]⟩) (.int .i64 ((8 : Nat) : Int))).run Tryz.prog w = .ok (.int .u8 (bindT 8 : Int)) w := by kernel_rfl
theorem tight_9 (w : World) : (Instr.index 9 (.string ⟨#[54, 54, 55, 52, 49, 50, 53, 53, 51, 51]⟩) (.int .i64 ((9 : Nat) : Int))).run Tryz.prog w = .ok (.int .u8 (bindT 9 : Int)) w := by kernel_rfl
theorem tight_at (x : Nat) (hx : x < 10) (w : World) : (Instr.index 9 (.string ⟨#[54, 54, 55, 52, 49, 50, 53, 53, 51, 51]⟩) (.int .i64 (x : Int))).run Tryz.prog w = .ok (.int .u8 (bindT x : Int)) w := by
  match x, hx with
  | 0, _ => exact tight_0 w
  | 1, _ => exact tight_1 w
  | 2, _ => exact tight_2 w
  | 3, _ => exact tight_3 w
  | 4, _ => exact tight_4 w
  | 5, _ => exact tight_5 w
  | 6, _ => exact tight_6 w
  | 7, _ => exact tight_7 w
  | 8, _ => exact tight_8 w
  | 9, _ => exact tight_9 w
  | n + 10, h => omega
theorem grown_drewN {a w : World} {row : Option Nat} (h : a.grownBy w row) (n : Nat) : a.grownBy (w.drewN n) row := ⟨h.os, h.tape, h.output, h.size, h.block⟩
set_option maxHeartbeats 8000000 in
set_option maxRecDepth 100000 in
theorem binds_walk (w : World) (a b x y : Nat) (ha : a < 256) (hb : b < 256) (hx : Int.tmod (a : Int) 10 = (x : Int)) (hy : Int.tmod (b : Int) 10 = (y : Int)) (hx9 : x < 10) (hy9 : y < 10) (hV : Lx.Vars w) :
    Calls Tryz.prog 7 #[.int .u8 (a : Int), .int .u8 (b : Int)] w fun e w' => e = .returned (.bool true) ∧ Below w.heap.size w w' := by
  have A1 := awake_any w hV
  have HV := Lib.hid hV
  obtain ⟨s, v, ka, kb, hp, hs, hk, hask⟩ := bind_plain x y hx9 hy9
  have HP : Hid (parseP (bys (bT0 ++ bS x ++ bT1 ++ bS y ++ bT2)) = .ok ⟨[], [[s]]⟩) := by show _ = _; rw [bys_text]; exact hp
  have HS := Lib.hid hs
  have HK := Lib.hid hk
  have HASK := Lib.hid hask
  have hsz : (bT0 ++ bS x ++ bT1 ++ bS y ++ bT2).size ≤ maxLen := by
    have e : ∀ z < 10, (bS z).size ≤ 2 := by decide
    have e1 := e x hx9
    have e2 := e y hy9
    rw [ByteArray.size_append, ByteArray.size_append, ByteArray.size_append, ByteArray.size_append]
    have : bT0.size = 15 := rfl
    have : bT1.size = 3 := rfl
    have : bT2.size = 5 := rfl
    unfold maxLen
    omega
  have HB : Hid ((bS x).size ≤ 2 ∧ (bS y).size ≤ 2) := by
    have e : ∀ z < 10, (bS z).size ≤ 2 := by decide
    exact ⟨e x hx9, e y hy9⟩
  clear hV hp hs hk hask
  go_enter Tryz.func7, Tryz.ntmps7
  go_wp2_with (go_at_call 10; refine A1.mono ?_; rintro e w1 ⟨rfl, hb1'⟩; have hb1 := Lib.hid hb1'; have V1 := Lib.hid (lx_below HV.out hb1'); clear hb1')
  obtain ⟨W, hW⟩ : ∃ W, W = (w1.alloc (.cells signCells 9)) := ⟨_, rfl⟩
  have hWs : W.heap[w1.heap.size]? = some (.cells signCells 9 (0, 0)) := by rw [hW, alloc_at, if_pos rfl]
  have VW : Hid (Lx.Vars W) := by show Lx.Vars W; rw [hW]; exact lx_alloc V1.out _
  have GW : Hid (w.grownBy W none) := by show w.grownBy W none; rw [hW]; exact grownBy_trans (below_grown hb1.out none) (World.grownBy_alloc w1 _ none)
  have hWz : Hid (W.heap.size = w1.heap.size + 1) := by show _ = _; rw [hW, alloc_size]
  refine wp_region_slots (by kernel_rfl) (by kernel_rfl) (by kernel_rfl) (by kernel_rfl) (bindV w1.heap.size x y) (bindInv W s) ⟨0, none, 0, none, 0⟩ ?_ ?_ ?_
  · refine ⟨?_, (fun e => by cases e), (fun e => by cases e)⟩
    have : Below W.heap.size W W.drew := below_none (grown_drew (grownBy_refl _ none))
    rw [hW] at this ⊢
    exact this
  · intro L g ac wr i op hop hLi hpre hC hI hS K hK
    have s5 : ac.tmps[5]?.getD undef = .slice (some ⟨w1.heap.size, 0, none⟩) 10 10 := (hS.old2 5 (by kernel_rfl)).trans rfl
    have s7 : ac.tmps[7]?.getD undef = .int .i64 (x : Int) := (hS.old2 7 (by kernel_rfl)).trans rfl
    have s8 : ac.tmps[8]?.getD undef = .int .i64 (y : Int) := (hS.old2 8 (by kernel_rfl)).trans rfl
    have same : i ≠ 12 → i ≠ 16 → i ≠ 17 → bindInv W s (fun j => if j = i then true else L j) g wr := fun h12 h16 h17 => by
      unfold bindInv at hI ⊢
      simp only [show ¬ (12 = i) from fun e => h12 e.symm, show ¬ (16 = i) from fun e => h16 e.symm, show ¬ (17 = i) from fun e => h17 e.symm, if_false]
      exact hI
    have keep : ∀ j, j ≠ i → L j = true → bindV w1.heap.size x y g j = bindV w1.heap.size x y g j := fun _ _ _ => rfl
    have hsg := below_keep hI.1 hWs
    have hsl := heap_lt hsg
    have gx := sign_at hsg x hx9
    have hbx : (bS x).size ≤ 2 := HB.out.1
    have hby : (bS y).size ≤ 2 := HB.out.2
    have gy := sign_at hsg y hy9
    match i with
    | 0 =>
      simp only [List.getElem?_toArray, List.getElem?_cons_zero, List.getElem?_cons_succ, Option.some.injEq] at hop
      subst hop
      go_simp
      exact hK _ _ ⟨g, fun _ => rfl, keep, same (by decide) (by decide) (by decide)⟩
    | 1 =>
      simp only [List.getElem?_toArray, List.getElem?_cons_zero, List.getElem?_cons_succ, Option.some.injEq] at hop
      subst hop
      go_simp
      exact hK _ _ ⟨g, fun _ => rfl, keep, same (by decide) (by decide) (by decide)⟩
    | 2 =>
      simp only [List.getElem?_toArray, List.getElem?_cons_zero, List.getElem?_cons_succ, Option.some.injEq] at hop
      subst hop
      have n0 := hS.new2 0 22 (by kernel_rfl) (pre_at hpre 0 (by kernel_rfl)) (show 22 < 139 by decide)
      simp only [bindV] at n0
      have n1 := hS.new2 1 23 (by kernel_rfl) (pre_at hpre 1 (by kernel_rfl)) (show 23 < 139 by decide)
      simp only [bindV] at n1
      go_simp
      rw [if_pos (show (x : Int) < 10 by omega)]
      exact hK _ _ ⟨g, fun _ => rfl, keep, same (by decide) (by decide) (by decide)⟩
    | 3 =>
      simp only [List.getElem?_toArray, List.getElem?_cons_zero, List.getElem?_cons_succ, Option.some.injEq] at hop
      subst hop
      have n2 := hS.new2 2 24 (by kernel_rfl) (pre_at hpre 2 (by kernel_rfl)) (show 24 < 139 by decide)
      simp only [bindV] at n2
      go_simp
      exact hK _ _ ⟨g, fun _ => rfl, keep, same (by decide) (by decide) (by decide)⟩
    | 4 =>
      simp only [List.getElem?_toArray, List.getElem?_cons_zero, List.getElem?_cons_succ, Option.some.injEq] at hop
      subst hop
      have n3 := hS.new2 3 25 (by kernel_rfl) (pre_at hpre 3 (by kernel_rfl)) (show 25 < 139 by decide)
      simp only [bindV] at n3
      go_simp
      rw [if_neg (by omega)]
      exact hK _ _ ⟨g, fun _ => rfl, keep, same (by decide) (by decide) (by decide)⟩
    | 5 =>
      simp only [List.getElem?_toArray, List.getElem?_cons_zero, List.getElem?_cons_succ, Option.some.injEq] at hop
      subst hop
      have n4 := hS.new2 4 26 (by kernel_rfl) (pre_at hpre 4 (by kernel_rfl)) (show 26 < 139 by decide)
      simp only [bindV] at n4
      go_simp
      rw [if_neg (by omega)]
      exact hK _ _ ⟨g, fun _ => rfl, keep, same (by decide) (by decide) (by decide)⟩
    | 6 =>
      simp only [List.getElem?_toArray, List.getElem?_cons_zero, List.getElem?_cons_succ, Option.some.injEq] at hop
      subst hop
      go_simp
      exact hK _ _ ⟨g, fun _ => rfl, keep, same (by decide) (by decide) (by decide)⟩
    | 7 =>
      simp only [List.getElem?_toArray, List.getElem?_cons_zero, List.getElem?_cons_succ, Option.some.injEq] at hop
      subst hop
      go_simp
      exact hK _ _ ⟨g, fun _ => rfl, keep, same (by decide) (by decide) (by decide)⟩
    | 8 =>
      simp only [List.getElem?_toArray, List.getElem?_cons_zero, List.getElem?_cons_succ, Option.some.injEq] at hop
      subst hop
      have n6 := hS.new2 6 28 (by kernel_rfl) (pre_at hpre 6 (by kernel_rfl)) (show 28 < 139 by decide)
      simp only [bindV] at n6
      have n7 := hS.new2 7 29 (by kernel_rfl) (pre_at hpre 7 (by kernel_rfl)) (show 29 < 139 by decide)
      simp only [bindV] at n7
      go_simp
      rw [if_pos (show (y : Int) < 10 by omega)]
      exact hK _ _ ⟨g, fun _ => rfl, keep, same (by decide) (by decide) (by decide)⟩
    | 9 =>
      simp only [List.getElem?_toArray, List.getElem?_cons_zero, List.getElem?_cons_succ, Option.some.injEq] at hop
      subst hop
      have n8 := hS.new2 8 30 (by kernel_rfl) (pre_at hpre 8 (by kernel_rfl)) (show 30 < 139 by decide)
      simp only [bindV] at n8
      go_simp
      exact hK _ _ ⟨g, fun _ => rfl, keep, same (by decide) (by decide) (by decide)⟩
    | 10 =>
      simp only [List.getElem?_toArray, List.getElem?_cons_zero, List.getElem?_cons_succ, Option.some.injEq] at hop
      subst hop
      have n5 := hS.new2 5 27 (by kernel_rfl) (pre_at hpre 5 (by kernel_rfl)) (show 27 < 139 by decide)
      simp only [bindV] at n5
      have n9 := hS.new2 9 31 (by kernel_rfl) (pre_at hpre 9 (by kernel_rfl)) (show 31 < 139 by decide)
      simp only [bindV] at n9
      go_simp
      rw [if_neg (by omega)]
      exact hK _ _ ⟨g, fun _ => rfl, keep, same (by decide) (by decide) (by decide)⟩
    | 11 =>
      simp only [List.getElem?_toArray, List.getElem?_cons_zero, List.getElem?_cons_succ, Option.some.injEq] at hop
      subst hop
      have n10 := hS.new2 10 32 (by kernel_rfl) (pre_at hpre 10 (by kernel_rfl)) (show 32 < 139 by decide)
      simp only [bindV] at n10
      go_simp
      rw [if_neg (by omega)]
      exact hK _ _ ⟨g, fun _ => rfl, keep, same (by decide) (by decide) (by decide)⟩
    | 12 =>
      simp only [List.getElem?_toArray, List.getElem?_cons_zero, List.getElem?_cons_succ, Option.some.injEq] at hop
      subst hop
      have n11 := hS.new2 11 33 (by kernel_rfl) (pre_at hpre 11 (by kernel_rfl)) (show 33 < 139 by decide)
      simp only [bindV] at n11
      have no17 : L 17 = false := by cases h : L 17 with | false => rfl | true => exact absurd (hC.at 17 12 (by kernel_rfl) h) (by simp [hLi])
      have no13 : L 13 = false := by cases h : L 13 with | false => rfl | true => exact absurd (hC.at 13 12 (by kernel_rfl) h) (by simp [hLi])
      have no14 : L 14 = false := by cases h : L 14 with | false => rfl | true => exact absurd (hC.at 14 13 (by kernel_rfl) h) (by simp [no13])
      have PP := program_ok (bT0 ++ bS x ++ bT1 ++ bS y ++ bT2) ⟨[], [[s]]⟩ wr hsz (VW.out.grown hI.1 VW.out.lt) HP
      go_simp
      go_at_call 12
      refine PP.mono ?_
      rintro e w3 ⟨dv, tv, rfl, D3, T3, hb3⟩
      obtain ⟨dao, dcap, rfl⟩ := dcls_slice D3
      obtain ⟨tao, tcap, rfl⟩ := thrs_slice T3
      go_simp
      refine hK _ _ ⟨⟨g.q, dao, dcap, tao, tcap⟩, fun _ => rfl, fun j hj hLj => ?_, ?_, fun _ => ?_, fun h16 => ?_⟩
      · match j with
        | 0 | 1 | 2 | 3 | 4 | 5 | 6 | 7 | 8 | 9 | 10 | 11 | 15 | 16 | 17 => rfl
        | 12 => exact absurd rfl hj
        | 13 => rw [no13] at hLj; cases hLj
        | 14 => rw [no14] at hLj; cases hLj
        | n + 18 => rfl
      · exact hI.1.trans (hb3.mono hI.1.size)
      · exact Thrs.tsame T3 (fun _ _ _ h => h) (fun _ _ _ h => h) (fun _ _ _ h => h) hI.1.size (Nat.le_refl _)
      · obtain ⟨a1, a2⟩ := hI.2.2 (by simpa using h16)
        refine ⟨a1, ?_⟩
        simp only [show ¬ (17 = 12) by decide, if_false, no17, Bool.false_eq_true] at a2 ⊢
        exact below_keep hb3 a2
    | 13 =>
      simp only [List.getElem?_toArray, List.getElem?_cons_zero, List.getElem?_cons_succ, Option.some.injEq] at hop
      subst hop
      have n12 := hS.new2 12 34 (by kernel_rfl) (pre_at hpre 12 (by kernel_rfl)) (show 34 < 139 by decide)
      simp only [bindV] at n12
      go_simp
      exact hK _ _ ⟨g, fun _ => rfl, keep, same (by decide) (by decide) (by decide)⟩
    | 14 =>
      simp only [List.getElem?_toArray, List.getElem?_cons_zero, List.getElem?_cons_succ, Option.some.injEq] at hop
      subst hop
      have n13 := hS.new2 13 21 (by kernel_rfl) (pre_at hpre 13 (by kernel_rfl)) (show 21 < 139 by decide)
      simp only [bindV] at n13
      go_simp
      exact hK _ _ ⟨g, fun _ => rfl, keep, same (by decide) (by decide) (by decide)⟩
    | 15 =>
      simp only [List.getElem?_toArray, List.getElem?_cons_zero, List.getElem?_cons_succ, Option.some.injEq] at hop
      subst hop
      have n13 := hS.new2 13 21 (by kernel_rfl) (pre_at hpre 13 (by kernel_rfl)) (show 21 < 139 by decide)
      simp only [bindV] at n13
      go_simp
      exact hK _ _ ⟨g, fun _ => rfl, keep, same (by decide) (by decide) (by decide)⟩
    | 16 =>
      simp only [List.getElem?_toArray, List.getElem?_cons_zero, List.getElem?_cons_succ, Option.some.injEq] at hop
      subst hop
      have no17 : L 17 = false := by cases h : L 17 with | false => rfl | true => exact absurd (hC.at 17 16 (by kernel_rfl) h) (by simp [hLi])
      go_simp
      refine hK _ _ ⟨⟨wr.heap.size, g.dao, g.dcap, g.tao, g.tcap⟩, fun _ => rfl, fun j hj hLj => ?_, ?_, fun h12 => ?_, fun _ => ?_⟩
      · match j with
        | 0 | 1 | 2 | 3 | 4 | 5 | 6 | 7 | 8 | 9 | 10 | 11 | 12 | 13 | 14 | 15 | 17 => rfl
        | 16 => exact absurd rfl hj
        | n + 18 => rfl
      · exact hI.1.alloc hI.1.size _
      · exact Thrs.tsame (hI.2.1 (by simpa using h12)) (TSame.alloc _ _ _) (TSame.alloc _ _ _) (TSame.alloc _ _ _) (Nat.le_refl _) (by rw [alloc_size]; omega)
      · refine ⟨hI.1.size, ?_⟩
        simp only [show ¬ (17 = 16) by decide, if_false, no17, Bool.false_eq_true]
        rw [alloc_at, if_pos rfl]
    | 17 =>
      simp only [List.getElem?_toArray, List.getElem?_cons_zero, List.getElem?_cons_succ, Option.some.injEq] at hop
      subst hop
      have n16 := hS.new2 16 9 (by kernel_rfl) (pre_at hpre 16 (by kernel_rfl)) (show 9 < 139 by decide)
      simp only [bindV] at n16
      have n14 := hS.new2 14 35 (by kernel_rfl) (pre_at hpre 14 (by kernel_rfl)) (show 35 < 139 by decide)
      simp only [bindV] at n14
      have y16 : L 16 = true := pre_at hpre 16 (by kernel_rfl)
      have y12 : L 12 = true := hC.at 13 12 (by kernel_rfl) (hC.at 14 13 (by kernel_rfl) (pre_at hpre 14 (by kernel_rfl)))
      obtain ⟨a1, a2⟩ := hI.2.2 y16
      rw [hLi] at a2
      simp only [Bool.false_eq_true, if_false] at a2
      obtain ⟨x0, x1, f0, f1⟩ := two_cells a2
      have hlq := heap_lt a2
      go_simp
      refine hK undef _ ⟨g, fun h => absurd rfl h, keep, ?_, fun _ => ?_, fun _ => ?_⟩
      · exact below_of (br := g.q) (grown_set (grown_set (below_grown hI.1 (some g.q)) a1 _ _) a1 _ _) a1
      · have t1 := fun (t : TypeId) (ht : t ≠ 27) => (TSame.of_set a2 ht 0 (.slice g.dao 0 g.dcap)).trans (TSame.of_set (set_heap a2 0 (.slice g.dao 0 g.dcap)) ht 1 (.slice g.tao 1 g.tcap))
        exact Thrs.tsame (hI.2.1 y12) (t1 _ (by decide)) (t1 _ (by decide)) (t1 _ (by decide)) (Nat.le_refl _) (by simp [World.setCell])
      · refine ⟨a1, ?_⟩
        simp only [if_true]
        exact set_heap (set_heap a2 0 (.slice g.dao 0 g.dcap)) 1 (.slice g.tao 1 g.tcap)
    | 18 =>
      simp only [List.getElem?_toArray, List.getElem?_cons_zero, List.getElem?_cons_succ, Option.some.injEq] at hop
      subst hop
      have n15 := hS.new2 15 36 (by kernel_rfl) (pre_at hpre 15 (by kernel_rfl)) (show 36 < 139 by decide)
      simp only [bindV] at n15
      go_simp
      exact hK _ _ ⟨g, fun _ => rfl, keep, same (by decide) (by decide) (by decide)⟩
    | n + 19 => simp at hop
  · intro L g wr hL hI
    have hI0 := hI
    obtain ⟨h1, h2, h3⟩ := hI
    have T6 := h2 (hL 12 (by decide))
    obtain ⟨a1, a2⟩ := h3 (hL 16 (by decide))
    rw [hL 17 (by decide)] at a2
    simp only [if_true] at a2
    obtain ⟨x0, x1, f0, f1⟩ := two_cells a2
    have hlq := heap_lt a2
    obtain ⟨g0, o0, c0, g1, o1, c1, g2, o2, c2, g3, o3, c3, va, vb, etv, l0, m0, l1, m1, l2, m20, m21, m22, m23, m24, m25, l3, ⟨p0, p1, p2, p4⟩, q0, q1, q2, q4⟩ := bind_mem T6 HS.out HK.out
    obtain ⟨gq, dao, dcap, tao, tcap⟩ := g
    simp only at etv x0 x1 f0 f1 hlq a1
    cases etv
    have HI := Lib.hid h1
    clear h1 h2 h3 hI0 T6 a2
    refine at_writeAll [(22, bindV w1.heap.size x y ⟨gq, dao, dcap, some ⟨g0, o0, none⟩, c0⟩ 0), (23, bindV w1.heap.size x y ⟨gq, dao, dcap, some ⟨g0, o0, none⟩, c0⟩ 1), (24, bindV w1.heap.size x y ⟨gq, dao, dcap, some ⟨g0, o0, none⟩, c0⟩ 2), (25, bindV w1.heap.size x y ⟨gq, dao, dcap, some ⟨g0, o0, none⟩, c0⟩ 3), (26, bindV w1.heap.size x y ⟨gq, dao, dcap, some ⟨g0, o0, none⟩, c0⟩ 4), (27, bindV w1.heap.size x y ⟨gq, dao, dcap, some ⟨g0, o0, none⟩, c0⟩ 5), (28, bindV w1.heap.size x y ⟨gq, dao, dcap, some ⟨g0, o0, none⟩, c0⟩ 6), (29, bindV w1.heap.size x y ⟨gq, dao, dcap, some ⟨g0, o0, none⟩, c0⟩ 7), (30, bindV w1.heap.size x y ⟨gq, dao, dcap, some ⟨g0, o0, none⟩, c0⟩ 8), (31, bindV w1.heap.size x y ⟨gq, dao, dcap, some ⟨g0, o0, none⟩, c0⟩ 9), (32, bindV w1.heap.size x y ⟨gq, dao, dcap, some ⟨g0, o0, none⟩, c0⟩ 10), (33, bindV w1.heap.size x y ⟨gq, dao, dcap, some ⟨g0, o0, none⟩, c0⟩ 11), (34, bindV w1.heap.size x y ⟨gq, dao, dcap, some ⟨g0, o0, none⟩, c0⟩ 12), (21, bindV w1.heap.size x y ⟨gq, dao, dcap, some ⟨g0, o0, none⟩, c0⟩ 13), (35, bindV w1.heap.size x y ⟨gq, dao, dcap, some ⟨g0, o0, none⟩, c0⟩ 14), (36, bindV w1.heap.size x y ⟨gq, dao, dcap, some ⟨g0, o0, none⟩, c0⟩ 15), (9, bindV w1.heap.size x y ⟨gq, dao, dcap, some ⟨g0, o0, none⟩, c0⟩ 16), (10, bindV w1.heap.size x y ⟨gq, dao, dcap, some ⟨g0, o0, none⟩, c0⟩ 18)] (fun t => by kernel_rfl) ?_
    simp only [List.foldl, bindV]
    go_wp2
    have ix := tight_at x hx9
    have iy := tight_at y hy9
    by_cases hT : bindT y ≤ bindT x
    · obtain ⟨e1, e2, e3, e4⟩ := bind_left HASK.out hT
      have hT1 : ((bindT y : Nat) : Int) ≤ ((bindT x : Nat) : Int) := by omega
      rw [e2] at p0
      rw [e3] at p1
      rw [e4] at q2
      rw [e1] at m21 ⊢
      clear e1 e2 e3 e4 hT
      go_quiet (fail)
      go_wp2
      go_ret
      exact ⟨by simp, below_none (grown_drewN (grownBy_trans (grownBy_trans GW.out (below_grown HI.out none)) (World.grownBy_alloc wr _ none)) _)⟩
    · obtain ⟨e1, e2, e3, e4⟩ := bind_right HASK.out hT
      have hT1 : ¬ ((bindT y : Nat) : Int) ≤ ((bindT x : Nat) : Int) := by omega
      rw [e2] at p2
      rw [e3] at q0
      rw [e4] at q1
      rw [e1] at m21 ⊢
      clear e1 e2 e3 e4 hT
      go_quiet (fail)
      go_wp2
      go_ret
      exact ⟨by simp, below_none (grown_drewN (grownBy_trans (grownBy_trans GW.out (below_grown HI.out none)) (World.grownBy_alloc wr _ none)) _)⟩
end Go.Proofs.YtfginegegaokbaaGreatDoor.Pr
