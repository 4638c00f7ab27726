/- What Make does where it makes a thread and puts it behind the others, in whatever order. Conditions: the maker lies in a block of its own. -/
import Derived.Test.YtfginegegaokbaaGreatDoorMakeRows
namespace Go.Proofs.YtfginegegaokbaaGreatDoor
open Go.ChangeShapes Go.WideShapes Go.ChangeAt Go.RowKit
set_option linter.unusedVariables false
set_option linter.unusedSimpArgs false

@[reducible] def thrOps : Array Oper := #[{ dst := some 61, op := Op.fieldAddr 27 (Operand.tmp 5) 1, type := 0, pos := "law.go:190", after := #[], guard := none }, { dst := some 62, op := Op.load 25 (Operand.tmp 61), type := 25, pos := "law.go:190", after := #[{ on := 0, ground := Ground.data }], guard := none }, { dst := some 63, op := Op.move (Operand.tmp 3), type := 69, pos := "law.go:190", after := #[], guard := none }, { dst := some 64, op := Op.call { callee := Callee.value (Operand.func 23), args := #[Operand.tmp 63, Operand.const (Value.bool false)], argTypes := #[69, 4] }, type := 52, pos := "law.go:190", after := #[{ on := 2, ground := Ground.data }], guard := none }, { dst := some 65, op := Op.buildSlice 25 1 #[(0, Operand.tmp 64)], type := 25, pos := "law.go:190", after := #[{ on := 3, ground := Ground.data }], guard := none }, { dst := some 66, op := Op.call { callee := Callee.builtin Builtin.append, args := #[Operand.tmp 62, Operand.tmp 65], argTypes := #[25, 25] }, type := 25, pos := "law.go:190", after := #[{ on := 1, ground := Ground.data }, { on := 4, ground := Ground.data }, { on := 3, ground := Ground.chain }], guard := none }, { dst := some 67, op := Op.fieldAddr 27 (Operand.tmp 5) 1, type := 0, pos := "law.go:190", after := #[{ on := 0, ground := Ground.phase }, { on := 1, ground := Ground.phase }, { on := 2, ground := Ground.phase }, { on := 3, ground := Ground.phase }, { on := 4, ground := Ground.phase }, { on := 5, ground := Ground.phase }], guard := none }, { dst := none, op := Op.store 25 (Operand.tmp 67) (Operand.tmp 66), type := 0, pos := "law.go:190", after := #[{ on := 6, ground := Ground.data }, { on := 5, ground := Ground.data }, { on := 5, ground := Ground.chain }, { on := 0, ground := Ground.phase }, { on := 1, ground := Ground.phase }, { on := 2, ground := Ground.phase }, { on := 3, ground := Ground.phase }, { on := 4, ground := Ground.phase }, { on := 5, ground := Ground.phase }], guard := none }]

theorem prog_cells {w : World} {k : Nat} {x0 x1 : Value} (h : w.heap[k]? = some (.cells #[x0, x1] 27 (0, 0))) : w.cell? ⟨k, 0, none⟩ = some x0 ∧ w.cell? ⟨k, 1, none⟩ = some x1 := by
  refine ⟨?_, ?_⟩ <;> (rw [Lib.cell_of_heap h]; rfl)
/-- The maker stands where its blocks stand. -/
theorem MakerAt.tsame {B bm : Nat} {E : Env} {ns : List UInt8} {w w' : World} (h : MakerAt B bm E ns w) (hb : ∀ k, k < B → w'.heap[k]? = w.heap[k]?) (h1 : TSame 73 w w') (h2 : TSame 9 w w') (h3 : TSame 4 w w') (h4 : TSame 3 w w') : MakerAt B bm E ns w' := by
  obtain ⟨a1, nv, lv, sv, cv, a2, a3, a4, a5, a6, a7⟩ := h
  exact ⟨a1, nv, lv, sv, cv, h1 _ _ _ a2, a3.on hb, own_same a4 h2, own_same a5 h3, own_same a6 h4, a7⟩
structure TG where
  bao : Option Addr
  bcap : Nat
  q : Nat
  tg : Nat
  tcap : Nat
structure TC where
  w0 : World
  B : Nat
  bm : Nat
  bp : Nat
  b0 : Nat
  dv : Value
  ds : List Dcl
  tao : Option Addr
  tcap : Nat
  ts : List (List Stm)
  ss : List Stm
  E : Env
  ns : List UInt8
  ns' : List UInt8
def thrV (X : TC) (g : TG) : Nat → Value
  | 0 => .pointer (some ⟨X.bp, 1, none⟩)
  | 1 => .slice X.tao X.ts.length X.tcap
  | 2 => .pointer (some ⟨X.bm, 0, none⟩)
  | 3 => .slice g.bao X.ss.length g.bcap
  | 4 => .slice (some ⟨g.q, 0, none⟩) 1 1
  | 5 => .slice (some ⟨g.tg, 0, none⟩) (X.ts.length + 1) g.tcap
  | 6 => .pointer (some ⟨X.bp, 1, none⟩)
  | _ => undef
theorem writeAll_thr (V : Nat → Value) (t : Array Value) : writeAll thrOps V t = ((((((t.setIfInBounds 61 (V 0)).setIfInBounds 62 (V 1)).setIfInBounds 63 (V 2)).setIfInBounds 64 (V 3)).setIfInBounds 65 (V 4)).setIfInBounds 66 (V 5)).setIfInBounds 67 (V 6) := by kernel_rfl
def TInv (X : TC) (l3 l4 l5 l7 : Bool) (g : TG) (w : World) : Prop :=
  Below X.B X.w0 w ∧ X.B ≤ w.heap.size ∧ w.heap[X.b0]? = some (.cells #[.slice none 0 0, .slice none 0 0] 27 (0, 0)) ∧ X.b0 ≠ X.bp ∧ X.B ≤ X.bp ∧ DlRow X.B w X.dv X.ds ∧
  w.heap[X.bp]? = some (.cells #[X.dv, pick3 l7 (.slice (some ⟨g.tg, 0, none⟩) (X.ts.length + 1) g.tcap) (.slice X.tao X.ts.length X.tcap)] 27 (0, 0)) ∧
  (l3 = false → MakerAt X.B X.bm X.E X.ns w) ∧ (l3 = true → MakerAt X.B X.bm X.E X.ns' w ∧ ∃ a b, X.B ≤ a ∧ b ≤ w.heap.size ∧ Stms a b w (fun v' s' => SRep a b w 13 5 v' s') (.slice g.bao X.ss.length g.bcap) X.ss) ∧
  (l5 = false → ThRow X.B 5 w (.slice X.tao X.ts.length X.tcap) X.ts) ∧ (l5 = true → ThRow X.B 5 w (.slice (some ⟨g.tg, 0, none⟩) (X.ts.length + 1) g.tcap) (X.ts ++ [X.ss])) ∧
  (l4 = true → l5 = false → w.heap[g.q]? = some (.cells #[.slice g.bao X.ss.length g.bcap] 52 (0, 0)))
def thrInv (X : TC) (L : Nat → Bool) (g : TG) (w : World) : Prop := TInv X (L 3) (L 4) (L 5) (L 7) g w
/-- Blocks of these types stand. -/
theorem TInv.keep {X : TC} {l3 l4 l5 l7 : Bool} {g : TG} {w w' : World} (h : TInv X l3 l4 l5 l7 g w) (hb : Below X.B w w') (hP : TSame 27 w w') (hD : TSame 68 w w') (hT : TSame 52 w w') (hS : TSame 60 w w') (hE : TSame 57 w w') (hm : TSame 73 w w') (h2 : TSame 9 w w') (h3 : TSame 4 w w') (h4 : TSame 3 w w') : TInv X l3 l4 l5 l7 g w' := by
  obtain ⟨a1, a2, a3, a4, a4', a5, a6, a7, a8, a9, a10, a11⟩ := h
  have hz := hb.size
  exact ⟨a1.trans hb, by omega, hP _ _ _ a3, a4, a4', own_same a5 hD, hP _ _ _ a6, fun e => (a7 e).tsame hb.block hm h2 h3 h4, fun e => ⟨(a8 e).1.tsame hb.block hm h2 h3 h4, (a8 e).2.imp fun a h => h.imp fun b h => ⟨h.1, by have := h.2.1; omega, h.2.2.same hS hE⟩⟩, fun e => (a9 e).same hz hT hS hE, fun e => (a10 e).same hz hT hS hE, fun e f => hT _ _ _ (a11 e f)⟩
theorem TInv.alloc {X : TC} {l3 l4 l5 l7 : Bool} {g : TG} {w : World} (h : TInv X l3 l4 l5 l7 g w) (o : Obj) : TInv X l3 l4 l5 l7 g (w.alloc o) :=
  h.keep ((Below.refl _ _).alloc h.2.1 o) (TSame.alloc _ _ _) (TSame.alloc _ _ _) (TSame.alloc _ _ _) (TSame.alloc _ _ _) (TSame.alloc _ _ _) (TSame.alloc _ _ _) (TSame.alloc _ _ _) (TSame.alloc _ _ _) (TSame.alloc _ _ _)
theorem TInv.drew {X : TC} {l3 l4 l5 l7 : Bool} {g : TG} {w : World} (h : TInv X l3 l4 l5 l7 g w) : TInv X l3 l4 l5 l7 g w.drew :=
  h.keep (Below.refl _ _).drew (fun _ _ _ h => h) (fun _ _ _ h => h) (fun _ _ _ h => h) (fun _ _ _ h => h) (fun _ _ _ h => h) (fun _ _ _ h => h) (fun _ _ _ h => h) (fun _ _ _ h => h) (fun _ _ _ h => h)

set_option maxHeartbeats 2000000 in
set_option maxRecDepth 100000 in
theorem thr_region (X : TC) {Q : Exit → Act → World → Prop} {a0 : Act} {W : World} (h0 : TInv X false false false false ⟨none, 0, 0, 0, 0⟩ W)
    (hB : ∀ w', MakerAt X.B X.bm X.E X.ns w' → Calls Tryz.prog 23 #[.pointer (some ⟨X.bm, 0, none⟩), .bool false] w' (MadeS X.B X.bm 5 w' (X.ss, X.E, X.ns')))
    (e3 : a0.tmps.getD 3 undef = .pointer (some ⟨X.bm, 0, none⟩)) (e5 : a0.tmps.getD 5 undef = .pointer (some ⟨X.bp, 0, none⟩)) (hz : a0.tmps.size = 69) (hlen : X.ts.length ≤ 100)
    (hend : ∀ (g : TG) w, TInv X true true true true g w → Q .normal ⟨writeAll thrOps (thrV X g) a0.tmps, a0.defers⟩ w) : (Code.region 10 thrOps true).wp Tryz.prog Q a0 W := by
  refine wp_region_slots (by kernel_rfl) (by kernel_rfl) (by kernel_rfl) (by kernel_rfl) (thrV X) (thrInv X) ⟨none, 0, 0, 0, 0⟩ h0.drew ?_ (fun L g w hL hI => hend g w (by unfold thrInv at hI; rwa [hL 3 (by decide), hL 4 (by decide), hL 5 (by decide), hL 7 (by decide)] at hI))
  · intro L g a wr i op hop hLi hpre hC hI hS K hK
    have s3 := (hS.old2 3 (by kernel_rfl)).trans e3
    have s5 := (hS.old2 5 (by kernel_rfl)).trans e5
    have hb := hI.2.2.2.2.2.2.1
    match i with
    | 0 =>
      simp only [thrOps, List.getElem?_toArray, List.getElem?_cons_zero, List.getElem?_cons_succ, Option.some.injEq] at hop
      subst hop
      go_simp
      exact hK _ _ ⟨g, fun _ => rfl, fun _ _ _ => rfl, hI⟩
    | 1 =>
      simp only [thrOps, List.getElem?_toArray, List.getElem?_cons_zero, List.getElem?_cons_succ, Option.some.injEq] at hop
      subst hop
      have n0 := hS.new2 0 61 (by kernel_rfl) (pre_at hpre 0 (by kernel_rfl)) (by rw [hz]; decide)
      simp only [thrV] at n0
      have no7 : L 7 = false := by cases h : L 7 with | false => rfl | true => exact absurd (hC.at 7 1 (by kernel_rfl) h) (by simp [hLi])
      have hcell := (prog_cells hb).2
      simp only [pick3, no7, Bool.false_eq_true, if_false] at hcell
      go_simp
      exact hK _ _ ⟨g, fun _ => rfl, fun _ _ _ => rfl, hI⟩
    | 2 =>
      simp only [thrOps, List.getElem?_toArray, List.getElem?_cons_zero, List.getElem?_cons_succ, Option.some.injEq] at hop
      subst hop
      go_simp
      exact hK _ _ ⟨g, fun _ => rfl, fun _ _ _ => rfl, hI⟩
    | 3 =>
      simp only [thrOps, List.getElem?_toArray, List.getElem?_cons_zero, List.getElem?_cons_succ, Option.some.injEq] at hop
      subst hop
      have n2 := hS.new2 2 63 (by kernel_rfl) (pre_at hpre 2 (by kernel_rfl)) (by rw [hz]; decide)
      simp only [thrV] at n2
      have no4 : L 4 = false := by cases h : L 4 with | false => rfl | true => exact absurd (hC.at 4 3 (by kernel_rfl) h) (by simp [hLi])
      have no5 : L 5 = false := by cases h : L 5 with | false => rfl | true => exact absurd (hC.at 5 3 (by kernel_rfl) h) (by simp [hLi])
      have no7 : L 7 = false := by cases h : L 7 with | false => rfl | true => exact absurd (hC.at 7 3 (by kernel_rfl) h) (by simp [hLi])
      have hMk := hI.2.2.2.2.2.2.2.1 hLi
      go_simp
      go_at_call 23
      refine (hB wr hMk).mono ?_
      rintro e w1 ⟨v1, rfl, hS1, hM1, hK1⟩
      obtain ⟨bao, bcap, rfl, _⟩ := id hS1
      go_simp
      refine hK _ _ ⟨{ g with bao := bao, bcap := bcap }, fun _ => rfl, fun j hj hLj => ?_, ?_⟩
      · unfold thrV; split <;> first | rfl | exact absurd rfl hj | (rw [no4] at hLj; cases hLj) | (rw [no5] at hLj; cases hLj)
      · obtain ⟨a1, a2, a3, a4, a4', a5, a6, a7, a8, a9, a10, a11⟩ := hI
        have hz1 := hK1.size
        have tk : ∀ t : TypeId, t ≠ 73 → t ≠ 9 → t ≠ 4 → t ≠ 3 → TSame t wr w1 := fun t h1 h2 h3 h4 => TSame.of_keep hK1 h1 h2 h3 h4
        have tP := tk 27 (by decide) (by decide) (by decide) (by decide)
        have tD := tk 68 (by decide) (by decide) (by decide) (by decide)
        have tT := tk 52 (by decide) (by decide) (by decide) (by decide)
        have tS := tk 60 (by decide) (by decide) (by decide) (by decide)
        have tE := tk 57 (by decide) (by decide) (by decide) (by decide)
        simp only [thrInv, no4, no5, no7]
        exact ⟨a1.trans hK1.1, by omega, tP _ _ _ a3, a4, a4', own_same a5 tD, by have := tP _ _ _ a6; simpa [pick3, no7] using this, (fun e => by cases e), (fun _ => ⟨hM1, wr.heap.size, w1.heap.size, a2, Nat.le_refl _, hS1⟩), (fun _ => (a9 no5).same hz1 tT tS tE), (fun e => by cases e), (fun e => by cases e)⟩
    | 4 =>
      simp only [thrOps, List.getElem?_toArray, List.getElem?_cons_zero, List.getElem?_cons_succ, Option.some.injEq] at hop
      subst hop
      have n3 := hS.new2 3 64 (by kernel_rfl) (pre_at hpre 3 (by kernel_rfl)) (by rw [hz]; decide)
      simp only [thrV] at n3
      have no5 : L 5 = false := by cases h : L 5 with | false => rfl | true => exact absurd (hC.at 5 4 (by kernel_rfl) h) (by simp [hLi])
      go_simp
      refine hK _ _ ⟨{ g with q := wr.heap.size }, fun _ => rfl, fun j hj hLj => ?_, ?_⟩
      · unfold thrV; split <;> first | rfl | exact absurd rfl hj
      · obtain ⟨a1, a2, a3, a4, a4', a5, a6, a7, a8, a9, a10, a11⟩ := TInv.alloc hI (.cells #[.slice g.bao X.ss.length g.bcap] 52)
        exact ⟨a1, a2, a3, a4, a4', a5, a6, a7, a8, a9, a10, fun _ _ => heap_alloc_new wr _⟩
    | 5 =>
      simp only [thrOps, List.getElem?_toArray, List.getElem?_cons_zero, List.getElem?_cons_succ, Option.some.injEq] at hop
      subst hop
      have m1 := hS.new 1 62 (by kernel_rfl) (pre_at hpre 1 (by kernel_rfl)) (by rw [hz]; decide)
      simp only [thrV] at m1
      have m4 := hS.new 4 65 (by kernel_rfl) (pre_at hpre 4 (by kernel_rfl)) (by rw [hz]; decide)
      simp only [thrV] at m4
      have no7 : L 7 = false := by cases h : L 7 with | false => rfl | true => exact absurd (hC.at 7 5 (by kernel_rfl) h) (by simp [hLi])
      have y3 : L 3 = true := hC.at 4 3 (by kernel_rfl) (pre_at hpre 4 (by kernel_rfl))
      obtain ⟨a1, a2, a3, a4, a4', a5, a6, a7, a8, a9, a10, a11⟩ := id hI
      have hsrc := a11 (pre_at hpre 4 (by kernel_rfl)) hLi
      obtain ⟨xs, hown, hr⟩ := id (a9 hLi)
      obtain ⟨hMk, pa, pb, hpa, hpb, hSn⟩ := a8 y3
      obtain ⟨i0, hi, hz0, hz1, hz2⟩ := info_parts infoStmts
      refine wp_append_lies wr (.tmp 62) (.tmp 65) 25 (by rfl) X.B 52 i0 _ 1 24 Tryz.underlying25 hi hz0 hz1 hz2 rfl (by omega) _ X.ts.length xs m1 hown ⟨g.q, 0, none⟩ 1 1 [.slice g.bao X.ss.length g.bcap] m4 (by simp) (World.news_of_block hsrc) (by simp [Value.oneCell']) (by omega) (by unfold maxLen; omega) (by omega) a2 _ rfl ?_
      intro gg cap w1 hown1 hgrow hat hlt
      have hz1 := hgrow.size
      have tk : ∀ t : TypeId, t ≠ 52 → TSame t wr w1 := fun t h1 => TSame.of_row hown hgrow h1
      have hbl : Below X.B wr w1 := (Below.refl _ _).grown hgrow a2 (fun k hk => (hown.lt k hk).1)
      refine hK _ _ ⟨{ g with tg := gg, tcap := cap }, fun _ => rfl, fun j hj hLj => ?_, ?_⟩
      · unfold thrV; split <;> first | rfl | exact absurd rfl hj
      · simp only [thrInv, no7, y3, pre_at hpre 4 (by kernel_rfl)]
        refine ⟨a1.trans hbl, by omega, tk _ (by decide) _ _ _ a3, a4, a4', own_same a5 (tk _ (by decide)), by have := tk _ (by decide) _ _ _ a6; simpa [pick3, no7] using this, (fun e => by cases e), (fun _ => ⟨hMk.tsame hbl.block (tk _ (by decide)) (tk _ (by decide)) (tk _ (by decide)) (tk _ (by decide)), pa, pb, hpa, by omega, hSn.same (tk _ (by decide)) (tk _ (by decide))⟩), (fun e => by cases e), (fun _ => ?_), (fun _ e => by cases e)⟩
        refine ⟨_, by simpa using hown1, fun i ss hs => ?_⟩
        have hxl := hown.1
        by_cases hi : i < X.ts.length
        · rw [List.getElem?_append_left hi] at hs
          obtain ⟨pa, pb, ao, cap', hx, ha, hb', hSo⟩ := hr i ss hs
          exact ⟨pa, pb, ao, cap', by rw [List.getElem?_append_left (by omega)]; exact hx, ha, by omega, hSo.same (tk _ (by decide)) (tk _ (by decide))⟩
        · rw [List.getElem?_append_right (by omega)] at hs
          have hi0 : i - X.ts.length = 0 := by
            rcases Nat.eq_zero_or_pos (i - X.ts.length) with h | h
            · exact h
            · rw [List.getElem?_eq_none (by simp; omega)] at hs; cases hs
          rw [hi0] at hs
          simp at hs
          subst hs
          exact ⟨pa, pb, g.bao, g.bcap, by rw [List.getElem?_append_right (by omega), show i - xs.length = 0 by omega]; rfl, hpa, by omega, hSn.same (tk _ (by decide)) (tk _ (by decide))⟩
    | 6 =>
      simp only [thrOps, List.getElem?_toArray, List.getElem?_cons_zero, List.getElem?_cons_succ, Option.some.injEq] at hop
      subst hop
      go_simp
      exact hK _ _ ⟨g, fun _ => rfl, fun _ _ _ => rfl, hI⟩
    | 7 =>
      simp only [thrOps, List.getElem?_toArray, List.getElem?_cons_zero, List.getElem?_cons_succ, Option.some.injEq] at hop
      subst hop
      have n6 := hS.new2 6 67 (by kernel_rfl) (pre_at hpre 6 (by kernel_rfl)) (by rw [hz]; decide)
      simp only [thrV] at n6
      have n5 := hS.new2 5 66 (by kernel_rfl) (pre_at hpre 5 (by kernel_rfl)) (by rw [hz]; decide)
      simp only [thrV] at n5
      have hfz := Lib.frozen_of_heap hb 1
      have hcs := (prog_cells hb).2
      go_simp
      refine hK undef _ ⟨g, fun h => absurd rfl h, fun _ _ _ => rfl, ?_⟩
      obtain ⟨a1, a2, a3, a4, a4', a5, a6, a7, a8, a9, a10, a11⟩ := id hI
      have hw7 := set_heap a6 1 (.slice (some ⟨g.tg, 0, none⟩) (X.ts.length + 1) g.tcap)
      have tk : ∀ t : TypeId, t ≠ 27 → TSame t wr (wr.setCell ⟨X.bp, 1, none⟩ (.slice (some ⟨g.tg, 0, none⟩) (X.ts.length + 1) g.tcap)) := fun t h1 => TSame.of_set a6 h1 1 _
      have hbl : Below X.B wr (wr.setCell ⟨X.bp, 1, none⟩ (.slice (some ⟨g.tg, 0, none⟩) (X.ts.length + 1) g.tcap)) := (Below.refl _ _).setCell a4' _
      have hz1 := hbl.size
      exact ⟨a1.trans hbl, by omega, (Below.heap_setCell _ _ _ _ a4).trans a3, a4, a4', own_same a5 (tk _ (by decide)), by simpa [pick3] using hw7, (fun e => (a7 e).tsame hbl.block (tk _ (by decide)) (tk _ (by decide)) (tk _ (by decide)) (tk _ (by decide))), (fun e => ⟨(a8 e).1.tsame hbl.block (tk _ (by decide)) (tk _ (by decide)) (tk _ (by decide)) (tk _ (by decide)), (a8 e).2.imp fun a h => h.imp fun b h => ⟨h.1, by have := h.2.1; omega, h.2.2.same (tk _ (by decide)) (tk _ (by decide))⟩⟩), (fun e => (a9 e).same hz1 (tk _ (by decide)) (tk _ (by decide)) (tk _ (by decide))), (fun e => (a10 e).same hz1 (tk _ (by decide)) (tk _ (by decide)) (tk _ (by decide))), (fun e f => tk _ (by decide) _ _ _ (a11 e f))⟩
    | n + 8 => simp [thrOps] at hop
end Go.Proofs.YtfginegegaokbaaGreatDoor
