/- TreeExpr's region that makes three variables at once, in whatever order. -/
import Derived.Test.YtlfiicfkjlobhaaDoorPosInv
import Derived.Test.YtlfiicfkjlobhaaDoorWHelp
namespace Go.Proofs.YtlfiicfkjlobhaaDoor
open Go.ChangeShapes Go.WideShapes Go.ChangeAt Go.RowKit
set_option linter.unusedVariables false
set_option linter.unusedSimpArgs false

@[reducible] def exprOps : Array Oper := #[{ dst := some 67, op := Op.load 35 (Operand.tmp 8), type := 35, pos := "law.go:223", after := #[], guard := none }, { dst := some 68, op := Op.buildSlice 33 1 #[(0, Operand.tmp 67)], type := 33, pos := "law.go:223", after := #[{ on := 0, ground := Ground.data }], guard := none }, { dst := some 69, op := Op.build 35 #[(0, Operand.const (Value.int IntKind.i64 4)), (4, Operand.tmp 68)], type := 35, pos := "law.go:223", after := #[{ on := 1, ground := Ground.data }], guard := none }, { dst := some 70, op := Op.load 35 (Operand.tmp 8), type := 35, pos := "law.go:223", after := #[{ on := 14, ground := Ground.gcOnly Departure.lateStores }], guard := none }, { dst := some 71, op := Op.buildSlice 33 1 #[(0, Operand.tmp 70)], type := 33, pos := "law.go:223", after := #[{ on := 3, ground := Ground.data }, { on := 14, ground := Ground.gcOnly Departure.lateStores }], guard := none }, { dst := some 72, op := Op.build 35 #[(0, Operand.const (Value.int IntKind.i64 2)), (2, Operand.const (Value.string { data := #[110] })), (4, Operand.tmp 71)], type := 35, pos := "law.go:223", after := #[{ on := 4, ground := Ground.data }, { on := 14, ground := Ground.gcOnly Departure.lateStores }], guard := none }, { dst := some 73, op := Op.load 35 (Operand.tmp 8), type := 35, pos := "law.go:223", after := #[{ on := 15, ground := Ground.gcOnly Departure.lateStores }], guard := none }, { dst := some 74, op := Op.load 35 (Operand.tmp 9), type := 35, pos := "law.go:223", after := #[{ on := 15, ground := Ground.gcOnly Departure.lateStores }], guard := none }, { dst := some 75, op := Op.load 35 (Operand.tmp 8), type := 35, pos := "law.go:223", after := #[{ on := 15, ground := Ground.gcOnly Departure.lateStores }], guard := none }, { dst := some 76, op := Op.buildSlice 33 3 #[(0, Operand.tmp 73), (1, Operand.tmp 74), (2, Operand.tmp 75)], type := 33, pos := "law.go:223", after := #[{ on := 6, ground := Ground.data }, { on := 7, ground := Ground.data }, { on := 8, ground := Ground.data }, { on := 15, ground := Ground.gcOnly Departure.lateStores }], guard := none }, { dst := some 77, op := Op.build 35 #[(0, Operand.const (Value.int IntKind.i64 5)), (4, Operand.tmp 76)], type := 35, pos := "law.go:223", after := #[{ on := 9, ground := Ground.data }, { on := 15, ground := Ground.gcOnly Departure.lateStores }], guard := none }, { dst := some 15, op := Op.alloc 35, type := 0, pos := "law.go:223", after := #[], guard := none }, { dst := some 16, op := Op.alloc 35, type := 0, pos := "law.go:223", after := #[], guard := none }, { dst := some 17, op := Op.alloc 35, type := 0, pos := "law.go:223", after := #[], guard := none }, { dst := none, op := Op.store 35 (Operand.tmp 15) (Operand.tmp 69), type := 0, pos := "law.go:223", after := #[{ on := 11, ground := Ground.data }, { on := 2, ground := Ground.data }, { on := 0, ground := Ground.phase }, { on := 1, ground := Ground.phase }, { on := 2, ground := Ground.phase }, { on := 3, ground := Ground.textOnly Departure.lateStores }, { on := 4, ground := Ground.textOnly Departure.lateStores }, { on := 5, ground := Ground.textOnly Departure.lateStores }, { on := 6, ground := Ground.textOnly Departure.lateStores }, { on := 7, ground := Ground.textOnly Departure.lateStores }, { on := 8, ground := Ground.textOnly Departure.lateStores }, { on := 9, ground := Ground.textOnly Departure.lateStores }, { on := 10, ground := Ground.textOnly Departure.lateStores }, { on := 11, ground := Ground.phase }, { on := 12, ground := Ground.phase }, { on := 13, ground := Ground.phase }], guard := none }, { dst := none, op := Op.store 35 (Operand.tmp 16) (Operand.tmp 72), type := 0, pos := "law.go:223", after := #[{ on := 12, ground := Ground.data }, { on := 5, ground := Ground.data }, { on := 14, ground := Ground.chain }, { on := 0, ground := Ground.phase }, { on := 1, ground := Ground.phase }, { on := 2, ground := Ground.phase }, { on := 3, ground := Ground.phase }, { on := 4, ground := Ground.phase }, { on := 5, ground := Ground.phase }, { on := 6, ground := Ground.textOnly Departure.lateStores }, { on := 7, ground := Ground.textOnly Departure.lateStores }, { on := 8, ground := Ground.textOnly Departure.lateStores }, { on := 9, ground := Ground.textOnly Departure.lateStores }, { on := 10, ground := Ground.textOnly Departure.lateStores }, { on := 11, ground := Ground.phase }, { on := 12, ground := Ground.phase }, { on := 13, ground := Ground.phase }, { on := 14, ground := Ground.phase }], guard := none }, { dst := none, op := Op.store 35 (Operand.tmp 17) (Operand.tmp 77), type := 0, pos := "law.go:223", after := #[{ on := 13, ground := Ground.data }, { on := 10, ground := Ground.data }, { on := 15, ground := Ground.chain }, { on := 0, ground := Ground.phase }, { on := 1, ground := Ground.phase }, { on := 2, ground := Ground.phase }, { on := 3, ground := Ground.phase }, { on := 4, ground := Ground.phase }, { on := 5, ground := Ground.phase }, { on := 6, ground := Ground.phase }, { on := 7, ground := Ground.phase }, { on := 8, ground := Ground.phase }, { on := 9, ground := Ground.phase }, { on := 10, ground := Ground.phase }, { on := 11, ground := Ground.phase }, { on := 12, ground := Ground.phase }, { on := 13, ground := Ground.phase }, { on := 14, ground := Ground.phase }, { on := 15, ground := Ground.phase }], guard := none }]
/-- What region 12's operations leave: where their blocks lie is pos. -/
def exprV (x y : Array Value) (pos : Nat → Nat) : Nat → Value
  | 0 => .agg x
  | 1 => .slice (some ⟨pos 1, 0, none⟩) 1 1
  | 2 => .agg #[.int .i64 4, .int .i64 0, .string ⟨#[]⟩, .int .u64 0, .slice (some ⟨pos 1, 0, none⟩) 1 1, .int .i64 0]
  | 3 => .agg x
  | 4 => .slice (some ⟨pos 4, 0, none⟩) 1 1
  | 5 => .agg #[.int .i64 2, .int .i64 0, .string ⟨#[110]⟩, .int .u64 0, .slice (some ⟨pos 4, 0, none⟩) 1 1, .int .i64 0]
  | 6 => .agg x
  | 7 => .agg y
  | 8 => .agg x
  | 9 => .slice (some ⟨pos 9, 0, none⟩) 3 3
  | 10 => .agg #[.int .i64 5, .int .i64 0, .string ⟨#[]⟩, .int .u64 0, .slice (some ⟨pos 9, 0, none⟩) 3 3, .int .i64 0]
  | 11 => .pointer (some ⟨pos 11, 0, none⟩)
  | 12 => .pointer (some ⟨pos 12, 0, none⟩)
  | 13 => .pointer (some ⟨pos 13, 0, none⟩)
  | _ => undef
def exprC (x y : Array Value) (L : Nat → Bool) (pos : Nat → Nat) : Nat → Obj
  | 1 => .cells x 35 (0, 0)
  | 4 => .cells x 35 (0, 0)
  | 9 => .cells (x ++ y ++ x) 35 (0, 0)
  | 11 => if L 14 = true then .cells #[.int .i64 4, .int .i64 0, .string ⟨#[]⟩, .int .u64 0, .slice (some ⟨pos 1, 0, none⟩) 1 1, .int .i64 0] 35 (0, 0) else zeroE
  | 12 => if L 15 = true then .cells #[.int .i64 2, .int .i64 0, .string ⟨#[110]⟩, .int .u64 0, .slice (some ⟨pos 4, 0, none⟩) 1 1, .int .i64 0] 35 (0, 0) else zeroE
  | 13 => if L 16 = true then .cells #[.int .i64 5, .int .i64 0, .string ⟨#[]⟩, .int .u64 0, .slice (some ⟨pos 9, 0, none⟩) 3 3, .int .i64 0] 35 (0, 0) else zeroE
  | _ => zeroE
def exprS : List Nat := [1, 4, 9, 11, 12, 13]
theorem writeAll_expr (V : Nat → Value) (t : Array Value) : writeAll exprOps V t = ((((((((((((((t.setIfInBounds 67 (V 0)).setIfInBounds 68 (V 1)).setIfInBounds 69 (V 2)).setIfInBounds 70 (V 3)).setIfInBounds 71 (V 4)).setIfInBounds 72 (V 5)).setIfInBounds 73 (V 6)).setIfInBounds 74 (V 7)).setIfInBounds 75 (V 8)).setIfInBounds 76 (V 9)).setIfInBounds 77 (V 10)).setIfInBounds 15 (V 11)).setIfInBounds 16 (V 12)).setIfInBounds 17 (V 13)) := by kernel_rfl
def exprInv (x y : Array Value) (W : World) (L : Nat → Bool) (pos : Nat → Nat) (w : World) : Prop := PosInv W.heap.size W exprS L pos (exprC x y L pos) w
theorem exprC_eq {x y : Array Value} {L L' : Nat → Bool} {pos pos' : Nat → Nat} (h14 : L' 14 = L 14) (h15 : L' 15 = L 15) (h16 : L' 16 = L 16) (g1 : L 14 = true → pos' 1 = pos 1) (g4 : L 15 = true → pos' 4 = pos 4) (g9 : L 16 = true → pos' 9 = pos 9) (j : Nat) : exprC x y L' pos' j = exprC x y L pos j := by
  unfold exprC
  split <;> first | rfl | (rw [h14]; split <;> first | rfl | (rw [g1 ‹_›])) | (rw [h15]; split <;> first | rfl | (rw [g4 ‹_›])) | (rw [h16]; split <;> first | rfl | (rw [g9 ‹_›]))
theorem exprV_eq {x y : Array Value} {pos pos' : Nat → Nat} (j : Nat) (h : ∀ k, (k = j ∧ (j = 1 ∨ j = 4 ∨ j = 9 ∨ j = 11 ∨ j = 12 ∨ j = 13)) ∨ (k = 1 ∧ j = 2) ∨ (k = 4 ∧ j = 5) ∨ (k = 9 ∧ j = 10) → pos' k = pos k) : exprV x y pos' j = exprV x y pos j := by
  unfold exprV
  split <;> first | rfl | rw [h _ (by simp)]
theorem upd_ne {pos : Nat → Nat} {i k s : Nat} (h : k ≠ i) : (fun j => if j = i then s else pos j) k = pos k := if_neg h

set_option maxHeartbeats 2000000 in
set_option maxRecDepth 100000 in
theorem expr_region {Q : Exit → Act → World → Prop} {a0 : Act} {W : World} {A B : Nat} {x0 x1 x2 x3 x4 x5 y0 y1 y2 y3 y4 y5 : Value} (hA : W.heap[A]? = some (.cells #[x0, x1, x2, x3, x4, x5] 35 (0, 0))) (hB : W.heap[B]? = some (.cells #[y0, y1, y2, y3, y4, y5] 35 (0, 0)))
    (h8 : a0.tmps.getD 8 undef = .pointer (some ⟨A, 0, none⟩)) (h9 : a0.tmps.getD 9 undef = .pointer (some ⟨B, 0, none⟩)) (hz : a0.tmps.size = 119)
    (hend : ∀ (L : Nat → Bool) (pos : Nat → Nat) w, (∀ j, j < 17 → L j = true) → exprInv #[x0, x1, x2, x3, x4, x5] #[y0, y1, y2, y3, y4, y5] W L pos w → Q .normal ⟨writeAll exprOps (exprV #[x0, x1, x2, x3, x4, x5] #[y0, y1, y2, y3, y4, y5] pos) a0.tmps, a0.defers⟩ w) : (Code.region 12 exprOps true).wp Tryd.prog Q a0 W := by
  refine wp_region_slots (by kernel_rfl) (by kernel_rfl) (by kernel_rfl) (by kernel_rfl) (exprV #[x0, x1, x2, x3, x4, x5] #[y0, y1, y2, y3, y4, y5]) (exprInv #[x0, x1, x2, x3, x4, x5] #[y0, y1, y2, y3, y4, y5] W) (fun _ => 0) ?_ ?_ hend
  · exact ⟨⟨rfl, rfl, rfl, Nat.le_refl _, fun _ _ => rfl⟩, Nat.le_refl _, (fun _ _ h => by cases h), (fun _ _ _ _ h => by cases h)⟩
  · intro L pos a wr i op hop hLi hpre hC hI hS K hK
    have e8 := (hS.old2 8 (by kernel_rfl)).trans h8
    have e9 := (hS.old2 9 (by kernel_rfl)).trans h9
    have hbl := hI.1
    obtain ⟨p0, p1, p2, p3, p4, p5⟩ := box_cells ((hbl.block A (heap_lt hA)).trans hA)
    obtain ⟨q0, q1, q2, q3, q4, q5⟩ := box_cells ((hbl.block B (heap_lt hB)).trans hB)
    match i with
    | 0 =>
      simp only [exprOps, List.getElem?_toArray, List.getElem?_cons_zero, List.getElem?_cons_succ, Option.some.injEq] at hop
      subst hop
      go_simp
      exact hK _ _ ⟨pos, fun _ => rfl, fun _ _ _ => rfl, hI.other (by decide) fun j _ _ => exprC_eq rfl rfl rfl (fun _ => rfl) (fun _ => rfl) (fun _ => rfl) j⟩
    | 1 =>
      simp only [exprOps, List.getElem?_toArray, List.getElem?_cons_zero, List.getElem?_cons_succ, Option.some.injEq] at hop
      subst hop
      have n0 := hS.new2 0 67 (by kernel_rfl) (pre_at hpre 0 (by kernel_rfl)) (by rw [hz]; decide)
      simp only [exprV] at n0
      go_simp
      refine hK _ _ ⟨fun j => if j = 1 then wr.heap.size else pos j, fun _ => rfl, fun j hj hLj => exprV_eq j fun k hk => upd_ne ?_, hI.alloc (by decide) hLi _ ?_ fun j _ _ _ => ?_⟩
      · rintro rfl
        rcases hk with ⟨rfl, _⟩ | ⟨h, h2⟩ | ⟨h, h2⟩ | ⟨h, h2⟩
        · exact hj rfl
        · subst h2; exact absurd (hC.at 2 1 (by kernel_rfl) hLj) (by simp [hLi])
        · omega
        · omega
      · rfl
      · refine exprC_eq ?_ ?_ ?_ ?_ ?_ ?_ j <;> first | rfl | (intro h; first | rfl | exact absurd (hC.at 14 1 (by kernel_rfl) h) (by simp [hLi]))
    | 2 =>
      simp only [exprOps, List.getElem?_toArray, List.getElem?_cons_zero, List.getElem?_cons_succ, Option.some.injEq] at hop
      subst hop
      have n1 := hS.new2 1 68 (by kernel_rfl) (pre_at hpre 1 (by kernel_rfl)) (by rw [hz]; decide)
      simp only [exprV] at n1
      go_simp
      exact hK _ _ ⟨pos, fun _ => rfl, fun _ _ _ => rfl, hI.other (by decide) fun j _ _ => exprC_eq rfl rfl rfl (fun _ => rfl) (fun _ => rfl) (fun _ => rfl) j⟩
    | 3 =>
      simp only [exprOps, List.getElem?_toArray, List.getElem?_cons_zero, List.getElem?_cons_succ, Option.some.injEq] at hop
      subst hop
      go_simp
      exact hK _ _ ⟨pos, fun _ => rfl, fun _ _ _ => rfl, hI.other (by decide) fun j _ _ => exprC_eq rfl rfl rfl (fun _ => rfl) (fun _ => rfl) (fun _ => rfl) j⟩
    | 4 =>
      simp only [exprOps, List.getElem?_toArray, List.getElem?_cons_zero, List.getElem?_cons_succ, Option.some.injEq] at hop
      subst hop
      have n3 := hS.new2 3 70 (by kernel_rfl) (pre_at hpre 3 (by kernel_rfl)) (by rw [hz]; decide)
      simp only [exprV] at n3
      go_simp
      refine hK _ _ ⟨fun j => if j = 4 then wr.heap.size else pos j, fun _ => rfl, fun j hj hLj => exprV_eq j fun k hk => upd_ne ?_, hI.alloc (by decide) hLi _ ?_ fun j _ _ _ => ?_⟩
      · rintro rfl
        rcases hk with ⟨rfl, _⟩ | ⟨h, h2⟩ | ⟨h, h2⟩ | ⟨h, h2⟩
        · exact hj rfl
        · omega
        · subst h2; exact absurd (hC.at 5 4 (by kernel_rfl) hLj) (by simp [hLi])
        · omega
      · rfl
      · refine exprC_eq ?_ ?_ ?_ ?_ ?_ ?_ j <;> first | rfl | (intro h; first | rfl | exact absurd (hC.at 15 4 (by kernel_rfl) h) (by simp [hLi]))
    | 5 =>
      simp only [exprOps, List.getElem?_toArray, List.getElem?_cons_zero, List.getElem?_cons_succ, Option.some.injEq] at hop
      subst hop
      have n4 := hS.new2 4 71 (by kernel_rfl) (pre_at hpre 4 (by kernel_rfl)) (by rw [hz]; decide)
      simp only [exprV] at n4
      go_simp
      exact hK _ _ ⟨pos, fun _ => rfl, fun _ _ _ => rfl, hI.other (by decide) fun j _ _ => exprC_eq rfl rfl rfl (fun _ => rfl) (fun _ => rfl) (fun _ => rfl) j⟩
    | 6 =>
      simp only [exprOps, List.getElem?_toArray, List.getElem?_cons_zero, List.getElem?_cons_succ, Option.some.injEq] at hop
      subst hop
      go_simp
      exact hK _ _ ⟨pos, fun _ => rfl, fun _ _ _ => rfl, hI.other (by decide) fun j _ _ => exprC_eq rfl rfl rfl (fun _ => rfl) (fun _ => rfl) (fun _ => rfl) j⟩
    | 7 =>
      simp only [exprOps, List.getElem?_toArray, List.getElem?_cons_zero, List.getElem?_cons_succ, Option.some.injEq] at hop
      subst hop
      go_simp
      exact hK _ _ ⟨pos, fun _ => rfl, fun _ _ _ => rfl, hI.other (by decide) fun j _ _ => exprC_eq rfl rfl rfl (fun _ => rfl) (fun _ => rfl) (fun _ => rfl) j⟩
    | 8 =>
      simp only [exprOps, List.getElem?_toArray, List.getElem?_cons_zero, List.getElem?_cons_succ, Option.some.injEq] at hop
      subst hop
      go_simp
      exact hK _ _ ⟨pos, fun _ => rfl, fun _ _ _ => rfl, hI.other (by decide) fun j _ _ => exprC_eq rfl rfl rfl (fun _ => rfl) (fun _ => rfl) (fun _ => rfl) j⟩
    | 9 =>
      simp only [exprOps, List.getElem?_toArray, List.getElem?_cons_zero, List.getElem?_cons_succ, Option.some.injEq] at hop
      subst hop
      have n6 := hS.new2 6 73 (by kernel_rfl) (pre_at hpre 6 (by kernel_rfl)) (by rw [hz]; decide)
      simp only [exprV] at n6
      have n7 := hS.new2 7 74 (by kernel_rfl) (pre_at hpre 7 (by kernel_rfl)) (by rw [hz]; decide)
      simp only [exprV] at n7
      have n8 := hS.new2 8 75 (by kernel_rfl) (pre_at hpre 8 (by kernel_rfl)) (by rw [hz]; decide)
      simp only [exprV] at n8
      go_simp
      refine hK _ _ ⟨fun j => if j = 9 then wr.heap.size else pos j, fun _ => rfl, fun j hj hLj => exprV_eq j fun k hk => upd_ne ?_, hI.alloc (by decide) hLi _ ?_ fun j _ _ _ => ?_⟩
      · rintro rfl
        rcases hk with ⟨rfl, _⟩ | ⟨h, h2⟩ | ⟨h, h2⟩ | ⟨h, h2⟩
        · exact hj rfl
        · omega
        · omega
        · subst h2; exact absurd (hC.at 10 9 (by kernel_rfl) hLj) (by simp [hLi])
      · rfl
      · refine exprC_eq ?_ ?_ ?_ ?_ ?_ ?_ j <;> first | rfl | (intro h; first | rfl | exact absurd (hC.at 16 9 (by kernel_rfl) h) (by simp [hLi]))
    | 10 =>
      simp only [exprOps, List.getElem?_toArray, List.getElem?_cons_zero, List.getElem?_cons_succ, Option.some.injEq] at hop
      subst hop
      have n9 := hS.new2 9 76 (by kernel_rfl) (pre_at hpre 9 (by kernel_rfl)) (by rw [hz]; decide)
      simp only [exprV] at n9
      go_simp
      exact hK _ _ ⟨pos, fun _ => rfl, fun _ _ _ => rfl, hI.other (by decide) fun j _ _ => exprC_eq rfl rfl rfl (fun _ => rfl) (fun _ => rfl) (fun _ => rfl) j⟩
    | 11 =>
      simp only [exprOps, List.getElem?_toArray, List.getElem?_cons_zero, List.getElem?_cons_succ, Option.some.injEq] at hop
      subst hop
      go_simp
      refine hK _ _ ⟨fun j => if j = 11 then wr.heap.size else pos j, fun _ => rfl, fun j hj hLj => exprV_eq j fun k hk => upd_ne ?_, hI.alloc (by decide) hLi _ ?_ fun j _ _ _ => ?_⟩
      · rintro rfl
        rcases hk with ⟨rfl, _⟩ | ⟨h, h2⟩ | ⟨h, h2⟩ | ⟨h, h2⟩
        · exact hj rfl
        · omega
        · omega
        · omega
      · have h0 : L 14 = false := by cases h : L 14 with | false => rfl | true => exact absurd (hC.at 14 11 (by kernel_rfl) h) (by simp [hLi])
        simp [exprC, h0]
      · refine exprC_eq ?_ ?_ ?_ ?_ ?_ ?_ j <;> first | rfl | (intro h; first | rfl | exact absurd (hC.at 14 11 (by kernel_rfl) h) (by simp [hLi]))
    | 12 =>
      simp only [exprOps, List.getElem?_toArray, List.getElem?_cons_zero, List.getElem?_cons_succ, Option.some.injEq] at hop
      subst hop
      go_simp
      refine hK _ _ ⟨fun j => if j = 12 then wr.heap.size else pos j, fun _ => rfl, fun j hj hLj => exprV_eq j fun k hk => upd_ne ?_, hI.alloc (by decide) hLi _ ?_ fun j _ _ _ => ?_⟩
      · rintro rfl
        rcases hk with ⟨rfl, _⟩ | ⟨h, h2⟩ | ⟨h, h2⟩ | ⟨h, h2⟩
        · exact hj rfl
        · omega
        · omega
        · omega
      · have h0 : L 15 = false := by cases h : L 15 with | false => rfl | true => exact absurd (hC.at 15 12 (by kernel_rfl) h) (by simp [hLi])
        simp [exprC, h0]
      · refine exprC_eq ?_ ?_ ?_ ?_ ?_ ?_ j <;> first | rfl | (intro h; first | rfl | exact absurd (hC.at 15 12 (by kernel_rfl) h) (by simp [hLi]))
    | 13 =>
      simp only [exprOps, List.getElem?_toArray, List.getElem?_cons_zero, List.getElem?_cons_succ, Option.some.injEq] at hop
      subst hop
      go_simp
      refine hK _ _ ⟨fun j => if j = 13 then wr.heap.size else pos j, fun _ => rfl, fun j hj hLj => exprV_eq j fun k hk => upd_ne ?_, hI.alloc (by decide) hLi _ ?_ fun j _ _ _ => ?_⟩
      · rintro rfl
        rcases hk with ⟨rfl, _⟩ | ⟨h, h2⟩ | ⟨h, h2⟩ | ⟨h, h2⟩
        · exact hj rfl
        · omega
        · omega
        · omega
      · have h0 : L 16 = false := by cases h : L 16 with | false => rfl | true => exact absurd (hC.at 16 13 (by kernel_rfl) h) (by simp [hLi])
        simp [exprC, h0]
      · refine exprC_eq ?_ ?_ ?_ ?_ ?_ ?_ j <;> first | rfl | (intro h; first | rfl | exact absurd (hC.at 16 13 (by kernel_rfl) h) (by simp [hLi]))
    | 14 =>
      simp only [exprOps, List.getElem?_toArray, List.getElem?_cons_zero, List.getElem?_cons_succ, Option.some.injEq] at hop
      subst hop
      have n11 := hS.new2 11 15 (by kernel_rfl) (pre_at hpre 11 (by kernel_rfl)) (by rw [hz]; decide)
      simp only [exprV] at n11
      have n2 := hS.new2 2 69 (by kernel_rfl) (pre_at hpre 2 (by kernel_rfl)) (by rw [hz]; decide)
      simp only [exprV] at n2
      have hLk := pre_at hpre 11 (by kernel_rfl)
      have hb := (hI.2.2.1 11 (by decide) hLk).2
      simp only [exprC, hLi] at hb
      obtain ⟨f0, f1, f2, f3, f4, f5⟩ := box_free hb
      obtain ⟨c0, c1, c2, c3, c4, c5⟩ := box_cells hb
      go_simp
      refine hK undef (put6 wr (pos 11) _ _ _ _ _ _) ⟨pos, fun h => absurd rfl h, fun _ _ _ => rfl, hI.put (by decide) (k := 11) (by decide) hLk (put6_grown _ _ _ _ _ _ _ _) (put6_size _ _ _ _ _ _ _ _) ((put6_heap hb _ _ _ _ _ _).trans ?_) fun j hj hjk hLj => ?_⟩
      · rfl
      · unfold exprC; split <;> first | rfl | exact absurd rfl hjk
    | 15 =>
      simp only [exprOps, List.getElem?_toArray, List.getElem?_cons_zero, List.getElem?_cons_succ, Option.some.injEq] at hop
      subst hop
      have n12 := hS.new2 12 16 (by kernel_rfl) (pre_at hpre 12 (by kernel_rfl)) (by rw [hz]; decide)
      simp only [exprV] at n12
      have n5 := hS.new2 5 72 (by kernel_rfl) (pre_at hpre 5 (by kernel_rfl)) (by rw [hz]; decide)
      simp only [exprV] at n5
      have hLk := pre_at hpre 12 (by kernel_rfl)
      have hb := (hI.2.2.1 12 (by decide) hLk).2
      simp only [exprC, hLi] at hb
      obtain ⟨f0, f1, f2, f3, f4, f5⟩ := box_free hb
      obtain ⟨c0, c1, c2, c3, c4, c5⟩ := box_cells hb
      go_simp
      refine hK undef (put6 wr (pos 12) _ _ _ _ _ _) ⟨pos, fun h => absurd rfl h, fun _ _ _ => rfl, hI.put (by decide) (k := 12) (by decide) hLk (put6_grown _ _ _ _ _ _ _ _) (put6_size _ _ _ _ _ _ _ _) ((put6_heap hb _ _ _ _ _ _).trans ?_) fun j hj hjk hLj => ?_⟩
      · rfl
      · unfold exprC; split <;> first | rfl | exact absurd rfl hjk
    | 16 =>
      simp only [exprOps, List.getElem?_toArray, List.getElem?_cons_zero, List.getElem?_cons_succ, Option.some.injEq] at hop
      subst hop
      have n13 := hS.new2 13 17 (by kernel_rfl) (pre_at hpre 13 (by kernel_rfl)) (by rw [hz]; decide)
      simp only [exprV] at n13
      have n10 := hS.new2 10 77 (by kernel_rfl) (pre_at hpre 10 (by kernel_rfl)) (by rw [hz]; decide)
      simp only [exprV] at n10
      have hLk := pre_at hpre 13 (by kernel_rfl)
      have hb := (hI.2.2.1 13 (by decide) hLk).2
      simp only [exprC, hLi] at hb
      obtain ⟨f0, f1, f2, f3, f4, f5⟩ := box_free hb
      obtain ⟨c0, c1, c2, c3, c4, c5⟩ := box_cells hb
      go_simp
      refine hK undef (put6 wr (pos 13) _ _ _ _ _ _) ⟨pos, fun h => absurd rfl h, fun _ _ _ => rfl, hI.put (by decide) (k := 13) (by decide) hLk (put6_grown _ _ _ _ _ _ _ _) (put6_size _ _ _ _ _ _ _ _) ((put6_heap hb _ _ _ _ _ _).trans ?_) fun j hj hjk hLj => ?_⟩
      · rfl
      · unfold exprC; split <;> first | rfl | exact absurd rfl hjk
    | n + 17 => simp [exprOps] at hop
end Go.Proofs.YtlfiicfkjlobhaaDoor
