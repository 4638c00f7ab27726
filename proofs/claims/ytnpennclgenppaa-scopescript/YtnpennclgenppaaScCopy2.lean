/- The list of locals that ScopeScript copies and makes longer by one, in whatever order. Conditions: none. -/
import Derived.Test.YtnpennclgenppaaScCopy
namespace Go.Proofs.Ytnpennclgenppaa
open Go.ChangeShapes Go.WideShapes Go.RowKit
set_option linter.unusedVariables false
set_option linter.unusedSimpArgs false

@[reducible] def actObj (o n l c : Int) : Obj := .cells #[.int .u8 o, .int .u8 n, .int .u8 l, .int .i8 c] 41
@[reducible] def enOps : Array Oper := #[{ dst := some 123, op := Op.move (Operand.tmp 14), type := 38, pos := "law.go:130", after := #[], guard := none }, { dst := some 124, op := Op.call { callee := Callee.builtin Builtin.append, args := #[Operand.const (Value.slice none 0 0), Operand.tmp 123], argTypes := #[38, 38] }, type := 38, pos := "law.go:130", after := #[{ on := 0, ground := Ground.data }], guard := none }, { dst := some 125, op := Op.move (Operand.tmp 17), type := 9, pos := "law.go:130", after := #[], guard := none }, { dst := some 126, op := Op.fieldAddr 41 (Operand.tmp 16) 2, type := 0, pos := "law.go:130", after := #[], guard := none }, { dst := some 127, op := Op.load 5 (Operand.tmp 126), type := 5, pos := "law.go:130", after := #[{ on := 3, ground := Ground.data }], guard := none }, { dst := some 128, op := Op.binOp BinOp.rem 5 (Operand.tmp 127) (Operand.const (Value.int IntKind.u8 2)) 5, type := 5, pos := "law.go:130", after := #[{ on := 4, ground := Ground.data }], guard := none }, { dst := some 129, op := Op.convert 5 28 (Operand.tmp 128), type := 28, pos := "law.go:130", after := #[{ on := 5, ground := Ground.data }], guard := none }, { dst := some 130, op := Op.fieldAddr 41 (Operand.tmp 16) 3, type := 0, pos := "law.go:130", after := #[], guard := none }, { dst := some 131, op := Op.load 39 (Operand.tmp 130), type := 39, pos := "law.go:130", after := #[{ on := 7, ground := Ground.data }], guard := none }, { dst := some 132, op := Op.convert 39 3 (Operand.tmp 131), type := 3, pos := "law.go:130", after := #[{ on := 8, ground := Ground.data }], guard := none }, { dst := some 133, op := Op.call { callee := Callee.builtin Builtin.max, args := #[Operand.const (Value.int IntKind.i64 0), Operand.tmp 132], argTypes := #[3, 3] }, type := 3, pos := "law.go:130", after := #[{ on := 9, ground := Ground.data }], guard := none }, { dst := some 134, op := Op.build 48 #[(0, Operand.tmp 125), (1, Operand.tmp 129), (2, Operand.tmp 133)], type := 48, pos := "law.go:130", after := #[{ on := 2, ground := Ground.data }, { on := 6, ground := Ground.data }, { on := 10, ground := Ground.data }], guard := none }, { dst := some 135, op := Op.buildSlice 38 1 #[(0, Operand.tmp 134)], type := 38, pos := "law.go:130", after := #[{ on := 11, ground := Ground.data }], guard := none }, { dst := some 136, op := Op.call { callee := Callee.builtin Builtin.append, args := #[Operand.tmp 124, Operand.tmp 135], argTypes := #[38, 38] }, type := 38, pos := "law.go:130", after := #[{ on := 1, ground := Ground.data }, { on := 12, ground := Ground.data }, { on := 1, ground := Ground.chain }], guard := none }, { dst := some 14, op := Op.assign (Operand.tmp 136), type := 38, pos := "law.go:130", after := #[{ on := 13, ground := Ground.data }, { on := 13, ground := Ground.chain }, { on := 0, ground := Ground.phase }, { on := 1, ground := Ground.phase }, { on := 2, ground := Ground.phase }, { on := 3, ground := Ground.phase }, { on := 4, ground := Ground.phase }, { on := 5, ground := Ground.phase }, { on := 6, ground := Ground.phase }, { on := 7, ground := Ground.phase }, { on := 8, ground := Ground.phase }, { on := 9, ground := Ground.phase }, { on := 10, ground := Ground.phase }, { on := 11, ground := Ground.phase }, { on := 12, ground := Ground.phase }, { on := 13, ground := Ground.phase }], guard := none }]
def enV (ev : Value) (s : ByteArray) (r : Nat) (lb ct : Int) (g : CG) : Nat → Value
  | 0 => ev
  | 1 => g.v1
  | 2 => .string s
  | 3 => .pointer (some ⟨r, 2, none⟩)
  | 4 => .int .u8 lb
  | 5 => .int .u8 (lb % 2)
  | 6 => .int .i64 (lb % 2)
  | 7 => .pointer (some ⟨r, 3, none⟩)
  | 8 => .int .i8 ct
  | 9 => .int .i64 ct
  | 10 => .int .i64 (max 0 ct)
  | 11 => .agg #[.string s, .int .i64 (lb % 2), .int .i64 (max 0 ct)]
  | 12 => .slice (some ⟨g.q, 0, none⟩) 1 1
  | 13 => g.v2
  | 14 => g.v2
  | _ => undef
theorem writeAll_en (V : Nat → Value) (t : Array Value) : writeAll enOps V t = ((((((((((((((t.setIfInBounds 123 (V 0)).setIfInBounds 124 (V 1)).setIfInBounds 125 (V 2)).setIfInBounds 126 (V 3)).setIfInBounds 127 (V 4)).setIfInBounds 128 (V 5)).setIfInBounds 129 (V 6)).setIfInBounds 130 (V 7)).setIfInBounds 131 (V 8)).setIfInBounds 132 (V 9)).setIfInBounds 133 (V 10)).setIfInBounds 134 (V 11)).setIfInBounds 135 (V 12)).setIfInBounds 136 (V 13)).setIfInBounds 14 (V 14) := by kernel_rfl
def enInv (W0 : World) (m : Nat) (xs : List Value) (e : Ent) (L : Nat → Bool) (g : CG) (w : World) : Prop := CInv W0.heap.size W0 48 3 m xs (ecell e) (L 1) (L 12) (L 13) g w
set_option maxHeartbeats 2000000 in
set_option maxRecDepth 100000 in
theorem en_region {Q : Exit → Act → World → Prop} {a0 : Act} {W0 : World} (ev : Value) (m : Nat) (xs : List Value) (s : ByteArray) (op nb lb ct : Int) (hb0 : 0 ≤ lb) (hb1 : lb < 256) (hc0 : -128 ≤ ct) (hc1 : ct < 128) (hv : SrcAt W0 3 ev m xs) (hlt : ∀ g, ev.ownBlock = some g → g < W0.heap.size) (hm : m ≤ 100) (r : Nat) (hr : W0.heap[r]? = some (actObj op nb lb ct))
    (e14 : a0.tmps.getD 14 undef = ev) (e17 : a0.tmps.getD 17 undef = .string s) (e16 : a0.tmps.getD 16 undef = .pointer (some ⟨r, 0, none⟩)) (hz : a0.tmps.size = 185)
    (hend : ∀ (g : CG) w, Below W0.heap.size W0 w → w.ownsRow W0.heap.size 48 3 g.v2 (m + 1) (xs ++ ecell ⟨s, lb % 2, max 0 ct⟩) → Q .normal ⟨writeAll enOps (enV ev s r lb ct g) a0.tmps, a0.defers⟩ w) : (Code.region 30 enOps true).wp Try.prog Q a0 W0 := by
  have hmod : lb.tmod 2 = lb % 2 := Int.tmod_eq_emod_of_nonneg hb0
  have hmod0 : 0 ≤ lb % 2 := by omega
  have hmod1 : lb % 2 < 2 := by omega
  refine wp_region_slots2 (by kernel_rfl) (by kernel_rfl) (by kernel_rfl) (by kernel_rfl) (enV ev s r lb ct) (enInv W0 m xs ⟨s, lb % 2, max 0 ct⟩) ⟨.slice none 0 0, 0, .slice none 0 0⟩ ⟨(Below.refl _ _).drew, Nat.le_refl _, fun h => (by cases h), fun h => (by cases h), fun h => by cases h⟩ ?_ (fun L g w hL hI => hend g w hI.1 (hI.2.2.2.2 (hL 13 (by decide))))
  · intro L g a wr i op' hop hLi hpre hC hI hS hO K hK
    have s17 := (hS.old2 17 (by kernel_rfl)).trans e17
    have s16 := (hS.old2 16 (by kernel_rfl)).trans e16
    have hrr : wr.heap[r]? = some (actObj op nb lb ct) := (hI.1.block r (heap_lt hr)).trans hr
    obtain ⟨c0, c1, c2, c3⟩ := cells4 hrr
    have hsrc : SrcAt wr 3 ev m xs := by
      obtain ⟨x1, x2, x3⟩ := hv
      refine ⟨x1, x2, x3.imp id ?_⟩
      rintro ⟨gs, off, c, rfl, hc⟩
      exact ⟨gs, off, c, rfl, fun j u hu => (World.cell?_of_block (hI.1.block gs (hlt _ rfl))).trans (hc j u hu)⟩
    match i with
    | 0 =>
      simp only [enOps, List.getElem?_toArray, List.getElem?_cons_zero, List.getElem?_cons_succ, Option.some.injEq] at hop
      subst hop
      have no14 : L 14 = false := by cases h : L 14 with | false => rfl | true => exact absurd (hC.at 14 0 (by kernel_rfl) h) (by simp [hLi])
      have s14 := (hO.at 14 14 (by kernel_rfl) no14).trans e14
      go_simp
      exact hK _ _ ⟨g, fun _ => rfl, fun _ _ _ => rfl, hI⟩
    | 1 =>
      simp only [enOps, List.getElem?_toArray, List.getElem?_cons_zero, List.getElem?_cons_succ, Option.some.injEq] at hop
      subst hop
      have n0 := hS.new 0 123 (by kernel_rfl) (pre_at hpre 0 (by kernel_rfl)) (by rw [hz]; decide)
      simp only [enV] at n0
      have no13 : L 13 = false := by cases h : L 13 with | false => rfl | true => exact absurd (hC.at 13 1 (by kernel_rfl) h) (by simp [hLi])
      obtain ⟨i0, hi, hz0, hz1, hz2⟩ := info_parts Try.infoE
      refine wp_copy (.const (.slice none 0 0)) (.tmp 123) 38 (by rfl) W0.heap.size 48 i0 _ 3 32 Try.underlying38 hi hz0 hz1 hz2 rfl (by omega) rfl ev m xs n0 hsrc (by unfold maxLen; omega) (by omega) hI.2.1 ?_
      intro v1 w1 hown1 hgrow
      refine hK _ _ ⟨{ g with v1 := v1 }, fun _ => rfl, fun j hj hLj => ?_, ?_⟩
      · unfold enV; split <;> first | rfl | exact absurd rfl hj
      · obtain ⟨a1, a2, a3, a4, a5⟩ := hI.below (below_none hgrow)
        refine ⟨a1, a2, fun _ _ => hown1, fun h1 h2 => a4 h1 (by simpa using h2), fun h => ?_⟩
        simp [no13] at h
    | 2 =>
      simp only [enOps, List.getElem?_toArray, List.getElem?_cons_zero, List.getElem?_cons_succ, Option.some.injEq] at hop
      subst hop
      go_simp
      exact hK _ _ ⟨g, fun _ => rfl, fun _ _ _ => rfl, hI⟩
    | 3 =>
      simp only [enOps, List.getElem?_toArray, List.getElem?_cons_zero, List.getElem?_cons_succ, Option.some.injEq] at hop
      subst hop
      go_simp
      refine hK _ _ ⟨g, fun _ => ?_, fun _ _ _ => rfl, hI⟩
      first | rfl | (simp [enV, hmod]; done) | (simp [enV]; done) | (simp [enV]; rw [IntKind.wrap_i64]; omega) | (simp [enV]; split <;> omega) | (simp [enV]; omega)
    | 4 =>
      simp only [enOps, List.getElem?_toArray, List.getElem?_cons_zero, List.getElem?_cons_succ, Option.some.injEq] at hop
      subst hop
      have n3 := hS.new2 3 126 (by kernel_rfl) (pre_at hpre 3 (by kernel_rfl)) (by rw [hz]; decide)
      simp only [enV] at n3
      go_simp
      refine hK _ _ ⟨g, fun _ => ?_, fun _ _ _ => rfl, hI⟩
      first | rfl | (simp [enV, hmod]; done) | (simp [enV]; done) | (simp [enV]; rw [IntKind.wrap_i64]; omega) | (simp [enV]; split <;> omega) | (simp [enV]; omega)
    | 5 =>
      simp only [enOps, List.getElem?_toArray, List.getElem?_cons_zero, List.getElem?_cons_succ, Option.some.injEq] at hop
      subst hop
      have n4 := hS.new2 4 127 (by kernel_rfl) (pre_at hpre 4 (by kernel_rfl)) (by rw [hz]; decide)
      simp only [enV] at n4
      go_simp
      refine hK _ _ ⟨g, fun _ => ?_, fun _ _ _ => rfl, hI⟩
      first | rfl | (simp [enV, hmod]; done) | (simp [enV]; done) | (simp [enV]; rw [IntKind.wrap_i64]; omega) | (simp [enV]; split <;> omega) | (simp [enV]; omega)
    | 6 =>
      simp only [enOps, List.getElem?_toArray, List.getElem?_cons_zero, List.getElem?_cons_succ, Option.some.injEq] at hop
      subst hop
      have n5 := hS.new2 5 128 (by kernel_rfl) (pre_at hpre 5 (by kernel_rfl)) (by rw [hz]; decide)
      simp only [enV] at n5
      go_simp
      refine hK _ _ ⟨g, fun _ => ?_, fun _ _ _ => rfl, hI⟩
      first | rfl | (simp [enV, hmod]; done) | (simp [enV]; done) | (simp [enV]; rw [IntKind.wrap_i64]; omega) | (simp [enV]; split <;> omega) | (simp [enV]; omega)
    | 7 =>
      simp only [enOps, List.getElem?_toArray, List.getElem?_cons_zero, List.getElem?_cons_succ, Option.some.injEq] at hop
      subst hop
      go_simp
      refine hK _ _ ⟨g, fun _ => ?_, fun _ _ _ => rfl, hI⟩
      first | rfl | (simp [enV, hmod]; done) | (simp [enV]; done) | (simp [enV]; rw [IntKind.wrap_i64]; omega) | (simp [enV]; split <;> omega) | (simp [enV]; omega)
    | 8 =>
      simp only [enOps, List.getElem?_toArray, List.getElem?_cons_zero, List.getElem?_cons_succ, Option.some.injEq] at hop
      subst hop
      have n7 := hS.new2 7 130 (by kernel_rfl) (pre_at hpre 7 (by kernel_rfl)) (by rw [hz]; decide)
      simp only [enV] at n7
      go_simp
      refine hK _ _ ⟨g, fun _ => ?_, fun _ _ _ => rfl, hI⟩
      first | rfl | (simp [enV, hmod]; done) | (simp [enV]; done) | (simp [enV]; rw [IntKind.wrap_i64]; omega) | (simp [enV]; split <;> omega) | (simp [enV]; omega)
    | 9 =>
      simp only [enOps, List.getElem?_toArray, List.getElem?_cons_zero, List.getElem?_cons_succ, Option.some.injEq] at hop
      subst hop
      have n8 := hS.new2 8 131 (by kernel_rfl) (pre_at hpre 8 (by kernel_rfl)) (by rw [hz]; decide)
      simp only [enV] at n8
      go_simp
      refine hK _ _ ⟨g, fun _ => ?_, fun _ _ _ => rfl, hI⟩
      first | rfl | (simp [enV, hmod]; done) | (simp [enV]; done) | (simp [enV]; rw [IntKind.wrap_i64]; omega) | (simp [enV]; split <;> omega) | (simp [enV]; omega)
    | 10 =>
      simp only [enOps, List.getElem?_toArray, List.getElem?_cons_zero, List.getElem?_cons_succ, Option.some.injEq] at hop
      subst hop
      have n9 := hS.new2 9 132 (by kernel_rfl) (pre_at hpre 9 (by kernel_rfl)) (by rw [hz]; decide)
      simp only [enV] at n9
      go_simp
      refine hK _ _ ⟨g, fun _ => ?_, fun _ _ _ => rfl, hI⟩
      first | rfl | (simp [enV, hmod]; done) | (simp [enV]; done) | (simp [enV]; rw [IntKind.wrap_i64]; omega) | (simp [enV]; split <;> omega) | (simp [enV]; omega)
    | 11 =>
      simp only [enOps, List.getElem?_toArray, List.getElem?_cons_zero, List.getElem?_cons_succ, Option.some.injEq] at hop
      subst hop
      have n2 := hS.new2 2 125 (by kernel_rfl) (pre_at hpre 2 (by kernel_rfl)) (by rw [hz]; decide)
      simp only [enV] at n2
      have n6 := hS.new2 6 129 (by kernel_rfl) (pre_at hpre 6 (by kernel_rfl)) (by rw [hz]; decide)
      simp only [enV] at n6
      have n10 := hS.new2 10 133 (by kernel_rfl) (pre_at hpre 10 (by kernel_rfl)) (by rw [hz]; decide)
      simp only [enV] at n10
      go_simp
      refine hK _ _ ⟨g, fun _ => ?_, fun _ _ _ => rfl, hI⟩
      first | rfl | (simp [enV, hmod]; done) | (simp [enV]; done) | (simp [enV]; rw [IntKind.wrap_i64]; omega) | (simp [enV]; split <;> omega) | (simp [enV]; omega)
    | 12 =>
      simp only [enOps, List.getElem?_toArray, List.getElem?_cons_zero, List.getElem?_cons_succ, Option.some.injEq] at hop
      subst hop
      have n11 := hS.new2 11 134 (by kernel_rfl) (pre_at hpre 11 (by kernel_rfl)) (by rw [hz]; decide)
      simp only [enV] at n11
      have no13 : L 13 = false := by cases h : L 13 with | false => rfl | true => exact absurd (hC.at 13 12 (by kernel_rfl) h) (by simp [hLi])
      go_simp
      refine hK _ _ ⟨{ g with q := wr.heap.size }, fun _ => rfl, fun j hj hLj => ?_, ?_⟩
      · unfold enV; split <;> first | rfl | exact absurd rfl hj
      · obtain ⟨a1, a2, a3, a4, a5⟩ := hI.below ((Below.refl _ _).alloc (Nat.le_refl _) (.cells #[.string s, .int .i64 (lb % 2), .int .i64 (max 0 ct)] 48))
        refine ⟨a1, a2, fun h1 h2 => a3 (by simpa using h1) (by simpa using h2), fun _ _ => by rw [alloc_at, if_pos rfl], fun h => ?_⟩
        simp [no13] at h
    | 13 =>
      simp only [enOps, List.getElem?_toArray, List.getElem?_cons_zero, List.getElem?_cons_succ, Option.some.injEq] at hop
      subst hop
      have n1 := hS.new 1 124 (by kernel_rfl) (pre_at hpre 1 (by kernel_rfl)) (by rw [hz]; decide)
      simp only [enV] at n1
      have n12 := hS.new 12 135 (by kernel_rfl) (pre_at hpre 12 (by kernel_rfl)) (by rw [hz]; decide)
      simp only [enV] at n12
      obtain ⟨a1, a2, a3, a4, a5⟩ := id hI
      have hown := a3 (pre_at hpre 1 (by kernel_rfl)) hLi
      have hone := a4 (pre_at hpre 12 (by kernel_rfl)) hLi
      obtain ⟨i0, hi, hz0, hz1, hz2⟩ := info_parts Try.infoE
      refine wp_append_lies wr (.tmp 124) (.tmp 135) 38 (by rfl) W0.heap.size 48 i0 _ 3 32 Try.underlying38 hi hz0 hz1 hz2 rfl (by omega) _ m xs n1 hown ⟨g.q, 0, none⟩ 1 1 (ecell ⟨s, lb % 2, max 0 ct⟩) n12 (by simp) (World.news_of_block hone) (by simp [Value.oneCell']) (by omega) (by unfold maxLen; omega) (by omega) a2 _ rfl ?_
      intro gg cap w1 hown1 hgrow hat hlt1
      have hbl : Below W0.heap.size wr w1 := (Below.refl _ _).grown hgrow a2 (fun k hk => (hown.lt k hk).1)
      refine hK _ _ ⟨{ g with v2 := .slice (some ⟨gg, 0, none⟩) (m + 1) cap }, fun _ => rfl, fun j hj hLj => ?_, ?_⟩
      · have no14 : L 14 = false := by cases h : L 14 with | false => rfl | true => exact absurd (hC.at 14 13 (by kernel_rfl) h) (by simp [hLi])
        unfold enV; split <;> first | rfl | exact absurd rfl hj | (rw [no14] at hLj; cases hLj)
      · exact ⟨a1.trans hbl, Nat.le_trans a2 hgrow.size, fun _ h => (by simp at h), fun _ h => (by simp at h), fun _ => hown1⟩
    | 14 =>
      simp only [enOps, List.getElem?_toArray, List.getElem?_cons_zero, List.getElem?_cons_succ, Option.some.injEq] at hop
      subst hop
      have n13 := hS.new2 13 136 (by kernel_rfl) (pre_at hpre 13 (by kernel_rfl)) (by rw [hz]; decide)
      simp only [enV] at n13
      go_simp
      exact hK _ _ ⟨g, fun _ => rfl, fun _ _ _ => rfl, hI⟩
    | n + 15 => simp [enOps] at hop
end Go.Proofs.Ytnpennclgenppaa
