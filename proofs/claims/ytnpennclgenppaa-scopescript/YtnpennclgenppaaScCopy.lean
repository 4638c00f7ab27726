/- Lists that ScopeScript copies and makes longer by one, in whatever order. Conditions: none. -/
import Derived.Test.YtnpennclgenppaaRegOld
import Derived.Test.YtnpennclgenppaaScDecl
import Derived.Test.YtnpennclgenppaaScFind
import Derived.Deep.AppendLies
import Derived.Laws.AppendOwnNone
namespace Go.Proofs.Ytnpennclgenppaa
open Go.ChangeShapes Go.WideShapes Go.RowKit
set_option linter.unusedVariables false
set_option linter.unusedSimpArgs false

/-- A list as it lies: nil, or n elements whose cells are xs. -/
def SrcAt (w : World) (sz : Nat) (v : Value) (n : Nat) (xs : List Value) : Prop :=
  xs.length = n * sz ∧ (∀ u ∈ xs, u.oneCell' = true) ∧ ((v = .slice none 0 0 ∧ n = 0) ∨ ∃ g off c, v = .slice (some ⟨g, off, none⟩) n c ∧ ∀ j u, xs[j]? = some u → w.cell? ⟨g, off + j, none⟩ = some u)
/-- 'append([]T(nil), xs...)', at the operation. -/
theorem wp_copy {w : World} {o : Oper} {a : Act} {K : Act → World → Prop} {Q : Exit → Act → World → Prop} (s x : Operand) (t : TypeId)
    (ho : o.op = .call { callee := .builtin .append, args := #[s, x], argTypes := #[t, t] })
    (base : Nat) (e : TypeId) (i : TypeInfo) (z : Value) (size bytes : Nat) (ht : Try.prog.underlying t = some (.slice e)) (hi : Try.prog.info? e = some i) (hz : i.zero = some z)
    (hsize : i.size = size) (hby : i.bytes = bytes) (hzs : z.cells.size = size) (hsz : 0 < size) (hs : a.eval s = .slice none 0 0) (v : Value) (n : Nat) (xs : List Value) (hx : a.eval x = v) (hv : SrcAt w size v n xs)
    (h63 : n ≤ maxLen) (hbytes : n * bytes ≤ 140737488355328) (hbase : base ≤ w.heap.size)
    (h : ∀ v' w', w'.ownsRow base e size v' n xs → w.grownBy w' none → K (a.put o.dst v') w') : o.wp Try.prog a w K Q := by
  obtain ⟨hl, h1, hc⟩ := hv
  rcases hc with ⟨rfl, rfl⟩ | ⟨g, off, c, rfl, hcell⟩
  · have hown : w.ownsRow base e size (.slice none 0 0) 0 [] := World.ownsRow_nil _ _ _ _
    have hrun := run_append_owned_none (P := Try.prog) (w := w) base t o.type e i size ht hi _ _ _ hown
    have hx0 : xs = [] := List.length_eq_zero_iff.1 (by omega)
    subst hx0
    unfold Oper.wp
    simp [execOp, ho, resolve, invoke, builtin, hs, hx, hrun, Result.andThen]
    exact h _ _ hown ⟨rfl, rfl, rfl, Nat.le_refl _, fun _ _ _ => rfl⟩
  · obtain ⟨v', w', hr, h2, h3, h4, h5⟩ := run_append_own_at (P := Try.prog) w base t o.type e i z size bytes ht hi hz hsize hby hzs hsz (.slice none 0 0) 0 [] (World.ownsRow_nil _ _ _ _) ⟨g, off, none⟩ n c xs hl (fun j u hu => by first | (rw [Addr.add_lit]; exact hcell j u hu) | (rw [add_plain]; exact hcell j u hu)) h1 (by omega) (by rw [Nat.zero_add]; exact hbytes) hbase
    unfold Oper.wp execOp
    simp only [ho, resolve, invoke, builtin, Sem.run_bind, Sem.run_pure, Result.andThen_ok, List.map_toArray, List.map_cons, List.map_nil, hs, hx, hr]
    exact h v' w' (by simpa using h2) h3

/-- What is made. -/
structure CG where
  v1 : Value
  q : Nat
  v2 : Value
def CInv (B : Nat) (w0 : World) (e : TypeId) (sz n : Nat) (xs news : List Value) (l1 l5 l6 : Bool) (g : CG) (w : World) : Prop :=
  Below B w0 w ∧ B ≤ w.heap.size ∧ (l1 = true → l6 = false → w.ownsRow B e sz g.v1 n xs) ∧ (l5 = true → l6 = false → w.heap[g.q]? = some (.cells news.toArray e (0, 0))) ∧ (l6 = true → w.ownsRow B e sz g.v2 (n + 1) (xs ++ news))
theorem own_keepB {w w' : World} {B : Nat} {e : TypeId} {sz n : Nat} {v : Value} {xs : List Value} (h : w.ownsRow B e sz v n xs) (hb : Below w.heap.size w w') : w'.ownsRow B e sz v n xs := by
  refine ⟨h.1, ?_⟩
  rcases h.2 with hn | ⟨g, cap, cur, rfl, h0, hgg, rest⟩
  · exact .inl hn
  · exact .inr ⟨g, cap, cur, rfl, h0, (hb.block g (heap_lt hgg)).trans hgg, rest⟩
theorem CInv.below {B : Nat} {w0 : World} {e : TypeId} {sz n : Nat} {xs news : List Value} {l1 l5 l6 : Bool} {g : CG} {w w' : World} (h : CInv B w0 e sz n xs news l1 l5 l6 g w) (hb : Below w.heap.size w w') : CInv B w0 e sz n xs news l1 l5 l6 g w' := by
  obtain ⟨a1, a2, a3, a4, a5⟩ := h
  exact ⟨a1.trans (hb.mono a2), Nat.le_trans a2 hb.size, fun x y => own_keepB (a3 x y) hb, fun x y => (hb.block _ (heap_lt (a4 x y))).trans (a4 x y), fun x => own_keepB (a5 x) hb⟩
theorem below_none {w w' : World} (h : w.grownBy w' none) : Below w.heap.size w w' := ⟨h.os, h.tape, h.output, h.size, fun k hk => h.block k hk (by simp)⟩
theorem Try.infoD : (Try.prog.info? 30).map (fun i => (i.zero, i.size, i.bytes)) = some (some (.agg #[.bool false, .int .i64 0, .string ⟨#[]⟩, .int .i64 0, .string ⟨#[]⟩, .int .i64 0]), 6, 64) := by kernel_rfl
theorem Try.infoE : (Try.prog.info? 48).map (fun i => (i.zero, i.size, i.bytes)) = some (some (.agg #[.string ⟨#[]⟩, .int .i64 0, .int .i64 0]), 3, 32) := by kernel_rfl
@[reducible] def dcell (d : Dc) : List Value := [.bool d.lock, .int .i64 d.label, .string d.name, .int .i64 d.size, .string d.by_, .int .i64 d.at_]
@[reducible] def ecell (e : Ent) : List Value := [.string e.name, .int .i64 e.label, .int .i64 e.count]

@[reducible] def cpOps : Array Oper := #[{ dst := some 42, op := Op.move (Operand.tmp 5), type := 25, pos := "law.go:105", after := #[], guard := none }, { dst := some 43, op := Op.call { callee := Callee.builtin Builtin.append, args := #[Operand.const (Value.slice none 0 0), Operand.tmp 42], argTypes := #[25, 25] }, type := 25, pos := "law.go:105", after := #[{ on := 0, ground := Ground.data }], guard := none }, { dst := some 44, op := Op.load 27 (Operand.tmp 7), type := 27, pos := "law.go:105", after := #[], guard := none }, { dst := some 45, op := Op.move (Operand.tmp 6), type := 3, pos := "law.go:105", after := #[], guard := none }, { dst := some 46, op := Op.call { callee := Callee.value (Operand.func 7), args := #[Operand.tmp 44, Operand.tmp 45], argTypes := #[27, 3] }, type := 30, pos := "law.go:105", after := #[{ on := 2, ground := Ground.data }, { on := 3, ground := Ground.data }, { on := 1, ground := Ground.chain }], guard := none }, { dst := some 47, op := Op.buildSlice 25 1 #[(0, Operand.tmp 46)], type := 25, pos := "law.go:105", after := #[{ on := 4, ground := Ground.data }], guard := none }, { dst := some 48, op := Op.call { callee := Callee.builtin Builtin.append, args := #[Operand.tmp 43, Operand.tmp 47], argTypes := #[25, 25] }, type := 25, pos := "law.go:105", after := #[{ on := 1, ground := Ground.data }, { on := 5, ground := Ground.data }, { on := 4, ground := Ground.chain }], guard := none }, { dst := some 8, op := Op.assign (Operand.tmp 48), type := 25, pos := "law.go:105", after := #[{ on := 6, ground := Ground.data }, { on := 6, ground := Ground.chain }, { on := 0, ground := Ground.phase }, { on := 1, ground := Ground.phase }, { on := 2, ground := Ground.phase }, { on := 3, ground := Ground.phase }, { on := 4, ground := Ground.phase }, { on := 5, ground := Ground.phase }, { on := 6, ground := Ground.phase }], guard := none }]
def cpV (dv : Value) (n b s l k : Int) (d : Dc) (g : CG) : Nat → Value
  | 0 => dv
  | 1 => g.v1
  | 2 => .agg #[.int .u8 n, .int .u8 b, .int .u8 s, .int .u8 l]
  | 3 => .int .i64 k
  | 4 => dval d
  | 5 => .slice (some ⟨g.q, 0, none⟩) 1 1
  | 6 => g.v2
  | 7 => g.v2
  | _ => undef
theorem writeAll_cp (V : Nat → Value) (t : Array Value) : writeAll cpOps V t = (((((((t.setIfInBounds 42 (V 0)).setIfInBounds 43 (V 1)).setIfInBounds 44 (V 2)).setIfInBounds 45 (V 3)).setIfInBounds 46 (V 4)).setIfInBounds 47 (V 5)).setIfInBounds 48 (V 6)).setIfInBounds 8 (V 7) := by kernel_rfl
def cpInv (W0 : World) (m : Nat) (xs : List Value) (d : Dc) (L : Nat → Bool) (g : CG) (w : World) : Prop := CInv W0.heap.size W0 30 6 m xs (dcell d) (L 1) (L 5) (L 6) g w
set_option maxHeartbeats 2000000 in
set_option maxRecDepth 100000 in
theorem cp_region {Q : Exit → Act → World → Prop} {a0 : Act} {W0 : World} (dv : Value) (m : Nat) (xs : List Value) (n b s l k : Int) (hn : 0 ≤ n ∧ n < 256) (hb : 0 ≤ b ∧ b < 256) (hs : 0 ≤ s ∧ s < 256) (hl : 0 ≤ l ∧ l < 256) (hv : SrcAt W0 6 dv m xs) (hlt : ∀ g, dv.ownBlock = some g → g < W0.heap.size) (hm : m ≤ 100) (r : Nat) (hr : W0.heap[r]? = some (fourU n b s l))
    (e5 : a0.tmps.getD 5 undef = dv) (e6 : a0.tmps.getD 6 undef = .int .i64 k) (e7 : a0.tmps.getD 7 undef = .pointer (some ⟨r, 0, none⟩)) (hz : a0.tmps.size = 185)
    (hend : ∀ (g : CG) w, Below W0.heap.size W0 w → w.ownsRow W0.heap.size 30 6 g.v2 (m + 1) (xs ++ dcell (declP n b s l k)) → Q .normal ⟨writeAll cpOps (cpV dv n b s l k (declP n b s l k) g) a0.tmps, a0.defers⟩ w) : (Code.region 7 cpOps true).wp Try.prog Q a0 W0 := by
  obtain ⟨d, hd⟩ : ∃ d, d = declP n b s l k := ⟨_, rfl⟩
  have H4 : ∀ w, Calls Try.prog 7 #[.agg #[.int .u8 n, .int .u8 b, .int .u8 s, .int .u8 l], .int .i64 k] w fun e w' => e = .returned (dval d) ∧ Below w.heap.size w w' := fun w => hd ▸ decl_any n b s l k hn hb hs hl w
  rw [← hd] at hend
  clear hd
  refine wp_region_slots2 (by kernel_rfl) (by kernel_rfl) (by kernel_rfl) (by kernel_rfl) (cpV dv n b s l k d) (cpInv W0 m xs d) ⟨.slice none 0 0, 0, .slice none 0 0⟩ ⟨(Below.refl _ _).drew, Nat.le_refl _, fun h => (by cases h), fun h => (by cases h), fun h => by cases h⟩ ?_ (fun L g w hL hI => hend g w hI.1 (hI.2.2.2.2 (hL 6 (by decide))))
  · intro L g a wr i op hop hLi hpre hC hI hS hO K hK
    have s5 := (hS.old2 5 (by kernel_rfl)).trans e5
    have s6 := (hS.old2 6 (by kernel_rfl)).trans e6
    have s7 := (hS.old2 7 (by kernel_rfl)).trans e7
    have hrr : wr.heap[r]? = some (fourU n b s l) := (hI.1.block r (heap_lt hr)).trans hr
    obtain ⟨c0, c1, c2, c3⟩ := cells4 hrr
    have hsrc : SrcAt wr 6 dv m xs := by
      obtain ⟨x1, x2, x3⟩ := hv
      refine ⟨x1, x2, x3.imp id ?_⟩
      rintro ⟨gs, off, c, rfl, hc⟩
      exact ⟨gs, off, c, rfl, fun j u hu => (World.cell?_of_block (hI.1.block gs (hlt _ rfl))).trans (hc j u hu)⟩
    match i with
    | 0 =>
      simp only [cpOps, List.getElem?_toArray, List.getElem?_cons_zero, List.getElem?_cons_succ, Option.some.injEq] at hop
      subst hop
      go_simp
      exact hK _ _ ⟨g, fun _ => rfl, fun _ _ _ => rfl, hI⟩
    | 1 =>
      simp only [cpOps, List.getElem?_toArray, List.getElem?_cons_zero, List.getElem?_cons_succ, Option.some.injEq] at hop
      subst hop
      have n0 := hS.new 0 42 (by kernel_rfl) (pre_at hpre 0 (by kernel_rfl)) (by rw [hz]; decide)
      simp only [cpV] at n0
      have no4 : L 4 = false := by cases h : L 4 with | false => rfl | true => exact absurd (hC.at 4 1 (by kernel_rfl) h) (by simp [hLi])
      have no6 : L 6 = false := by cases h : L 6 with | false => rfl | true => exact absurd (hC.at 6 1 (by kernel_rfl) h) (by simp [hLi])
      have no5 : L 5 = false := by cases h : L 5 with | false => rfl | true => exact absurd (hC.at 5 4 (by kernel_rfl) h) (by simp [no4])
      obtain ⟨i0, hi, hz0, hz1, hz2⟩ := info_parts Try.infoD
      refine wp_copy (.const (.slice none 0 0)) (.tmp 42) 25 (by rfl) W0.heap.size 30 i0 _ 6 64 Try.underlying25 hi hz0 hz1 hz2 rfl (by omega) rfl dv m xs n0 hsrc (by unfold maxLen; omega) (by omega) hI.2.1 ?_
      intro v1 w1 hown1 hgrow
      refine hK _ _ ⟨{ g with v1 := v1 }, fun _ => rfl, fun j hj hLj => ?_, ?_⟩
      · unfold cpV; split <;> first | rfl | exact absurd rfl hj
      · obtain ⟨a1, a2, a3, a4, a5⟩ := hI.below (below_none hgrow)
        refine ⟨a1, a2, fun _ _ => hown1, fun h => ?_, fun h => ?_⟩
        · simp [no5] at h
        · simp [no6] at h
    | 2 =>
      simp only [cpOps, List.getElem?_toArray, List.getElem?_cons_zero, List.getElem?_cons_succ, Option.some.injEq] at hop
      subst hop
      go_simp
      exact hK _ _ ⟨g, fun _ => rfl, fun _ _ _ => rfl, hI⟩
    | 3 =>
      simp only [cpOps, List.getElem?_toArray, List.getElem?_cons_zero, List.getElem?_cons_succ, Option.some.injEq] at hop
      subst hop
      go_simp
      exact hK _ _ ⟨g, fun _ => rfl, fun _ _ _ => rfl, hI⟩
    | 4 =>
      simp only [cpOps, List.getElem?_toArray, List.getElem?_cons_zero, List.getElem?_cons_succ, Option.some.injEq] at hop
      subst hop
      have n2 := hS.new2 2 44 (by kernel_rfl) (pre_at hpre 2 (by kernel_rfl)) (by rw [hz]; decide)
      simp only [cpV] at n2
      have n3 := hS.new2 3 45 (by kernel_rfl) (pre_at hpre 3 (by kernel_rfl)) (by rw [hz]; decide)
      simp only [cpV] at n3
      have no5 : L 5 = false := by cases h : L 5 with | false => rfl | true => exact absurd (hC.at 5 4 (by kernel_rfl) h) (by simp [hLi])
      have no6 : L 6 = false := by cases h : L 6 with | false => rfl | true => exact absurd (hC.at 6 4 (by kernel_rfl) h) (by simp [hLi])
      go_simp
      go_at_call 7
      refine (H4 wr).mono ?_
      rintro e w1 ⟨rfl, hb1⟩
      go_simp
      refine hK _ _ ⟨g, fun _ => rfl, fun _ _ _ => rfl, ?_⟩
      exact hI.below hb1
    | 5 =>
      simp only [cpOps, List.getElem?_toArray, List.getElem?_cons_zero, List.getElem?_cons_succ, Option.some.injEq] at hop
      subst hop
      have n4 := hS.new2 4 46 (by kernel_rfl) (pre_at hpre 4 (by kernel_rfl)) (by rw [hz]; decide)
      simp only [cpV] at n4
      have no6 : L 6 = false := by cases h : L 6 with | false => rfl | true => exact absurd (hC.at 6 5 (by kernel_rfl) h) (by simp [hLi])
      go_simp
      refine hK _ _ ⟨{ g with q := wr.heap.size }, fun _ => rfl, fun j hj hLj => ?_, ?_⟩
      · unfold cpV; split <;> first | rfl | exact absurd rfl hj
      · obtain ⟨a1, a2, a3, a4, a5⟩ := hI.below ((Below.refl _ _).alloc (Nat.le_refl _) (dobj d))
        refine ⟨a1, a2, a3, fun _ _ => by rw [alloc_at, if_pos rfl], fun h => ?_⟩
        simp [no6] at h
    | 6 =>
      simp only [cpOps, List.getElem?_toArray, List.getElem?_cons_zero, List.getElem?_cons_succ, Option.some.injEq] at hop
      subst hop
      have n1 := hS.new 1 43 (by kernel_rfl) (pre_at hpre 1 (by kernel_rfl)) (by rw [hz]; decide)
      simp only [cpV] at n1
      have n5 := hS.new 5 47 (by kernel_rfl) (pre_at hpre 5 (by kernel_rfl)) (by rw [hz]; decide)
      simp only [cpV] at n5
      obtain ⟨a1, a2, a3, a4, a5⟩ := id hI
      have hown := a3 (pre_at hpre 1 (by kernel_rfl)) hLi
      have hone := a4 (pre_at hpre 5 (by kernel_rfl)) hLi
      obtain ⟨i0, hi, hz0, hz1, hz2⟩ := info_parts Try.infoD
      refine wp_append_lies wr (.tmp 43) (.tmp 47) 25 (by rfl) W0.heap.size 30 i0 _ 6 64 Try.underlying25 hi hz0 hz1 hz2 rfl (by omega) _ m xs n1 hown ⟨g.q, 0, none⟩ 1 1 (dcell d) n5 (by simp) (World.news_of_block hone) (by simp [Value.oneCell']) (by omega) (by unfold maxLen; omega) (by omega) a2 _ rfl ?_
      intro gg cap w1 hown1 hgrow hat hlt1
      have hbl : Below W0.heap.size wr w1 := (Below.refl _ _).grown hgrow a2 (fun k hk => (hown.lt k hk).1)
      refine hK _ _ ⟨{ g with v2 := .slice (some ⟨gg, 0, none⟩) (m + 1) cap }, fun _ => rfl, fun j hj hLj => ?_, ?_⟩
      · have no7 : L 7 = false := by cases h : L 7 with | false => rfl | true => exact absurd (hC.at 7 6 (by kernel_rfl) h) (by simp [hLi])
        unfold cpV; split <;> first | rfl | exact absurd rfl hj | (rw [no7] at hLj; cases hLj)
      · exact ⟨a1.trans hbl, Nat.le_trans a2 hgrow.size, fun _ h => (by simp at h), fun _ h => (by simp at h), fun _ => hown1⟩
    | 7 =>
      simp only [cpOps, List.getElem?_toArray, List.getElem?_cons_zero, List.getElem?_cons_succ, Option.some.injEq] at hop
      subst hop
      have n6 := hS.new2 6 48 (by kernel_rfl) (pre_at hpre 6 (by kernel_rfl)) (by rw [hz]; decide)
      simp only [cpV] at n6
      go_simp
      exact hK _ _ ⟨g, fun _ => rfl, fun _ _ _ => rfl, hI⟩
    | n + 8 => simp [cpOps] at hop
end Go.Proofs.Ytnpennclgenppaa
