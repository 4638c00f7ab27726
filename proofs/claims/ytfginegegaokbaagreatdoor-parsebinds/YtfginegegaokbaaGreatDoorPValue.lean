/- What the reader's value does: an expression more of a statement. Conditions: as in PRead. -/
import Derived.Test.YtfginegegaokbaaGreatDoorPRow
namespace Go.Proofs.YtfginegegaokbaaGreatDoor.Pr
open Go.ChangeShapes Go.WideShapes Go.ChangeAt Go.RowKit
open Lx (Tok)
set_option linter.unusedVariables false
set_option linter.unusedSimpArgs false

theorem infoExpr : (Tryz.prog.info? 57).map (fun i => (i.zero, i.size, i.bytes)) = some (some (.agg #[.int .i64 0, .int .i64 0, .string ⟨#[]⟩, .int .u64 0, .slice none 0 0, .int .i64 0]), 6, 72) := by kernel_rfl
theorem hown_lt {lo : Nat} {w : World} {v : Value} {es : List Tree} (h : ExRow lo w v es) {k : Nat} (hk : v.ownBlock = some k) : k < w.heap.size := by
  obtain ⟨xs, ho, _⟩ := h
  exact (ho.lt k hk).2
/-- A statement without blocks, under way in block sb; w0: the world in which it began. -/
def StV (B br : Nat) (w0 : World) (sb : Nat) (s : Stm) (rr : Rd) (w : World) : Prop :=
  RdAt B br rr w ∧ w0.grownBy w (some br) ∧ ∃ eao ecap, w.heap[sb]? = some (.cells #[.int .i64 s.kind, .string s.name, .slice eao s.exprs.length ecap, .int .i64 s.count, .slice none 0 0, .slice none 0 0, .int .i64 s.at_] 60 (0, 0)) ∧ ExRow w0.heap.size w (.slice eao s.exprs.length ecap) s.exprs
structure VG where
  v : Value
  q : Nat
  g : Nat
  cap : Nat
def valV (br sb deep : Nat) (eao : Option Addr) (n ecap : Nat) (g : VG) : Nat → Value
  | 0 => .pointer (some ⟨sb, 0, none⟩)
  | 1 => .pointer (some ⟨sb, 0, none⟩)
  | 2 => .pointer (some ⟨sb, 2, none⟩)
  | 3 => .slice eao n ecap
  | 4 => .pointer (some ⟨br, 0, none⟩)
  | 5 => .int .i64 (deep : Int)
  | 6 => .int .i64 ((deep : Int) + 1)
  | 7 => g.v
  | 8 => .int .i64 (n : Int)
  | 9 => .slice (some ⟨g.q, 0, none⟩) 1 1
  | 10 => .slice (some ⟨g.g, 0, none⟩) (n + 1) g.cap
  | 11 => .pointer (some ⟨g.g, n * 6, none⟩)
  | 13 => .pointer (some ⟨sb, 0, none⟩)
  | 14 => .pointer (some ⟨sb, 2, none⟩)
  | _ => undef
def stO (s : Stm) (ev : Value) : Obj := .cells #[.int .i64 s.kind, .string s.name, ev, .int .i64 s.count, .slice none 0 0, .slice none 0 0, .int .i64 s.at_] 60 (0, 0)
def valInv (B br : Nat) (w0 : World) (sb : Nat) (s : Stm) (eao : Option Addr) (ecap : Nat) (r0 r1 : Rd) (t : Tree) (L : Nat → Bool) (g : VG) (w : World) : Prop :=
  (L 10 = false → (RdAt B br (if L 7 = true then r1 else r0) w ∧ w0.grownBy w (some br) ∧ w.heap[sb]? = some (stO s (.slice eao s.exprs.length ecap)) ∧ ExRow w0.heap.size w (.slice eao s.exprs.length ecap) s.exprs) ∧
    (L 7 = true → ∃ p q, w0.heap.size ≤ p ∧ q ≤ w.heap.size ∧ ERep p q w bigM g.v t ∧ ∀ k, (Value.slice eao s.exprs.length ecap).ownBlock = some k → k < p ∨ q ≤ k) ∧
    (L 9 = true → w.heap[g.q]? = some zeroE ∧ w0.heap.size ≤ g.q ∧ ∀ k, (Value.slice eao s.exprs.length ecap).ownBlock = some k → k ≠ g.q)) ∧
  (L 10 = true → RdAt B br r1 w ∧ w0.grownBy w (some br) ∧ w.heap[sb]? = some (stO s (if L 15 = true then .slice (some ⟨g.g, 0, none⟩) (s.exprs.length + 1) g.cap else .slice eao s.exprs.length ecap)) ∧
    ∃ xs last, w.ownsRow w0.heap.size 57 6 (.slice (some ⟨g.g, 0, none⟩) (s.exprs.length + 1) g.cap) (s.exprs.length + 1) (xs ++ last) ∧ xs.length = s.exprs.length * 6 ∧ last.length = 6 ∧ Elems w0.heap.size w (some g.g) xs s.exprs ∧
      ∃ p q, w0.heap.size ≤ p ∧ q ≤ w.heap.size ∧ ERep p q w bigM g.v t ∧ (∀ k, some g.g = some k → k < p ∨ q ≤ k) ∧ (L 12 = true → ∃ c0 c1 c2 c3 c4 c5, last = [c0, c1, c2, c3, c4, c5] ∧ g.v = .agg #[c0, c1, c2, c3, c4, c5]))
set_option maxHeartbeats 4000000 in
set_option maxRecDepth 100000 in
/-- reader.value -/
theorem value_any (B br : Nat) (w0 : World) (sb deep : Nat) (s : Stm) (rr : Rd) (w : World) (h : StV B br w0 sb s rr w) (hsb0 : w0.heap.size ≤ sb) (hne : s.exprs.length ≤ 10) (hd : deep ≤ 40) :
    Calls Tryz.prog 110 #[.pointer (some ⟨br, 0, none⟩), .pointer (some ⟨sb, 0, none⟩), .int .i64 (deep : Int)] w fun e w' => e = .returned (.tuple #[]) ∧ StV B br w0 sb (valueP deep s rr).1 (valueP deep s rr).2 w' := by
  obtain ⟨t, r1, e1⟩ : ∃ t x, exprP (40 - deep) 0 (deep + 1) rr = (t, x) := ⟨_, _, rfl⟩
  have ev : valueP deep s rr = ({ s with exprs := s.exprs ++ [t] }, r1) := by unfold valueP; rw [e1]
  rw [ev]
  have X : ∀ w', RdAt B br rr w' → Calls Tryz.prog 129 #[.pointer (some ⟨br, 0, none⟩), .int .i64 0, .int .i64 ((deep : Int) + 1)] w' (Mde B br w' rr (t, r1)) := fun w' h' => by
    have := (ex_all (40 - deep)).1 B br 0 (deep + 1) rr w' h' (by omega) (by omega)
    rw [e1] at this
    exact this
  obtain ⟨hR, hG, eao, ecap, hb, hrow⟩ := h
  have hgap : gap rr r1 ≤ bigM := by have := hR.2.2.1; unfold gap bigM; omega
  clear ev e1
  go_enter Tryz.func110, Tryz.ntmps110
  go_wp2
  refine wp_region_slots (by kernel_rfl) (by kernel_rfl) (by kernel_rfl) (by kernel_rfl) (valV br sb deep eao s.exprs.length ecap) (valInv B br w0 sb s eao ecap rr r1 t) ⟨undef, 0, 0, 0⟩ ⟨(fun _ => ⟨⟨hR.drew, grown_drew hG, hb, hrow.same (Nat.le_refl _) (fun _ _ _ h => h)⟩, (fun e => by cases e), (fun e => by cases e)⟩), (fun e => by cases e)⟩ ?_ ?_
  · intro L g a wr i op hop hLi hpre hC hI hS K hK
    have s0 : a.tmps[0]?.getD undef = .pointer (some ⟨br, 0, none⟩) := (hS.old2 0 (by kernel_rfl)).trans rfl
    have s1 : a.tmps[1]?.getD undef = .pointer (some ⟨sb, 0, none⟩) := (hS.old2 1 (by kernel_rfl)).trans rfl
    have s2 : a.tmps[2]?.getD undef = .int .i64 (deep : Int) := (hS.old2 2 (by kernel_rfl)).trans rfl
    have same : valInv B br w0 sb s eao ecap rr r1 t L g wr → i ≠ 7 → i ≠ 9 → i ≠ 10 → i ≠ 12 → i ≠ 15 → valInv B br w0 sb s eao ecap rr r1 t (fun j => if j = i then true else L j) g wr := fun h a b c d e => by
      unfold valInv at h ⊢
      simp only [show ¬ (7 = i) from fun e => a e.symm, show ¬ (9 = i) from fun e => b e.symm, show ¬ (10 = i) from fun e => c e.symm, show ¬ (12 = i) from fun e => d e.symm, show ¬ (15 = i) from fun h => e h.symm, if_false]
      exact h
    match i with
    | 0 =>
      simp only [List.getElem?_toArray, List.getElem?_cons_zero, List.getElem?_cons_succ, Option.some.injEq] at hop
      subst hop
      go_simp
      exact hK _ _ ⟨g, fun _ => rfl, fun _ _ _ => rfl, same hI (by decide) (by decide) (by decide) (by decide) (by decide)⟩
    | 1 =>
      simp only [List.getElem?_toArray, List.getElem?_cons_zero, List.getElem?_cons_succ, Option.some.injEq] at hop
      subst hop
      have n := hS.new2 0 6 (by kernel_rfl) (pre_at hpre 0 (by kernel_rfl)) (show 6 < 20 by decide)
      simp only [valV] at n
      go_simp
      exact hK _ _ ⟨g, fun _ => rfl, fun _ _ _ => rfl, same hI (by decide) (by decide) (by decide) (by decide) (by decide)⟩
    | 2 =>
      simp only [List.getElem?_toArray, List.getElem?_cons_zero, List.getElem?_cons_succ, Option.some.injEq] at hop
      subst hop
      have n := hS.new2 1 7 (by kernel_rfl) (pre_at hpre 1 (by kernel_rfl)) (show 7 < 20 by decide)
      simp only [valV] at n
      go_simp
      exact hK _ _ ⟨g, fun _ => rfl, fun _ _ _ => rfl, same hI (by decide) (by decide) (by decide) (by decide) (by decide)⟩
    | 3 =>
      simp only [List.getElem?_toArray, List.getElem?_cons_zero, List.getElem?_cons_succ, Option.some.injEq] at hop
      subst hop
      have n := hS.new2 2 8 (by kernel_rfl) (pre_at hpre 2 (by kernel_rfl)) (show 8 < 20 by decide)
      simp only [valV] at n
      have no10 : L 10 = false := by cases h : L 10 with | false => rfl | true => exact absurd (hC.at 10 3 (by kernel_rfl) h) (by simp [hLi])
      obtain ⟨⟨_, _, hsb, _⟩, _⟩ := hI.1 no10
      obtain ⟨c0, c1, c2, c3, c4, c5, c6⟩ := stmt_cells hsb
      have hlt := heap_lt hsb
      go_simp
      exact hK _ _ ⟨g, fun _ => rfl, fun _ _ _ => rfl, same hI (by decide) (by decide) (by decide) (by decide) (by decide)⟩
    | 4 =>
      simp only [List.getElem?_toArray, List.getElem?_cons_zero, List.getElem?_cons_succ, Option.some.injEq] at hop
      subst hop
      go_simp
      exact hK _ _ ⟨g, fun _ => rfl, fun _ _ _ => rfl, same hI (by decide) (by decide) (by decide) (by decide) (by decide)⟩
    | 5 =>
      simp only [List.getElem?_toArray, List.getElem?_cons_zero, List.getElem?_cons_succ, Option.some.injEq] at hop
      subst hop
      go_simp
      exact hK _ _ ⟨g, fun _ => rfl, fun _ _ _ => rfl, same hI (by decide) (by decide) (by decide) (by decide) (by decide)⟩
    | 6 =>
      simp only [List.getElem?_toArray, List.getElem?_cons_zero, List.getElem?_cons_succ, Option.some.injEq] at hop
      subst hop
      have n := hS.new2 5 11 (by kernel_rfl) (pre_at hpre 5 (by kernel_rfl)) (show 11 < 20 by decide)
      simp only [valV] at n
      go_simp
      exact hK _ _ ⟨g, fun _ => by rw [wrap_deep deep hd]; rfl, fun _ _ _ => rfl, same hI (by decide) (by decide) (by decide) (by decide) (by decide)⟩
    | 7 =>
      simp only [List.getElem?_toArray, List.getElem?_cons_zero, List.getElem?_cons_succ, Option.some.injEq] at hop
      subst hop
      have n := hS.new2 4 10 (by kernel_rfl) (pre_at hpre 4 (by kernel_rfl)) (show 10 < 20 by decide)
      have m := hS.new2 6 12 (by kernel_rfl) (pre_at hpre 6 (by kernel_rfl)) (show 12 < 20 by decide)
      simp only [valV] at n m
      have no10 : L 10 = false := by cases h : L 10 with | false => rfl | true => exact absurd (hC.at 10 7 (by kernel_rfl) h) (by simp [hLi])
      have no12 : L 12 = false := by cases h : L 12 with | false => rfl | true => exact absurd (hC.at 12 7 (by kernel_rfl) h) (by simp [hLi])
      obtain ⟨hb, _, h9⟩ := hI.1 no10
      rw [hLi] at hb
      go_simp
      go_at_call 129
      refine (X wr hb.1).mono ?_
      rintro e w3 ⟨v3, rfl, E3, h3, g3⟩
      go_simp
      have hz3 := g3.size
      have hEE := E3.up (m := bigM) hgap
      have hkeep : ∀ {k : Nat} {cs : Array Value} {t : TypeId} {fr : Nat × Nat}, wr.heap[k]? = some (.cells cs t fr) → t ≠ 81 → w3.heap[k]? = some (.cells cs t fr) := fun hk ht => hb.1.heap g3 hk ht
      have ht6 : TSame 57 wr w3 := fun k cs fr hk => hkeep hk (by decide)
      refine hK _ _ ⟨{ g with v := v3 }, fun _ => rfl, fun j hj hLj => ?_, (fun _ => ⟨⟨h3, grownBy_trans hb.2.1 g3, hkeep hb.2.2.1 (by decide), hb.2.2.2.same hz3 ht6⟩, (fun _ => ⟨wr.heap.size, w3.heap.size, hb.2.1.size, Nat.le_refl _, hEE, fun k hk => .inl (hown_lt hb.2.2.2 hk)⟩), (fun e => ?_)⟩), (fun e => by simp only [show ¬ (10 = 7) by decide, if_false, no10] at e; cases e)⟩
      · unfold valV
        split <;> first | rfl | exact absurd rfl hj
      · have h9' := h9 (by simpa using e)
        exact ⟨hkeep h9'.1 (by decide), h9'.2⟩
    | 8 =>
      simp only [List.getElem?_toArray, List.getElem?_cons_zero, List.getElem?_cons_succ, Option.some.injEq] at hop
      subst hop
      have n := hS.new2 3 9 (by kernel_rfl) (pre_at hpre 3 (by kernel_rfl)) (show 9 < 20 by decide)
      simp only [valV] at n
      go_simp
      exact hK _ _ ⟨g, fun _ => rfl, fun _ _ _ => rfl, same hI (by decide) (by decide) (by decide) (by decide) (by decide)⟩
    | 9 =>
      simp only [List.getElem?_toArray, List.getElem?_cons_zero, List.getElem?_cons_succ, Option.some.injEq] at hop
      subst hop
      have no10 : L 10 = false := by cases h : L 10 with | false => rfl | true => exact absurd (hC.at 10 9 (by kernel_rfl) h) (by simp [hLi])
      obtain ⟨hb, h7, _⟩ := hI.1 no10
      go_simp
      have ha : TSame 57 wr (wr.alloc zeroE) := TSame.alloc _ _ _
      refine hK _ _ ⟨{ g with q := wr.heap.size }, fun _ => rfl, fun j hj hLj => ?_, (fun _ => ⟨⟨hb.1.alloc _, grown_alloc hb.2.1 _, alloc_keep hb.2.2.1 _, hb.2.2.2.same (by rw [alloc_size]; omega) ha⟩, (fun e => ?_), (fun _ => ⟨zeroE_at wr, hb.2.1.size, fun k hk => by have := hown_lt hb.2.2.2 hk; show k ≠ wr.heap.size; omega⟩)⟩), (fun e => by simp only [show ¬ (10 = 9) by decide, if_false, no10] at e; cases e)⟩
      · unfold valV
        split <;> first | rfl | exact absurd rfl hj
      · obtain ⟨p, q, a1, a2, a3, a4⟩ := h7 (by simpa using e)
        exact ⟨p, q, a1, by rw [alloc_size]; omega, a3.carry (Nat.le_refl _) (Nat.le_refl _) (ha.s35 p q), a4⟩
    | 10 =>
      simp only [List.getElem?_toArray, List.getElem?_cons_zero, List.getElem?_cons_succ, Option.some.injEq] at hop
      subst hop
      have l7 := pre_at hpre 7 (by kernel_rfl)
      have l9 := pre_at hpre 9 (by kernel_rfl)
      have m3 := hS.new 3 9 (by kernel_rfl) (pre_at hpre 3 (by kernel_rfl)) (show 9 < 20 by decide)
      have m9 := hS.new 9 15 (by kernel_rfl) l9 (show 15 < 20 by decide)
      simp only [valV] at m3 m9
      have no12 : L 12 = false := by cases h : L 12 with | false => rfl | true => exact absurd (hC.at 12 10 (by kernel_rfl) h) (by simp [hLi])
      have no15 : L 15 = false := by cases h : L 15 with | false => rfl | true => exact absurd (hC.at 15 10 (by kernel_rfl) h) (by simp [hLi])
      have no11 : L 11 = false := by cases h : L 11 with | false => rfl | true => exact absurd (hC.at 11 10 (by kernel_rfl) h) (by simp [hLi])
      obtain ⟨⟨hR, hG, hsb, hrow⟩, h7, h9⟩ := hI.1 hLi
      rw [l7] at hR
      obtain ⟨p, q, a1, a2, a3, a4⟩ := h7 l7
      obtain ⟨b1, b2, b3⟩ := h9 l9
      obtain ⟨xs, hown, hlo, hel⟩ := hrow
      obtain ⟨i0, hi, hz0, hz1, hz2⟩ := info_parts infoExpr
      refine wp_append_lies wr (.tmp 9) (.tmp 15) 55 (by rfl) w0.heap.size 57 i0 _ 6 72 Tryz.underlying55 hi hz0 hz1 hz2 rfl (by omega) _ s.exprs.length xs m3 hown ⟨g.q, 0, none⟩ 1 1 [.int .i64 0, .int .i64 0, .string ⟨#[]⟩, .int .u64 0, .slice none 0 0, .int .i64 0] m9 (by simp) (World.news_of_block b1) (by simp [Value.oneCell']) (by omega) (by unfold maxLen; omega) (by omega) hlo _ rfl ?_
      intro gg cap w1 hown1 hgrow hat hlt
      have hz1' := hgrow.size
      have hne : ∀ k, (Value.slice eao s.exprs.length ecap).ownBlock = some k → w0.heap.size ≤ k := fun k hk => (hown.lt k hk).1
      have tk : ∀ t : TypeId, t ≠ 57 → TSame t wr w1 := fun t h1 => TSame.of_row hown hgrow h1
      have hfar : ∀ (k : Nat) (o : Obj), (Value.slice eao s.exprs.length ecap).ownBlock ≠ some k → wr.heap[k]? = some o → w1.heap[k]? = some o := fun k o hk hc => (hgrow.block k (heap_lt hc) (fun e => hk e.symm)).trans hc
      have nfar : ∀ (p q : Nat), q ≤ wr.heap.size → (∀ k, (Value.slice eao s.exprs.length ecap).ownBlock = some k → k < p ∨ q ≤ k) → (∀ k, (Value.slice (some ⟨gg, 0, none⟩) (s.exprs.length + 1) cap).ownBlock = some k → k < p ∨ q ≤ k) := fun p q hq h k hk => by
        have : gg = k := by simpa [Value.ownBlock] using hk
        subst this
        rcases hat with h' | h'
        · exact h gg h'
        · right; omega
      have s35 : ∀ (p q : Nat), (∀ k, (Value.slice eao s.exprs.length ecap).ownBlock = some k → k < p ∨ q ≤ k) → Same35 p q wr w1 := fun p q h k cs fr h1 h2 hc => hfar k _ (fun e => by rcases h k e with h' | h' <;> omega) hc
      have hG1 : w0.grownBy w1 (some br) := ⟨hgrow.os.trans hG.os, hgrow.tape.trans hG.tape, hgrow.output.trans hG.output, by have := hG.size; omega, fun k hk hkr => (hgrow.block k (by have := hG.size; omega) (fun e => by have := hne k e.symm; omega)).trans (hG.block k hk hkr)⟩
      refine hK _ _ ⟨{ g with g := gg, cap := cap }, fun _ => rfl, fun j hj hLj => ?_, (fun e => by simp only [if_true] at e; cases e), (fun _ => ⟨hR.keep fun k cs t fr hk ht => hgrow.block k (heap_lt hk) (fun e => ?_), hG1, ?_, xs, [.int .i64 0, .int .i64 0, .string ⟨#[]⟩, .int .u64 0, .slice none 0 0, .int .i64 0], hown1, hown.1, rfl, fun i e he => ?_, p, q, a1, by omega, a3.carry (Nat.le_refl _) (Nat.le_refl _) (s35 p q a4), nfar p q a2 a4, (fun e => by simp only [show ¬ (12 = 10) by decide, if_false, no12] at e; cases e)⟩)⟩
      · unfold valV
        split <;> first | rfl | exact absurd rfl hj | (rw [no11] at hLj; cases hLj)
      · rcases hown.2 with ⟨he, _⟩ | ⟨g', cap', cur, hv, _, hgg, _⟩
        · rw [he] at e; cases e
        · rw [hv] at e
          have : g' = k := by simpa [Value.ownBlock] using e.symm
          subst this
          rw [hgg] at hk; cases hk; exact notRd ht
      · simp only [show ¬ (15 = 10) by decide, if_false, no15]
        exact tk _ (by decide) _ _ _ hsb
      · obtain ⟨p', q', u, c1, c2, c3, c4, c5⟩ := hel i e he
        exact ⟨p', q', u, c1, c2, by omega, nfar p' q' c3 c4, c5.carry (Nat.le_refl _) (Nat.le_refl _) (s35 p' q' c4)⟩
    | 11 =>
      simp only [List.getElem?_toArray, List.getElem?_cons_zero, List.getElem?_cons_succ, Option.some.injEq] at hop
      subst hop
      have n := hS.new2 10 16 (by kernel_rfl) (pre_at hpre 10 (by kernel_rfl)) (show 16 < 20 by decide)
      have m := hS.new2 8 14 (by kernel_rfl) (pre_at hpre 8 (by kernel_rfl)) (show 14 < 20 by decide)
      simp only [valV] at n m
      have l10 := pre_at hpre 10 (by kernel_rfl)
      obtain ⟨_, _, _, xs, last, hown, _⟩ := hI.2 l10
      have hii : (s.exprs.length : Int) < (s.exprs.length : Int) + 1 := by omega
      go_simp
      exact hK _ _ ⟨g, fun _ => rfl, fun _ _ _ => rfl, same hI (by decide) (by decide) (by decide) (by decide) (by decide)⟩
    | 12 =>
      simp only [List.getElem?_toArray, List.getElem?_cons_zero, List.getElem?_cons_succ, Option.some.injEq] at hop
      subst hop
      have l10 := hC.at 11 10 (by kernel_rfl) (pre_at hpre 11 (by kernel_rfl))
      have n := hS.new2 11 17 (by kernel_rfl) (pre_at hpre 11 (by kernel_rfl)) (show 17 < 20 by decide)
      have m := hS.new2 7 13 (by kernel_rfl) (pre_at hpre 7 (by kernel_rfl)) (show 13 < 20 by decide)
      simp only [valV] at n m
      obtain ⟨hR, hG, hsb, xs, last, hown, hxl, hll, hel, p, q, a1, a2, a3, a4, _⟩ := hI.2 l10
      obtain ⟨ao, kl, cp, hv⟩ := erep_agg a3
      rw [hv] at m a3
      match last, hll with
      | [o0, o1, o2, o3, o4, o5], _ =>
      obtain ⟨g', cap', cur, hvv, hbb, hgg, hn, hc, hs6, htk⟩ := (show ∃ g' cap' cur, Value.slice (some ⟨g.g, 0, none⟩) (s.exprs.length + 1) g.cap = .slice (some ⟨g', 0, none⟩) (s.exprs.length + 1) cap' ∧ w0.heap.size ≤ g' ∧ wr.heap[g']? = some (.cells cur 57 (0, 0)) ∧ s.exprs.length + 1 ≤ cap' ∧ cap' ≤ maxLen ∧ cur.size = cap' * 6 ∧ _ from by
        rcases hown.2 with ⟨h, _⟩ | h
        · cases h
        · exact h)
      cases hvv
      have hc6 : ∀ j, j < 6 → ∃ c, wr.cell? ⟨g.g, s.exprs.length * 6 + j, none⟩ = some c := fun j hj => by
        refine ⟨cur[s.exprs.length * 6 + j]'(by omega), ?_⟩
        rw [Lib.cell_of_heap hgg]
        simp [show s.exprs.length * 6 + j < cur.size by omega]
      obtain ⟨x0, k0⟩ := hc6 0 (by omega)
      obtain ⟨x1, k1⟩ := hc6 1 (by omega)
      obtain ⟨x2, k2⟩ := hc6 2 (by omega)
      obtain ⟨x3, k3⟩ := hc6 3 (by omega)
      obtain ⟨x4, k4⟩ := hc6 4 (by omega)
      obtain ⟨x5, k5⟩ := hc6 5 (by omega)
      simp only [Nat.add_zero] at k0
      have f0 := Lib.frozen_of_heap hgg (s.exprs.length * 6)
      have f1 := Lib.frozen_of_heap hgg (s.exprs.length * 6 + 1)
      have f2 := Lib.frozen_of_heap hgg (s.exprs.length * 6 + 2)
      have f3 := Lib.frozen_of_heap hgg (s.exprs.length * 6 + 3)
      have f4 := Lib.frozen_of_heap hgg (s.exprs.length * 6 + 4)
      have f5 := Lib.frozen_of_heap hgg (s.exprs.length * 6 + 5)
      have hlt := heap_lt hgg
      go_simp
      have hpg := putAt_grown wr g.g (s.exprs.length * 6) (.int .i64 t.kind) (.int .i64 t.op) (.string t.name) (.int .u64 t.value) (.slice ao kl cp) (.int .i64 t.at_)
      have hpz := putAt_size wr g.g (s.exprs.length * 6) (.int .i64 t.kind) (.int .i64 t.op) (.string t.name) (.int .u64 t.value) (.slice ao kl cp) (.int .i64 t.at_)
      have s35 : ∀ (p q : Nat), (∀ k, some g.g = some k → k < p ∨ q ≤ k) → Same35 p q wr (putAt wr g.g (s.exprs.length * 6) (.int .i64 t.kind) (.int .i64 t.op) (.string t.name) (.int .u64 t.value) (.slice ao kl cp) (.int .i64 t.at_)) := fun p q h k cs fr h1 h2 hc => (hpg.block k (heap_lt hc) (fun e => by rcases h k e.symm with h' | h' <;> omega)).trans hc
      have hgk : ∀ k, k < w0.heap.size → some k ≠ some g.g := fun k hk e => by simp only [Option.some.injEq] at e; omega
      have hG1 : w0.grownBy (putAt wr g.g (s.exprs.length * 6) (.int .i64 t.kind) (.int .i64 t.op) (.string t.name) (.int .u64 t.value) (.slice ao kl cp) (.int .i64 t.at_)) (some br) := ⟨hpg.os.trans hG.os, hpg.tape.trans hG.tape, hpg.output.trans hG.output, by rw [hpz]; exact hG.size, fun k hk hkr => (hpg.block k (by have := hG.size; omega) (hgk k hk)).trans (hG.block k hk hkr)⟩
      refine hK undef _ ⟨g, fun e => absurd rfl e, fun _ _ _ => rfl, (fun e => by simp only [show ¬ (10 = 12) by decide, if_false, l10] at e; cases e), (fun _ => ⟨hR.step hpg hgg notRd, hG1, ?_, xs, [.int .i64 t.kind, .int .i64 t.op, .string t.name, .int .u64 t.value, .slice ao kl cp, .int .i64 t.at_], own_putAt hown _ _ _ _ _ _, hxl, rfl, fun i e he => ?_, p, q, a1, by rw [hpz]; exact a2, ?_, a4, (fun _ => ⟨_, _, _, _, _, _, rfl, hv⟩)⟩)⟩
      · simp only [show ¬ (15 = 12) by decide, if_false]
        exact (hpg.block sb (heap_lt hsb) (fun e => by simp only [Option.some.injEq] at e; subst e; rw [hgg] at hsb; cases hsb)).trans hsb
      · obtain ⟨p', q', u, c1, c2, c3, c4, c5⟩ := hel i e he
        exact ⟨p', q', u, c1, c2, by rw [hpz]; exact c3, c4, c5.carry (Nat.le_refl _) (Nat.le_refl _) (s35 p' q' c4)⟩
      · rw [hv]; exact a3.carry (Nat.le_refl _) (Nat.le_refl _) (s35 p q a4)
    | 13 =>
      simp only [List.getElem?_toArray, List.getElem?_cons_zero, List.getElem?_cons_succ, Option.some.injEq] at hop
      subst hop
      have n := hS.new2 0 6 (by kernel_rfl) (pre_at hpre 0 (by kernel_rfl)) (show 6 < 20 by decide)
      simp only [valV] at n
      go_simp
      exact hK _ _ ⟨g, fun _ => rfl, fun _ _ _ => rfl, same hI (by decide) (by decide) (by decide) (by decide) (by decide)⟩
    | 14 =>
      simp only [List.getElem?_toArray, List.getElem?_cons_zero, List.getElem?_cons_succ, Option.some.injEq] at hop
      subst hop
      have n := hS.new2 13 18 (by kernel_rfl) (pre_at hpre 13 (by kernel_rfl)) (show 18 < 20 by decide)
      simp only [valV] at n
      go_simp
      exact hK _ _ ⟨g, fun _ => rfl, fun _ _ _ => rfl, same hI (by decide) (by decide) (by decide) (by decide) (by decide)⟩
    | 15 =>
      simp only [List.getElem?_toArray, List.getElem?_cons_zero, List.getElem?_cons_succ, Option.some.injEq] at hop
      subst hop
      have l10 := pre_at hpre 10 (by kernel_rfl)
      have n := hS.new2 14 19 (by kernel_rfl) (pre_at hpre 14 (by kernel_rfl)) (show 19 < 20 by decide)
      have m := hS.new2 10 16 (by kernel_rfl) (pre_at hpre 10 (by kernel_rfl)) (show 16 < 20 by decide)
      simp only [valV] at n m
      obtain ⟨hR, hG, hsb, hrest⟩ := hI.2 l10
      rw [hLi] at hsb
      simp only [Bool.false_eq_true, if_false] at hsb
      obtain ⟨c0, c1, c2, c3, c4, c5, c6⟩ := stmt_cells hsb
      have f2 := Lib.frozen_of_heap hsb 2
      have hlt := heap_lt hsb
      go_simp
      obtain ⟨xs, last, hown, hxl, hll, hel, p, q, a1, a2, a3, a4, a5⟩ := hrest
      have ht6 : TSame 57 wr (wr.setCell ⟨sb, 2, none⟩ (.slice (some ⟨g.g, 0, none⟩) (s.exprs.length + 1) g.cap)) := TSame.of_set hsb (by decide) _ _
      have hzz : (wr.setCell ⟨sb, 2, none⟩ (.slice (some ⟨g.g, 0, none⟩) (s.exprs.length + 1) g.cap)).heap.size = wr.heap.size := by simp [World.setCell]
      refine hK undef _ ⟨g, fun e => absurd rfl e, fun _ _ _ => rfl, (fun e => by simp only [show ¬ (10 = 15) by decide, if_false, l10] at e; cases e), (fun _ => ⟨hR.set hsb (by unfold rdType; decide) _ _, grown_set hG hsb0 _ _, ?_, xs, last, own_same hown ht6, hxl, hll, hel.same (by rw [hzz]; exact Nat.le_refl _) ht6, p, q, a1, by rw [hzz]; exact a2, a3.carry (Nat.le_refl _) (Nat.le_refl _) (ht6.s35 p q), a4, ?_⟩)⟩
      · simp only [if_true]
        exact set_heap hsb 2 _
      · simp only [show ¬ (12 = 15) by decide, if_false]
        exact a5
    | k + 16 => simp at hop
  · intro L g wr hL hI
    obtain ⟨hR', hG', hsb', xs, last, hown, hxl, hll, hel, p, q, a1, a2, a3, a4, a5⟩ := hI.2 (hL 10 (by decide))
    obtain ⟨c0, c1, c2, c3, c4, c5, rfl, hv⟩ := a5 (hL 12 (by decide))
    rw [hL 15 (by decide)] at hsb'
    simp only [if_true] at hsb'
    refine at_writeAll (pairs [6, 7, 8, 9, 10, 11, 12, 13, 14, 15, 16, 17] (valV br sb deep eao s.exprs.length ecap g) ++ [(18, valV br sb deep eao s.exprs.length ecap g 13), (19, valV br sb deep eao s.exprs.length ecap g 14)]) (fun t => by kernel_rfl) ?_
    simp only [pairs, List.zipIdx, List.map, List.foldl, valV, List.cons_append, List.nil_append, List.setIfInBounds_toArray, List.set_cons_zero, List.set_cons_succ]
    have el : (s.exprs ++ [t]).length = s.exprs.length + 1 := by simp
    have res : StV B br w0 sb { s with exprs := s.exprs ++ [t] } r1 wr := by
      refine ⟨hR', hG', some ⟨g.g, 0, none⟩, g.cap, ?_, xs ++ [c0, c1, c2, c3, c4, c5], ?_, by have := hG'.size; omega, fun i e he => ?_⟩
      · show wr.heap[sb]? = some (.cells #[_, _, .slice (some ⟨g.g, 0, none⟩) (s.exprs ++ [t]).length g.cap, _, _, _, _] _ _)
        rw [el]; exact hsb'
      · show wr.ownsRow _ _ _ (.slice (some ⟨g.g, 0, none⟩) (s.exprs ++ [t]).length g.cap) (s.exprs ++ [t]).length _
        rw [el]; exact hown
      · by_cases hi : i < s.exprs.length
        · have he' : s.exprs[i]? = some e := by rw [← he]; exact (List.getElem?_append_left hi).symm
          obtain ⟨p', q', u, b1, b2, b3, b4, b5⟩ := hel i e he'
          exact ⟨p', q', u, cells6_left b1, b2, b3, b4, b5⟩
        · have he' : (s.exprs ++ [t])[i]? = some e := he
          rw [List.getElem?_append_right (by omega)] at he'
          have hi0 : i = s.exprs.length := by
            rcases Nat.eq_zero_or_pos (i - s.exprs.length) with h | h
            · omega
            · rw [List.getElem?_eq_none (by simp; omega)] at he'; cases he'
          subst hi0
          simp at he'
          subst he'
          exact ⟨p, q, _, hv ▸ cells6_last hxl c0 c1 c2 c3 c4 c5, a1, a2, a4, a3⟩
    have RES := Lib.hid res
    clear res hR' hG' hsb' hown hel a3 hI
    go_wp2
    go_end0
    exact ⟨rfl, RES.out⟩
end Go.Proofs.YtfginegegaokbaaGreatDoor.Pr
