/- What the reader's block does; so statements and blocks of any depth. Conditions: as in PRead. -/
import Derived.Test.YtfginegegaokbaaGreatDoorPStmtC
namespace Go.Proofs.YtfginegegaokbaaGreatDoor.Pr
open Go.ChangeShapes Go.WideShapes Go.ChangeAt Go.RowKit
open Lx (Tok)
set_option linter.unusedVariables false
set_option linter.unusedSimpArgs false

/-- The statements of a list, each in blocks of its own. -/
def SElems (lo n : Nat) (w : World) (own : Option Nat) (xs : List Value) (ss : List Stm) : Prop :=
  ∀ (i : Nat) (s : Stm), ss[i]? = some s → ∃ a b u, Cells7 xs i u ∧ lo ≤ a ∧ b ≤ w.heap.size ∧ (∀ g, own = some g → g < a ∨ b ≤ g) ∧ SRep a b w bigM n u s
/-- A list of statements that the call owns. -/
def SRow (lo n : Nat) (w : World) (v : Value) (ss : List Stm) : Prop :=
  ∃ xs, w.ownsRow lo 60 7 v ss.length xs ∧ lo ≤ w.heap.size ∧ SElems lo n w v.ownBlock xs ss
theorem SRow.nil {lo n : Nat} {w : World} (h : lo ≤ w.heap.size) : SRow lo n w (.slice none 0 0) [] := ⟨[], World.ownsRow_nil _ _ _ _, h, fun i s hs => by simp at hs⟩
theorem SRow.on {lo n : Nat} {w w' : World} {v : Value} {ss : List Stm} (h : SRow lo n w v ss) (hz : w.heap.size ≤ w'.heap.size) (hs : TSame 60 w w') (he : TSame 57 w w') : SRow lo n w' v ss := by
  obtain ⟨xs, ho, hl, hr⟩ := h
  refine ⟨xs, own_same ho hs, by omega, fun i s hi => ?_⟩
  obtain ⟨a, b, u, h1, h2, h3, h4, h5⟩ := hr i s hi
  exact ⟨a, b, u, h1, h2, by omega, h4, h5.carry (Nat.le_refl _) (Nat.le_refl _) (he.s35 a b) (hs.s45 a b)⟩
theorem SRow.stms {lo n : Nat} {w : World} {v : Value} {ss : List Stm} (h : SRow lo n w v ss) (hlen : ss.length ≤ 4294967296) : Stms lo w.heap.size w (fun v' s' => SRep lo w.heap.size w bigM n v' s') v ss := by
  obtain ⟨xs, ho, hl, hr⟩ := h
  rcases ho.2 with ⟨rfl, h0⟩ | ⟨g, cap, cur, rfl, hb, hgg, rest⟩
  · rw [List.length_eq_zero_iff.1 h0]; exact stms0
  · refine ⟨_, cap, rfl, hlen, fun i s hs => ?_⟩
    obtain ⟨a, b, u, ⟨c0, c1, c2, c3, c4, c5, c6, e0, e1, e2, e3, e4, e5, e6, rfl⟩, ha, hb', hg, hS⟩ := hr i s hs
    have key : ∀ j u, xs[j]? = some u → w.cell? ⟨g, 0 + j, none⟩ = some u := fun j u hu => by
      have := World.ownsRow.cells ho (g := g) rfl j u hu
      rw [Lib.add_plain] at this
      exact this
    have key' : ∀ j r u, xs[j + r]? = some u → w.cell? ⟨g, 0 + j + r, none⟩ = some u := fun j r u hu => by rw [Nat.add_assoc]; exact key _ _ hu
    exact ⟨g, 0, c0, c1, c2, c3, c4, c5, c6, rfl, hb, heap_lt hgg, ⟨_, _, hgg, rfl, rfl⟩, key _ _ e0, key' _ _ _ e1, key' _ _ _ e2, key' _ _ _ e3, key' _ _ _ e4, key' _ _ _ e5, key' _ _ _ e6, hS.carry ha hb' (fun _ _ _ _ _ h => h) (fun _ _ _ _ _ h => h)⟩
theorem RdAt.tsame {B br : Nat} {r : Rd} {w w' : World} (h : RdAt B br r w) (hg : w.grownBy w' (some br)) {t : TypeId} (ht : t ≠ 81) : TSame t w w' := fun k cs fr hk => h.heap hg hk ht
theorem RdAt.err {B br : Nat} {r : Rd} {w : World} (h : RdAt B br r w) : ∃ ev, w.cell? ⟨br, 2, none⟩ = some ev ∧ ErrAt w ev r.err := by
  obtain ⟨_, _, _, g, off, cap, sg, ev, hb, _, _, _, _, he⟩ := h
  exact ⟨ev, (three_cells hb).2.2, he⟩
theorem cells7_last {xs : List Value} {n : Nat} (hl : xs.length = n * 7) (c0 c1 c2 c3 c4 c5 c6 : Value) : Cells7 (xs ++ [c0, c1, c2, c3, c4, c5, c6]) n (.agg #[c0, c1, c2, c3, c4, c5, c6]) := by
  have key : ∀ (j : Nat) (c : Value), [c0, c1, c2, c3, c4, c5, c6][j]? = some c → (xs ++ [c0, c1, c2, c3, c4, c5, c6])[n * 7 + j]? = some c := fun j c h => by
    rw [List.getElem?_append_right (by omega), show n * 7 + j - xs.length = j by omega]; exact h
  exact ⟨c0, c1, c2, c3, c4, c5, c6, key 0 _ rfl, key 1 _ rfl, key 2 _ rfl, key 3 _ rfl, key 4 _ rfl, key 5 _ rfl, key 6 _ rfl, rfl⟩
/-- A statement more. -/
theorem srow_more {lo n : Nat} {w w1 : World} {v : Value} {ss : List Stm} {s : Stm} {x0 x1 x2 x3 x4 x5 x6 : Value} {gg cap a : Nat} {xs : List Value} (hown : w.ownsRow lo 60 7 v ss.length xs) (hlo : lo ≤ w.heap.size) (hel : SElems lo n w v.ownBlock xs ss)
    (hS : SRep a w.heap.size w bigM n (.agg #[x0, x1, x2, x3, x4, x5, x6]) s) (ha : lo ≤ a) (hva : ∀ g, v.ownBlock = some g → g < a)
    (hown1 : (w1.ownsRow lo 60 7 (.slice (some ⟨gg, 0, none⟩) (ss.length + 1) cap) (ss.length + 1) (xs ++ [x0, x1, x2, x3, x4, x5, x6]))) {W : World} (hWs : ∀ (k : Nat) (o : Obj), w.heap[k]? = some o → W.heap[k]? = some o) (hWz : w.heap.size ≤ W.heap.size) (hgrow : W.grownBy w1 v.ownBlock) (hat : v.ownBlock = some gg ∨ gg = W.heap.size) :
    SRow lo n w1 (.slice (some ⟨gg, 0, none⟩) (ss.length + 1) cap) (ss ++ [s]) := by
  have hz1 := hgrow.size
  have hfar : ∀ (k : Nat) (o : Obj), v.ownBlock ≠ some k → w.heap[k]? = some o → w1.heap[k]? = some o := fun k o hk hc => (hgrow.block k (heap_lt (hWs k o hc)) (fun e => hk e.symm)).trans (hWs k o hc)
  have nfar : ∀ (p q : Nat), q ≤ w.heap.size → (∀ k, v.ownBlock = some k → k < p ∨ q ≤ k) → (∀ k, (Value.slice (some ⟨gg, 0, none⟩) (ss.length + 1) cap).ownBlock = some k → k < p ∨ q ≤ k) := fun p q hq h k hk => by
    have : gg = k := by simpa [Value.ownBlock] using hk
    subst this
    rcases hat with h' | h'
    · exact h gg h'
    · right; omega
  have s35 : ∀ (p q : Nat), (∀ k, v.ownBlock = some k → k < p ∨ q ≤ k) → Same35 p q w w1 := fun p q h k cs fr h1 h2 hc => hfar k _ (fun e => by rcases h k e with h' | h' <;> omega) hc
  have s45 : ∀ (p q : Nat), (∀ k, v.ownBlock = some k → k < p ∨ q ≤ k) → Same45 p q w w1 := fun p q h k cs fr h1 h2 hc => hfar k _ (fun e => by rcases h k e with h' | h' <;> omega) hc
  have el : (ss ++ [s]).length = ss.length + 1 := by simp
  refine ⟨xs ++ [x0, x1, x2, x3, x4, x5, x6], by rw [el]; exact hown1, by omega, fun i e he => ?_⟩
  by_cases hi : i < ss.length
  · rw [List.getElem?_append_left hi] at he
    obtain ⟨p, q, u, b1, b2, b3, b4, b5⟩ := hel i e he
    exact ⟨p, q, u, cells7_left b1, b2, by omega, nfar p q b3 b4, b5.carry (Nat.le_refl _) (Nat.le_refl _) (s35 p q b4) (s45 p q b4)⟩
  · rw [List.getElem?_append_right (by omega)] at he
    have hi0 : i = ss.length := by
      rcases Nat.eq_zero_or_pos (i - ss.length) with h | h
      · omega
      · rw [List.getElem?_eq_none (by simp; omega)] at he; cases he
    subst hi0
    simp at he
    subst he
    have hv' : ∀ k, v.ownBlock = some k → k < a ∨ w.heap.size ≤ k := fun k hk => .inl (hva k hk)
    exact ⟨a, w.heap.size, _, cells7_last hown.1 _ _ _ _ _ _ _, ha, by omega, nfar a _ (Nat.le_refl _) hv', hS.carry (Nat.le_refl _) (Nat.le_refl _) (s35 a _ hv') (s45 a _ hv')⟩
theorem srep_agg {lo B m n : Nat} {w : World} {v : Value} {s : Stm} (h : SRep lo B w m n v s) : ∃ a1 a2 a3 a4 a5 a6, v = .agg #[.int .i64 s.kind, .string s.name, .slice a1 s.exprs.length a2, .int .i64 s.count, .slice a3 s.body.length a4, .slice a5 s.els.length a6, .int .i64 s.at_] := by
  cases n with
  | zero => exact h.elim
  | succ n => obtain ⟨_, _, _, a1, a2, a3, a4, a5, a6, e, _⟩ := h; exact ⟨a1, a2, a3, a4, a5, a6, e⟩

/-- A statement that is read takes a token, or something is wrong. -/
theorem kind_next {r : Rd} (hg : r.good) {k : Int} (h : kindP r.here = some k) : r.next.good ∧ r.next.ts.length + 1 = r.ts.length := by
  rcases good_cases hg with ⟨j, _, e⟩ | ⟨_, _, _, h1, _, h3⟩
  · rw [e] at h
    have : kindP (endT j) = none := rfl
    rw [this] at h; cases h
  · exact ⟨h1, h3⟩
theorem st_dec (f d : Nat) (r : Rd) (hg : r.good) : (stP f d r).2.err.isSome = true ∨ (stP f d r).2.ts.length < r.ts.length := by
  cases f with
  | zero =>
    left
    show (if (kindP r.here).isNone then r.fail 2 else r.fail 6).err.isSome = true
    split; exact fail_err 2 r; exact fail_err 6 r
  | succ f =>
    show (stmtOf (blockOf (stP f)) d r).2.err.isSome = true ∨ (stmtOf (blockOf (stP f)) d r).2.ts.length < r.ts.length
    unfold stmtOf
    cases hk : kindP r.here with
    | none => left; exact fail_err 2 r
    | some k =>
      obtain ⟨g1, l1⟩ := kind_next hg hk
      simp only
      split
      · left; exact fail_err 6 r
      have tb : ToB (blockOf (stP f)) := to_block (to_st f)
      right
      split
      · have := (to_choice tb d ⟨k, ⟨#[]⟩, [], 0, [], [], r.here.at_⟩ r.next).2.1 g1; omega
      split
      · have := (((to_name r.next).trans (to_number 256 _)).trans (tb (d + 1) _)).2.1 g1; simp only; omega
      · have := ((to_simple r.here d ⟨k, ⟨#[]⟩, [], 0, [], [], r.here.at_⟩ r.next).trans (to_want [59] _)).2.1 g1; simp only; omega
/-- How often the loop may go round. -/
def need (r : Rd) : Nat := if r.err.isSome then 1 else r.ts.length + 1
def needAt (br : Nat) (w : World) : Nat := match w.cell? ⟨br, 2, none⟩ with | some .nilIface => lenAt br w + 1 | _ => 1
theorem RdAt.need {B br : Nat} {r : Rd} {w : World} (h : RdAt B br r w) : needAt br w = Pr.need r := by
  obtain ⟨ev, hc, he⟩ := h.err
  unfold needAt Pr.need
  rw [hc]
  cases hr : r.err with
  | none => rw [hr] at he; obtain rfl : ev = .nilIface := he; simp [h.len]
  | some e => rw [hr] at he; obtain ⟨fb, rfl, _⟩ := he; simp
theorem need_dec (f d : Nat) (r : Rd) (hg : r.good) (he : r.err = none) : need (stP f d r).2 < need r := by
  have hp := hg.pos
  have hn : need r = r.ts.length + 1 := by unfold need; rw [he]; rfl
  rw [hn]
  unfold need
  cases hb : (stP f d r).2.err.isSome with
  | true => simp only [if_true]; omega
  | false =>
    simp only [Bool.false_eq_true, if_false]
    rcases st_dec f d r hg with h | h
    · rw [hb] at h; cases h
    · omega
theorem append_one {ops : Array Oper} {rest : List Oper} {o : Oper} {act : Act} {Q : Exit → Act → World → Prop} (w : World) (x0 x1 x2 x3 x4 x5 x6 : Value) (hgd : o.guard = none) (s x : Operand)
    (ho : o.op = .call { callee := .builtin .append, args := #[s, x], argTypes := #[52, 52] }) (lo : Nat) (v : Value) (n : Nat) (xs : List Value) (hs : act.eval s = v) (hown : w.ownsRow lo 60 7 v n xs) (hx : act.eval x = .slice (some ⟨w.heap.size, 0, none⟩) 1 1)
    (hn0 : x0.oneCell' = true ∧ x1.oneCell' = true ∧ x2.oneCell' = true ∧ x3.oneCell' = true ∧ x4.oneCell' = true ∧ x5.oneCell' = true ∧ x6.oneCell' = true) (hlo : lo ≤ w.heap.size) (hn : n ≤ 1000000)
    (h : ∀ g cap w', w'.ownsRow lo 60 7 (.slice (some ⟨g, 0, none⟩) (n + 1) cap) (n + 1) (xs ++ [x0, x1, x2, x3, x4, x5, x6]) → (w.alloc (.cells #[x0, x1, x2, x3, x4, x5, x6] 60)).grownBy w' v.ownBlock → (v.ownBlock = some g ∨ g = (w.alloc (.cells #[x0, x1, x2, x3, x4, x5, x6] 60)).heap.size) → wpList Tryz.prog ops Q rest (act.put o.dst (.slice (some ⟨g, 0, none⟩) (n + 1) cap)) w') :
    wpList Tryz.prog ops Q (o :: rest) act (w.alloc (.cells #[x0, x1, x2, x3, x4, x5, x6] 60)) := by
  obtain ⟨i0, hi, hz0, hz1, hz2⟩ := info_parts infoStmt
  obtain ⟨p0, p1, p2, p3, p4, p5, p6⟩ := hn0
  refine wpList_append_lies _ hgd s x 52 ho lo 60 i0 _ 7 112 Tryz.underlying52 hi hz0 hz1 hz2 rfl (by decide) v n xs hs (own_same hown (TSame.alloc _ _ _)) ⟨w.heap.size, 0, none⟩ 1 1 [x0, x1, x2, x3, x4, x5, x6] hx (by simp) (World.news_of_block (heap_alloc_new w _)) (by simp [p0, p1, p2, p3, p4, p5, p6]) (by omega) (by unfold maxLen; omega) (by omega) (by rw [alloc_size]; omega) _ rfl ?_
  intro g cap w' h1 h2 h3 h4
  exact h g cap w' h1 h2 h3

theorem rd_row {B br lo n sz : Nat} {t : TypeId} {r : Rd} {w w' : World} {v : Value} {xs : List Value} (h : RdAt B br r w) (ho : w.ownsRow lo t sz v n xs) (hg : w.grownBy w' v.ownBlock) (ht : ¬ rdType t := by unfold rdType; decide) : RdAt B br r w' :=
  h.keep fun k cs t' fr hk hr => hg.block k (heap_lt hk) (fun e => by
    rcases ho.2 with ⟨he, _⟩ | ⟨g', cap', cur, hv, _, hgg, _⟩
    · rw [he] at e; cases e
    · rw [hv] at e
      have : g' = k := by simpa [Value.ownBlock] using e.symm
      subst this
      rw [hgg] at hk; cases hk; exact ht hr)
theorem grown_row {w W w' : World} {br : Nat} {v : Value} (h : w.grownBy W (some br)) (hv : ∀ k, v.ownBlock = some k → w.heap.size ≤ k) (hg : W.grownBy w' v.ownBlock) : w.grownBy w' (some br) :=
  ⟨hg.os.trans h.os, hg.tape.trans h.tape, hg.output.trans h.output, Nat.le_trans h.size hg.size, fun k hk hkr => (hg.block k (Nat.lt_of_lt_of_le hk h.size) (fun e => by have := hv k e.symm; omega)).trans (h.block k hk hkr)⟩
set_option maxHeartbeats 4000000 in
set_option maxRecDepth 100000 in
/-- reader.block -/
theorem block_of {f : Nat} (ih : RStC f) : RBlC f := by
  intro B br deep r w h hd
  obtain ⟨r1, e1⟩ : ∃ x, r.want [123] = x := ⟨_, rfl⟩
  have W1 := want_any B br r ⟨#[123]⟩ [123] rfl w h
  rw [e1] at W1
  obtain ⟨fin, hfin⟩ : ∃ x, x = blockOf (stP f) deep r := ⟨_, rfl⟩
  rw [← hfin]
  have HF : Hid (blkLoop (stP f) deep (r1.ts.length + 1) [] r1 = fin) := by rw [hfin]; unfold blockOf; rw [e1]; rfl
  have hdd : deep ≤ 41 := by omega
  clear h e1 hfin
  go_enter Tryz.func47, Tryz.ntmps47
  go_wp2_with (go_at_call 46; refine W1.mono ?_; rintro e w1 ⟨rfl, h1, g1⟩)
  go_loopw [5] (fun v wr => ∃ ss rr k, RdAt B br rr wr ∧ w.grownBy wr (some br) ∧ SRow w.heap.size (f + 1) wr v ss ∧ need rr ≤ k ∧ ss.length + need rr ≤ 65540 ∧ Hid (blkLoop (stP f) deep k ss rr = fin)) (fun _ wr => needAt br wr)
  case atStart =>
    have hnd : need r1 ≤ r1.ts.length + 1 := by unfold need; split <;> omega
    exact ⟨[], r1, _, h1, g1, SRow.nil g1.size, hnd, by have := h1.2.2.1; simp; omega, HF⟩
  case round =>
    obtain ⟨ss, rr, k, hR, hG, hrow, hk, hlen, HL⟩ := hrel
    obtain ⟨ev, hc, he⟩ := hR.err
    have hlt := hR.lt
    have hneed := hR.need
    have hn1 : 1 ≤ need rr := by unfold need; split <;> omega
    obtain ⟨k, rfl⟩ : ∃ j, k = j + 1 := ⟨k - 1, by omega⟩
    clear hn1
    clear HF W1
    cases hre : rr.err with
    | some e0 =>
      rw [hre] at he
      obtain ⟨fb, rfl, _⟩ := he
      have hf : fin = (ss, rr) := by rw [← HL.out, blkLoop, hre]; rfl
      have hst := hrow.stms (by omega)
      have HST := Lib.hid hst
      have HR := Lib.hid hR
      have HG := Lib.hid hG
      have HFN := Lib.hid hf
      clear hrow hlen HL hf hst hneed hre hk hR hG
      go_wp2
      go_ret
      rw [HFN.out]
      exact ⟨_, rfl, HST.out, HR.out, HG.out⟩
    | none =>
      rw [hre] at he
      obtain rfl : ev = .nilIface := he
      cases hi : rr.is [125] with
      | true =>
        have hf : fin = (ss, rr.next) := by rw [← HL.out, blkLoop, hre, hi]; rfl
        have T2 := take_yes B br rr ⟨#[125]⟩ [125] rfl wr hR hi
        have HR := Lib.hid hR
        have HG := Lib.hid hG
        have HRow := Lib.hid hrow
        have HFN := Lib.hid hf
        have HLN := Lib.hid hlen
        clear hrow hlen HL hf hneed hre hk hR hG
        go_wp2_with (go_at_call 73; refine T2.mono ?_; rintro e w2 ⟨rfl, h2, g2⟩)
        go_ret
        have hst := (HRow.out.on g2.size (HR.out.tsame g2 (by decide)) (HR.out.tsame g2 (by decide))).stms (by have := HLN.out; omega)
        rw [HFN.out]
        exact ⟨_, rfl, hst, h2, grownBy_trans HG.out g2⟩
      | false =>
        have T2 := take_no B br rr ⟨#[125]⟩ [125] rfl wr hR hi
        have S3 := fun w' h' => ih B br deep rr w' h' hd
        have HN : Hid (need (stP f deep rr).2 < need rr) := need_dec f deep rr hR.2.1 hre
        have HL2 : Hid (blkLoop (stP f) deep k (ss ++ [(stP f deep rr).1]) (stP f deep rr).2 = fin) := by
          show _ = _
          rw [← HL.out, blkLoop, hre, hi]; rfl
        obtain ⟨s3, r3, e3⟩ : ∃ s x, stP f deep rr = (s, x) := ⟨_, _, rfl⟩
        rw [e3] at S3 HN HL2
        simp only at S3 HN HL2
        have HR := Lib.hid hR
        have HG := Lib.hid hG
        have HRow := Lib.hid hrow
        have HLN := Lib.hid hlen
        have HK := Lib.hid hk
        have HND := Lib.hid hneed
        clear hrow hlen HL hneed hre hk hR hG e3
        go_wp2_with (first
          | (at_builtin; refine append_one w3 _ _ _ _ _ _ _ rfl _ _ rfl w.heap.size _ _ _ rfl hown rfl ⟨rfl, rfl, rfl, rfl, rfl, rfl, rfl⟩ hlo hsl ?_; intro gg cap w4 hown4 hgrow4 hat4)
          | (go_at_call 76; refine (S3 _ h2).mono ?_; rintro e w3 ⟨v3, rfl, E3, h3, g3⟩; obtain ⟨y1, y2, y3, y4, y5, y6, rfl⟩ := srep_agg E3; have row3 := row2.on g3.size (h2.tsame g3 (by decide)) (h2.tsame g3 (by decide)); obtain ⟨xs, hown, hlo, hel⟩ := row3; have hsl : ss.length ≤ 1000000 := by (have := HLN.out; omega))
          | (go_at_call 73; refine T2.mono ?_; rintro e w2 ⟨rfl, h2, g2⟩; have row2 := HRow.out.on g2.size (HR.out.tsame g2 (by decide)) (HR.out.tsame g2 (by decide))))
        go_roundw
        case rel =>
          obtain ⟨xs2, ho2, _⟩ := id row2
          have hW := h3.alloc (.cells #[.int .i64 s3.kind, .string s3.name, .slice y1 s3.exprs.length y2, .int .i64 s3.count, .slice y3 s3.body.length y4, .slice y5 s3.els.length y6, .int .i64 s3.at_] 60)
          have hR4 := rd_row hW (own_same hown (TSame.alloc _ _ _)) hgrow4
          have hG4 := grown_row (grown_alloc (grownBy_trans (grownBy_trans HG.out g2) g3) _) (fun k hk => (hown.lt k hk).1) hgrow4
          have hRow4 := srow_more hown hlo hel E3 (by have := (grownBy_trans HG.out g2).size; omega) (fun g hg => (ho2.lt g hg).2) hown4 (fun k o hk => alloc_keep hk _) (by rw [alloc_size]; omega) hgrow4 hat4
          have := HN.out
          have := HK.out
          have := HLN.out
          refine ⟨ss ++ [s3], r3, k, hR4, hG4, ?_, by omega, by simp; omega, HL2⟩
          simpa using hRow4
        case measure =>
          have hW := h3.alloc (.cells #[.int .i64 s3.kind, .string s3.name, .slice y1 s3.exprs.length y2, .int .i64 s3.count, .slice y3 s3.body.length y4, .slice y5 s3.els.length y6, .int .i64 s3.at_] 60)
          have hR4 := rd_row hW (own_same hown (TSame.alloc _ _ _)) hgrow4
          rw [hR4.need, HND.out]
          exact HN.out
theorem st_all : ∀ f, RStC f
  | 0 => st_zero
  | f + 1 => st_step (block_of (st_all f))
theorem bl_all (f : Nat) : RBlC f := block_of (st_all f)
end Go.Proofs.YtfginegegaokbaaGreatDoor.Pr
