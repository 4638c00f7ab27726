/- What the reader's expr does. Conditions: as in PRead. -/
import Derived.Test.YtfginegegaokbaaGreatDoorPUnary2
import Derived.Test.YtfginegegaokbaaGreatDoorPExprBack
namespace Go.Proofs.YtfginegegaokbaaGreatDoor.Pr
open Go.ChangeShapes Go.WideShapes Go.ChangeAt Go.RowKit
open Lx (Tok)
set_option linter.unusedVariables false
set_option linter.unusedSimpArgs false

/-- How many tokens the reader has, off memory. -/
def lenAt (br : Nat) (w : World) : Nat := match w.cell? ⟨br, 0, none⟩ with | some (.slice _ n _) => n | _ => 0
theorem RdAt.len {B br : Nat} {r : Rd} {w : World} (h : RdAt B br r w) : lenAt br w = r.ts.length := by
  obtain ⟨_, _, _, g, off, cap, sg, ev, hb, _⟩ := h
  unfold lenAt
  rw [(three_cells hb).1]
/-- Which operator is next. -/
def opV (br sg : Nat) (T : Tok) (_ : Unit) : Nat → Value
  | 0 => .pointer (some ⟨br, 0, none⟩)
  | 1 => .pointer (some ⟨br, 0, none⟩)
  | 2 => .pointer (some ⟨br, 1, none⟩)
  | 3 => .slice (some ⟨sg, 0, none⟩) 10 10
  | 4 => .pointer (some ⟨br, 0, none⟩)
  | 5 => .agg #[.int .i64 (T.kind : Int), .string (bstr T.text), .int .u64 (T.value : Int), .int .i64 (T.at_ : Int)]
  | 6 => .string (bstr T.text)
  | 7 => .int .i64 (opOf T.text)
  | 8 => .int .i64 (opOf T.text)
  | _ => undef
/-- The blocks that what is read may lie in. -/
def inX (w : World) (LB : Nat) (wr : World) (g : Nat) : Prop := w.heap.size < g ∧ g ≠ LB ∧ g < wr.heap.size
/-- What stands while operators are read. -/
def ExAt (B br : Nat) (w : World) (LB n : Nat) (left : Tree) (rr : Rd) (wr : World) : Prop :=
  RdAt B br rr wr ∧ w.grownBy wr (some br) ∧ wr.heap[w.heap.size]? = some zeroE ∧ w.heap.size < LB ∧
  ∃ ao kl cap, wr.heap[LB]? = some (.cells #[.int .i64 left.kind, .int .i64 left.op, .string left.name, .int .u64 (left.value : Int), .slice ao kl cap, .int .i64 left.at_] 57 (0, 0)) ∧
    ERepX (inX w LB wr) wr n (.agg #[.int .i64 left.kind, .int .i64 left.op, .string left.name, .int .u64 (left.value : Int), .slice ao kl cap, .int .i64 left.at_]) left
theorem ExAt.on {B br LB n : Nat} {w wr w' : World} {rr rr' : Rd} {left : Tree} (h : ExAt B br w LB n left rr wr) (h' : RdAt B br rr' w') (hg : wr.grownBy w' (some br)) : ExAt B br w LB n left rr' w' := by
  obtain ⟨h1, h2, h3, h4, ao, kl, cap, h6, h7⟩ := h
  have hs := hg.size
  exact ⟨h', grownBy_trans h2 hg, h1.heap hg h3 (by decide), h4, ao, kl, cap, h1.heap hg h6 (by decide), h7.carry (fun g hx => ⟨hx.1, hx.2.1, by have := hx.2.2; omega⟩) (fun g cs fr _ hc => h1.heap hg hc (by decide))⟩
theorem ExAt.below {B br LB n : Nat} {w wr w' : World} {rr : Rd} {left : Tree} (h : ExAt B br w LB n left rr wr) (hb : Below wr.heap.size wr w') : ExAt B br w LB n left rr w' := h.on (h.1.below hb) (grownBy_below hb)
theorem kidsX2 {X : Nat → Prop} {w : World} {R : Value → Tree → Prop} {g : Nat} {fr : Nat × Nat} {x0 x1 x2 x3 x4 x5 y0 y1 y2 y3 y4 y5 : Value} {x y : Tree} (hg : w.heap[g]? = some (.cells #[x0, x1, x2, x3, x4, x5, y0, y1, y2, y3, y4, y5] 57 fr)) (hX : X g) (hx : R (.agg #[x0, x1, x2, x3, x4, x5]) x) (hy : R (.agg #[y0, y1, y2, y3, y4, y5]) y) :
    KidsX X w R (.slice (some ⟨g, 0, none⟩) 2 2) [x, y] := by
  refine ⟨_, _, rfl, by simp, fun i k h => ?_⟩
  match i, h with
  | 0, h => simp at h; subst h; exact ⟨g, 0, x0, x1, x2, x3, x4, x5, rfl, hX, ⟨_, _, hg⟩, by simp [World.cell?, hg], by simp [World.cell?, hg], by simp [World.cell?, hg], by simp [World.cell?, hg], by simp [World.cell?, hg], by simp [World.cell?, hg], hx⟩
  | 1, h => simp at h; subst h; exact ⟨g, 0, y0, y1, y2, y3, y4, y5, rfl, hX, ⟨_, _, hg⟩, by simp [World.cell?, hg], by simp [World.cell?, hg], by simp [World.cell?, hg], by simp [World.cell?, hg], by simp [World.cell?, hg], by simp [World.cell?, hg], hy⟩
theorem erepX_pos {X : Nat → Prop} {w : World} {n : Nat} {v : Value} {t : Tree} (h : ERepX X w n v t) : 1 ≤ n := by
  cases n with
  | zero => exact h.elim
  | succ n => omega
/-- One operator more. -/
theorem ex_round {B br LB n n4 lo4 : Nat} {w w4 : World} {r4 : Rd} {left t4 : Tree} {o : Int} {ao ao4 : Option Addr} {kl cp kl4 cap4 : Nat} (h4 : RdAt B br r4 w4) (g5 : w.grownBy w4 (some br)) (z5 : w4.heap[w.heap.size]? = some zeroE) (hlb : w.heap.size < LB)
    (b5 : w4.heap[LB]? = some (.cells #[.int .i64 left.kind, .int .i64 left.op, .string left.name, .int .u64 (left.value : Int), .slice ao kl cp, .int .i64 left.at_] 57 (0, 0)))
    (E5 : ERepX (inX w LB w4) w4 n (.agg #[.int .i64 left.kind, .int .i64 left.op, .string left.name, .int .u64 (left.value : Int), .slice ao kl cp, .int .i64 left.at_]) left)
    (E4 : ERep lo4 w4.heap.size w4 n4 (.agg #[.int .i64 t4.kind, .int .i64 t4.op, .string t4.name, .int .u64 (t4.value : Int), .slice ao4 kl4 cap4, .int .i64 t4.at_]) t4) (hlo : LB < lo4) :
    ExAt B br w LB (max n n4 + 1) (opT o left t4) r4 (((put6 w4 LB (.int .i64 3) (.int .i64 o) (.string ⟨#[]⟩) (.int .u64 0) (.slice (some ⟨w4.heap.size + 1, 0, none⟩) 2 2) (.int .i64 left.at_)).alloc
      (.cells #[.int .i64 t4.kind, .int .i64 t4.op, .string t4.name, .int .u64 (t4.value : Int), .slice ao4 kl4 cap4, .int .i64 t4.at_] 57)).alloc
      (.cells #[.int .i64 left.kind, .int .i64 left.op, .string left.name, .int .u64 (left.value : Int), .slice ao kl cp, .int .i64 left.at_, .int .i64 t4.kind, .int .i64 t4.op, .string t4.name, .int .u64 (t4.value : Int), .slice ao4 kl4 cap4, .int .i64 t4.at_] 57)) := by
  have hlt := heap_lt b5
  have hps := put6_size w4 LB (.int .i64 3) (.int .i64 o) (.string ⟨#[]⟩) (.int .u64 0) (.slice (some ⟨w4.heap.size + 1, 0, none⟩) 2 2) (.int .i64 left.at_)
  obtain ⟨W6, hW6⟩ : ∃ W6, W6 = put6 w4 LB (.int .i64 3) (.int .i64 o) (.string ⟨#[]⟩) (.int .u64 0) (.slice (some ⟨w4.heap.size + 1, 0, none⟩) 2 2) (.int .i64 left.at_) := ⟨_, rfl⟩
  have hR : RdAt B br r4 W6 := hW6 ▸ h4.put6 b5 _ _ _ _ _ _
  have hG : w.grownBy W6 (some br) := hW6 ▸ grown_put6 g5 (by omega) _ _ _ _ _ _
  have hZ : W6.heap[w.heap.size]? = some zeroE := hW6 ▸ (put6_other _ _ _ _ _ _ _ _ _ (by omega)).trans z5
  have hB : W6.heap[LB]? = some (.cells #[.int .i64 3, .int .i64 o, .string ⟨#[]⟩, .int .u64 0, .slice (some ⟨w4.heap.size + 1, 0, none⟩) 2 2, .int .i64 left.at_] 57 (0, 0)) := hW6 ▸ put6_heap b5 _ _ _ _ _ _
  have hO : ∀ (g : Nat) (o : Obj), g ≠ LB → w4.heap[g]? = some o → W6.heap[g]? = some o := fun g o hne hc => hW6 ▸ (put6_other _ _ _ _ _ _ _ _ _ hne).trans hc
  rw [← hW6] at hps ⊢
  clear hW6
  refine ⟨(hR.alloc _).alloc _, grown_alloc (grown_alloc hG _) _, alloc_keep (alloc_keep hZ _) _, hlb, some ⟨w4.heap.size + 1, 0, none⟩, 2, 2, alloc_keep (alloc_keep hB _) _, ?_⟩
  refine ⟨show (0 : Nat) < 18446744073709551616 by decide, _, rfl, kidsX2 (g := w4.heap.size + 1) (by rw [alloc_at, if_pos (by rw [alloc_size, hps])]) ⟨by omega, by omega, by rw [alloc_size, alloc_size, hps]; omega⟩ ?_ ?_⟩
  · exact (E5.carry (fun g hx => ⟨hx.1, hx.2.1, by have := hx.2.2; rw [alloc_size, alloc_size, hps]; omega⟩) (fun g cs fr hx hc => alloc_keep (alloc_keep (hO g _ hx.2.1 hc) _) _)).up (Nat.le_max_left _ _)
  · refine ((ERep.toX (X := inX w LB w4) (fun g h1 h2 => ⟨by omega, by omega, h2⟩) E4).carry (fun g hx => ⟨hx.1, hx.2.1, by have := hx.2.2; rw [alloc_size, alloc_size, hps]; omega⟩) (fun g cs fr hx hc => alloc_keep (alloc_keep (hO g _ hx.2.1 hc) _) _)).up (Nat.le_max_right _ _)

set_option maxHeartbeats 4000000 in
set_option maxRecDepth 100000 in
theorem expr_of {ex : ExP} (hto : ToE ex) (P : Rd → Prop) (B br tight deep : Nat) (r : Rd) (w : World) (h : RdAt B br r w) (ht : tight ≤ 7) (hd : deep ≤ 41) (u : Tree × Rd) (hu : ∀ w', RdAt B br r w' → Calls Tryz.prog 142 #[.pointer (some ⟨br, 0, none⟩), .int .i64 (deep : Int)] w' (Mde B br w' r u)) (hul : u.2.ts.length ≤ r.ts.length) (hP : P u.2)
    (hex : ∀ rr : Rd, rr.good → P rr → tight < tightN (opOf rr.here.text) → P (ex (tightN (opOf rr.here.text)) (deep + 1) rr.next).2 ∧ ∀ w', RdAt B br rr.next w' → Calls Tryz.prog 129 #[.pointer (some ⟨br, 0, none⟩), .int .i64 (tightN (opOf rr.here.text) : Int), .int .i64 ((deep : Int) + 1)] w' (Mde B br w' rr.next (ex (tightN (opOf rr.here.text)) (deep + 1) rr.next))) :
    Calls Tryz.prog 129 #[.pointer (some ⟨br, 0, none⟩), .int .i64 (tight : Int), .int .i64 (deep : Int)] w (Mde B br w r (loopOf ex tight deep u.2.ts.length u.1 u.2)) := by
  obtain ⟨t1, r1⟩ := u
  simp only at hul hP ⊢
  obtain ⟨fin, hfin⟩ : ∃ f, f = loopOf ex tight deep r1.ts.length t1 r1 := ⟨_, rfl⟩
  rw [← hfin]
  have HF : Hid (loopOf ex tight deep r1.ts.length t1 r1 = fin) := hfin.symm
  clear hfin
  have U := hu _ (h.alloc zeroE)
  have hG := World.grownBy_alloc w zeroE (some br)
  have HZ := Lib.hid (zeroE_at w)
  have HA := Lib.hid (h.alloc zeroE)
  have HUL := Lib.hid hul
  have HP := Lib.hid hP
  clear h hu hul hP
  go_enter Tryz.func129, Tryz.ntmps129
  go_wp2_with (go_at_call 142; refine U.mono ?_; rintro e w1 ⟨v1, rfl, E1, h1, g1⟩; obtain ⟨ao1, kl1, cap1, rfl⟩ := erep_agg E1)
  have hs1 := g1.size
  rw [alloc_size] at hs1
  have X0 : ExAt B br w w1.heap.size (gap r r1) t1 r1 (w1.alloc (.cells #[.int .i64 t1.kind, .int .i64 t1.op, .string t1.name, .int .u64 (t1.value : Int), .slice ao1 kl1 cap1, .int .i64 t1.at_] 57)) := by
    refine ⟨h1.alloc _, grown_alloc (grownBy_trans hG g1) _, alloc_keep (HA.out.heap g1 HZ.out (by decide)) _, by omega, ao1, kl1, cap1, heap_alloc_new w1 _, ?_⟩
    refine ERepX.carry (fun g hx => hx) (fun g cs fr hx hc => alloc_keep hc _) (ERep.toX (X := inX w w1.heap.size (w1.alloc (.cells #[.int .i64 t1.kind, .int .i64 t1.op, .string t1.name, .int .u64 (t1.value : Int), .slice ao1 kl1 cap1, .int .i64 t1.at_] 57))) (fun g h1 h2 => ⟨by rw [alloc_size] at h1; omega, by omega, by rw [alloc_size]; omega⟩) E1)
  obtain ⟨LB, hLB⟩ : ∃ LB, LB = w1.heap.size := ⟨_, rfl⟩
  rw [← hLB] at X0
  rw [← hLB]
  go_loopw [8] (fun o wr => ∃ left rr n, ExAt B br w LB n left rr wr ∧ n + rr.ts.length ≤ r.ts.length + 1 ∧ P rr ∧ Hid (loopOf ex tight deep rr.ts.length left rr = fin)) (fun _ wr => lenAt br wr)
  case atStart => exact ⟨t1, r1, gap r r1, X0, by have := HUL.out; unfold gap; omega, HP.out, HF⟩
  case round =>
    obtain ⟨left, rr, n, hX, hn, hPr, HL⟩ := hrel
    have HNN := Lib.hid hn
    have hlenW := hX.1.len
    have HLW := Lib.hid hlenW
    clear hn hlenW
    clear X0 HP HF U E1 HZ HA HUL h1 g1 hs1 hLB
    obtain ⟨_, hgd, _, g, off, cap, sg, ev, hb, _, _, _, hsg, _⟩ := id hX.1
    go_wp2
    refine wp_region_slots (by kernel_rfl) (by kernel_rfl) (by kernel_rfl) (by kernel_rfl) (opV br sg rr.here) (fun L _ w' => Below wr.heap.size wr w') () (Below.refl _ _).drew ?_ ?_
    · intro L _ a wq i op hop hLi hpre hC hI hS K hK
      have s0 : a.tmps[0]?.getD undef = .pointer (some ⟨br, 0, none⟩) := (hS.old2 0 (by kernel_rfl)).trans rfl
      have hR := hX.1.below hI
      have hbq := (hI.block _ (heap_lt hb)).trans hb
      obtain ⟨c0, c1, c2⟩ := three_cells hbq
      have hsg' := (hI.block _ (heap_lt hsg)).trans hsg
      have hltq := heap_lt hbq
      match i with
      | 0 =>
        simp only [List.getElem?_toArray, List.getElem?_cons_zero, List.getElem?_cons_succ, Option.some.injEq] at hop
        subst hop
        go_simp
        exact hK _ _ ⟨(), fun _ => rfl, fun _ _ _ => rfl, hI⟩
      | 1 =>
        simp only [List.getElem?_toArray, List.getElem?_cons_zero, List.getElem?_cons_succ, Option.some.injEq] at hop
        subst hop
        have n := hS.new2 0 13 (by kernel_rfl) (pre_at hpre 0 (by kernel_rfl)) (show 13 < 41 by decide)
        simp only [opV] at n
        go_simp
        exact hK _ _ ⟨(), fun _ => rfl, fun _ _ _ => rfl, hI⟩
      | 2 =>
        simp only [List.getElem?_toArray, List.getElem?_cons_zero, List.getElem?_cons_succ, Option.some.injEq] at hop
        subst hop
        have n := hS.new2 1 14 (by kernel_rfl) (pre_at hpre 1 (by kernel_rfl)) (show 14 < 41 by decide)
        simp only [opV] at n
        go_simp
        exact hK _ _ ⟨(), fun _ => rfl, fun _ _ _ => rfl, hI⟩
      | 3 =>
        simp only [List.getElem?_toArray, List.getElem?_cons_zero, List.getElem?_cons_succ, Option.some.injEq] at hop
        subst hop
        have n := hS.new2 2 15 (by kernel_rfl) (pre_at hpre 2 (by kernel_rfl)) (show 15 < 41 by decide)
        simp only [opV] at n
        go_simp
        exact hK _ _ ⟨(), fun _ => rfl, fun _ _ _ => rfl, hI⟩
      | 4 =>
        simp only [List.getElem?_toArray, List.getElem?_cons_zero, List.getElem?_cons_succ, Option.some.injEq] at hop
        subst hop
        go_simp
        exact hK _ _ ⟨(), fun _ => rfl, fun _ _ _ => rfl, hI⟩
      | 5 =>
        simp only [List.getElem?_toArray, List.getElem?_cons_zero, List.getElem?_cons_succ, Option.some.injEq] at hop
        subst hop
        have n := hS.new2 4 17 (by kernel_rfl) (pre_at hpre 4 (by kernel_rfl)) (show 17 < 41 by decide)
        simp only [opV] at n
        go_simp
        go_at_call 45
        refine (here_any B br rr _ hR).mono ?_
        rintro e w' ⟨rfl, rfl⟩
        go_simp
        exact hK _ _ ⟨(), fun _ => rfl, fun _ _ _ => rfl, hI.alloc hI.size _⟩
      | 6 =>
        simp only [List.getElem?_toArray, List.getElem?_cons_zero, List.getElem?_cons_succ, Option.some.injEq] at hop
        subst hop
        have n := hS.new2 5 18 (by kernel_rfl) (pre_at hpre 5 (by kernel_rfl)) (show 18 < 41 by decide)
        simp only [opV] at n
        have hf := tok_text
        go_simp
        exact hK _ _ ⟨(), fun _ => rfl, fun _ _ _ => rfl, hI⟩
      | 7 =>
        simp only [List.getElem?_toArray, List.getElem?_cons_zero, List.getElem?_cons_succ, Option.some.injEq] at hop
        subst hop
        have n := hS.new2 3 16 (by kernel_rfl) (pre_at hpre 3 (by kernel_rfl)) (show 16 < 41 by decide)
        have m := hS.new2 6 19 (by kernel_rfl) (pre_at hpre 6 (by kernel_rfl)) (show 19 < 41 by decide)
        simp only [opV] at n m
        go_simp
        go_at_call 143
        refine (index_any sg rr.here.text _ hsg').mono ?_
        rintro e w' ⟨rfl, rfl⟩
        go_simp
        exact hK _ _ ⟨(), fun _ => rfl, fun _ _ _ => rfl, hI⟩
      | 8 =>
        simp only [List.getElem?_toArray, List.getElem?_cons_zero, List.getElem?_cons_succ, Option.some.injEq] at hop
        subst hop
        have n := hS.new2 7 20 (by kernel_rfl) (pre_at hpre 7 (by kernel_rfl)) (show 20 < 41 by decide)
        simp only [opV] at n
        go_simp
        exact hK _ _ ⟨(), fun _ => rfl, fun _ _ _ => rfl, hI⟩
      | k + 9 => simp at hop
    · intro L _ w2 hL hb2
      have hX2 := hX.below hb2
      refine at_writeAll (pairs [13, 14, 15, 16, 17, 18, 19, 20, 8] (opV br sg rr.here ())) (fun t => by kernel_rfl) ?_
      simp only [pairs, List.zipIdx, List.map, List.foldl, opV, List.setIfInBounds_toArray, List.set_cons_zero, List.set_cons_succ]
      clear hX hb hsg hb2
      obtain ⟨o, ho⟩ : ∃ o, o = opOf rr.here.text := ⟨_, rfl⟩
      rw [← ho]
      have HO : Hid (o = opOf rr.here.text) := ho
      clear ho
      have htl := tightN_le o
      by_cases hc : tightN o ≤ tight
      · have hc' : (tightN o : Int) ≤ (tight : Int) := by omega
        obtain ⟨h2, g2, z2, hlb, ao, kl, cp, b2, E2⟩ := hX2
        obtain ⟨c0, c1, c2, c3, c4, c5⟩ := box_cells b2
        obtain ⟨d0, d1, d2, d3, d4, d5⟩ := box_free z2
        obtain ⟨x0, x1, x2, x3, x4, x5⟩ := box_cells z2
        have hz2 := heap_lt z2
        have hlt2 := heap_lt b2
        go_wp2_with (go_at_call 136; refine (tight_any o _).mono ?_; rintro e w' ⟨rfl, hw⟩; obtain rfl := hw.symm)
        have hfin : fin = (left, rr) := HL.out.symm.trans (loop_stop (by show tightN (opOf rr.here.text) ≤ tight; rw [← HO.out]; exact hc))
        rw [hfin]
        have hP6 := put6_heap z2 (.int .i64 left.kind) (.int .i64 left.op) (.string left.name) (.int .u64 (left.value : Int)) (.slice ao kl cp) (.int .i64 left.at_)
        obtain ⟨q0, q1, q2, q3, q4, q5⟩ := box_cells hP6
        have res : ERep w.heap.size (put6 w2 w.heap.size (.int .i64 left.kind) (.int .i64 left.op) (.string left.name) (.int .u64 (left.value : Int)) (.slice ao kl cp) (.int .i64 left.at_)).heap.size (put6 w2 w.heap.size (.int .i64 left.kind) (.int .i64 left.op) (.string left.name) (.int .u64 (left.value : Int)) (.slice ao kl cp) (.int .i64 left.at_)) (gap r rr) _ left :=
          ERepX.toE (X := inX w LB w2) (fun g hx => ⟨by have := hx.1; omega, by rw [put6_size]; exact hx.2.2⟩) ((E2.up (m := gap r rr) (by have := HNN.out; unfold gap; omega)).carry (fun g hx => hx) fun g cs fr hx hcc => (put6_other _ _ _ _ _ _ _ _ g (by have := hx.1; omega)).trans hcc)
        exact bodyPost_ret (v := .agg #[.int .i64 left.kind, .int .i64 left.op, .string left.name, .int .u64 (left.value : Int), .slice ao kl cp, .int .i64 left.at_]) (by simp [results, Tryz.results129, go_sem, q0, q1, q2, q3, q4, q5]) rfl
          ⟨_, rfl, res, h2.put6 z2 _ _ _ _ _ _, grown_put6 g2 (Nat.le_refl _) _ _ _ _ _ _⟩
      · have hc' : ¬ (tightN o : Int) ≤ (tight : Int) := by omega
        obtain ⟨hP4, hx⟩ := hex rr hgd hPr (by rw [← HO.out]; omega)
        rw [← HO.out] at hP4 hx
        have T4 := hto (tightN o) (deep + 1) rr.next
        obtain ⟨t4, r4, e4⟩ : ∃ t x, ex (tightN o) (deep + 1) rr.next = (t, x) := ⟨_, _, rfl⟩
        rw [e4] at hP4 hx T4
        obtain ⟨gn, _, ln⟩ := op_not_end hgd (tight := tight) (by rw [← HO.out]; omega)
        have l4 : r4.ts.length ≤ rr.next.ts.length := T4.2.1 gn
        have HN : Hid (loopOf ex tight deep r4.ts.length (opT o left t4) r4 = fin) := by
          show _ = _
          rw [← HL.out]
          obtain ⟨k, hk⟩ : ∃ k, rr.ts.length = k + 1 := ⟨rr.ts.length - 1, by omega⟩
          rw [hk, loopOf, ← HO.out, if_neg hc, e4]
          exact loop_fuel hto _ _ _ _ (T4.1 gn) (Nat.le_refl _) (show r4.ts.length ≤ k by omega)
        have HLN : Hid (rr.next.ts.length + 1 = rr.ts.length ∧ r4.ts.length ≤ rr.next.ts.length) := ⟨ln, l4⟩
        have h2 := hX2.1
        have HX2 := Lib.hid hX2
        have HP4 := Lib.hid hP4
        clear hX2 HL hc hex e4 T4 gn ln l4 hP4
        go_wp2_with (first
          | (go_at_call 129; refine (hx _ h3).mono ?_; rintro e w4 ⟨v4, rfl, E4, h4, g4⟩; obtain ⟨ao4, kl4, cap4, rfl⟩ := erep_agg E4; have X4 := X3.on h4 g4; obtain ⟨_, g5, z5, hlb, ao, kl, cp, b5, E5⟩ := id X4; have hlt3 := heap_lt lb3; obtain ⟨c0, c1, c2, c3, c4, c5⟩ := box_cells b5; obtain ⟨d0, d1, d2, d3, d4, d5⟩ := box_free b5; have hlt5 := heap_lt b5)
          | (go_at_call 95; refine (rnext_any B br rr _ h2).mono ?_; rintro e w3 ⟨rfl, h3, g3⟩; have X3 := HX2.out.on h3 g3; obtain ⟨_, _, _, _, _, _, _, lb3, _⟩ := id X3)
          | (go_at_call 136; refine (tight_any o _).mono ?_; rintro e w' ⟨rfl, hw⟩; obtain rfl := hw.symm))
        have XR := ex_round (o := o) h4 g5 z5 hlb b5 E5 E4 hlt3
        obtain ⟨l1, l2⟩ := HLN.out
        have hnn := HNN.out
        have hn1 : 1 ≤ n := erepX_pos E5
        refine ⟨⟨opT o left t4, r4, _, XR, ?_, HP4.out, HN⟩, ?_⟩
        · show max n (rr.next.ts.length + 1 - r4.ts.length) + 1 + r4.ts.length ≤ r.ts.length + 1
          omega
        · rw [XR.1.len, HLW.out]; omega
/-- expr, all of it. -/
theorem ex_step {f : Nat} (ihE : RExC f) (ihU : RUnC f) : RExC (f + 1) := by
  intro B br tight deep r w h ht hd
  rw [exprP_succ]
  refine expr_of (to_expr f) (fun _ => True) B br tight deep r w h ht (by omega) (unaryP (f + 1) deep r) (fun w' h' => un_step ihE ihU B br deep r w' h' hd) (((to_pair (f + 1)).2 deep r).2.1 h.2.1) trivial (fun rr hg _ hlt => ⟨trivial, fun w' h' => ?_⟩)
  exact ihE B br (tightN (opOf rr.here.text)) (deep + 1) rr.next w' h' (tightN_le _) (by omega)
theorem ex_zero : RExC 0 := by
  intro B br tight deep r w h ht hd
  have hl : (failU r).2.ts.length = 1 := by unfold failU; simp only; split; exact fail_len 2 h.2.1; exact fail_len 6 h.2.1
  have hgf : (failU r).2.good := (to_failU r).1 h.2.1
  have stop : ∀ rr : Rd, rr.good → rr.ts.length = 1 → tightN (opOf rr.here.text) = 0 := fun rr hg hl => by
    rcases good_cases hg with ⟨k, _, e⟩ | ⟨_, _, h1, _⟩
    · rw [e]; show tightN (opOf []) = 0; decide
    · omega
  have e : loopOf (exprP 0) tight deep (failU r).2.ts.length (failU r).1 (failU r).2 = failU r := loop_stop (by show tightN (opOf (failU r).2.here.text) ≤ tight; rw [stop _ hgf hl]; omega)
  show Calls Tryz.prog 129 _ w (Mde B br w r (failU r))
  rw [← e]
  refine expr_of (to_expr 0) (fun rr => rr.ts.length = 1) B br tight deep r w h ht (by omega) (failU r) (fun w' h' => un_zero B br deep r w' h' hd) ((to_failU r).2.1 h.2.1) hl (fun rr hg hP hlt => ?_)
  rw [stop rr hg hP] at hlt; omega
theorem ex_all : ∀ f, RExC f ∧ RUnC f
  | 0 => ⟨ex_zero, un_zero⟩
  | f + 1 => ⟨ex_step (ex_all f).1 (ex_all f).2, un_step (ex_all f).1 (ex_all f).2⟩
end Go.Proofs.YtfginegegaokbaaGreatDoor.Pr
