/- Own texts laid together: TextLine, StmRep, TextStmt, TextDecl, TextAll. Conditions: as each theorem says. -/
import Derived.Test.YtfginegegaokbaaGreatDoorGTreeM
import Derived.Test.YtfginegegaokbaaGreatDoorGTreeB
set_option linter.unusedVariables false
set_option linter.unusedSimpArgs false
namespace Go.Proofs.YtfginegegaokbaaGreatDoor
open Go.ChangeShapes Go.WideShapes Go.ChangeAt Go.RowKit
theorem deep_cell {B b : Nat} {l : List UInt8} {d : Int} {w : World} (h : PageAt B b l d w) : w.cell? ⟨b, 2, none⟩ = some (.int .i64 d) := by
  obtain ⟨_, p, v, hb, _⟩ := h
  rw [Lib.cell_of_heap hb]; rfl
theorem tabs_succ (k : Nat) : tabs (k + 1) = tabs k ++ [9] := by unfold tabs; rw [List.replicate_succ', ]
theorem tabs_len (k : Nat) : (tabs k).length = k := by simp [tabs]

set_option maxHeartbeats 2000000 in
set_option maxRecDepth 100000 in
theorem indent_any (B b : Nat) (l : List UInt8) (d : Nat) (w : World) (hP : PageAt B b l d w) (hd : d <= 1000000) (hlen : l.length + d <= 70368744177664) :
    Calls Tryz.prog 50 #[.pointer (some ⟨b, 0, none⟩)] w (Wrote B b l d w (tabs d)) := by
  have hc := deep_cell hP
  go_enter Tryz.func50, Tryz.ntmps50
  go_wp2
  go_loopw [6] (fun i wr => ∃ k : Nat, k <= d /\ i = .int .i64 k /\ PageAt B b (l ++ tabs k) d wr /\ Stay B b w wr) (fun i _ => d - (intOf i).toNat)
  case atStart => exact ⟨0, Nat.zero_le _, rfl, by simpa [tabs] using hP, Stay.refl _ _ _⟩
  case round =>
    obtain ⟨k, hk, rfl, hPr, hS⟩ := hrel
    by_cases hlt : k < d
    · go_wp2_with (go_at_call 51; refine (writeByte_any B b _ d 9 _ hPr (by simp only [List.length_append, tabs_len]; omega)).mono ?_; rintro e w1 ⟨rfl, hP1, hb1⟩)
      go_roundw
      case rel => exact ⟨k + 1, by omega, by go_num, by rw [tabs_succ, <- List.append_assoc]; exact hP1.page, hS.trans hb1⟩
      case measure => simp [intOf]; omega
    · obtain rfl : k = d := by omega
      go_wp2
      go_end0
      exact ⟨rfl, hPr, hS⟩

set_option maxHeartbeats 2000000 in
set_option maxRecDepth 100000 in
theorem line_any (B b : Nat) (l : List UInt8) (d : Nat) (s : ByteArray) (w : World) (hP : PageAt B b l d w) (hd : d <= 1000000) (hlen : l.length + (lineT d (bys s)).length <= 70368744177664) :
    Calls Tryz.prog 28 #[.pointer (some ⟨b, 0, none⟩), .string s] w (Wrote B b l d w (lineT d (bys s))) := by
  have HT : Hid (l ++ lineT d (bys s) = l ++ tabs d ++ bys s ++ [10]) := by show _ = _; simp [lineT]
  simp only [lineT, List.length_append, List.length_cons, List.length_nil, tabs_len, bys_length] at hlen
  go_enter Tryz.func28, Tryz.ntmps28
  go_wp2_with (go_at_call 50; refine (indent_any B b l d _ hP hd (by omega)).mono ?_; rintro e w1 ⟨rfl, hP1, hb1⟩)
  go_wp2_with (go_at_call 48; refine (writeString_any B b _ d s _ hP1 (by simp only [List.length_append, tabs_len]; omega)).mono ?_; rintro e w2 ⟨rfl, hP2, hb2⟩)
  go_wp2_with (go_at_call 51; refine (writeByte_any B b _ d 10 _ hP2.page (by simp only [List.length_append, tabs_len, bys_length]; omega)).mono ?_; rintro e w3 ⟨rfl, hP3, hb3⟩)
  go_end0
  exact ⟨rfl, by rw [HT.out]; exact hP3.page, (hb1.trans hb2).trans hb3⟩

set_option maxHeartbeats 2000000 in
set_option maxRecDepth 100000 in
theorem value_any (B b m : Nat) (l : List UInt8) (d : Nat) (s : ByteArray) (es : List Tree) (v : Value) (w : World) (hP : PageAt B b l d w) (hK : Kids 0 B w (fun v' t' => ERep 0 B w m v' t') v es) (hV : Vars B w) (hd : d <= 1000000) (hlen : l.length + (valueT m d (bys s) es).length <= 70368744177664) :
    Calls Tryz.prog 79 #[.pointer (some ⟨b, 0, none⟩), .string s, v] w (Wrote B b l d w (valueT m d (bys s) es)) := by
  have HT : Hid (l ++ valueT m d (bys s) es = l ++ tabs d ++ bys s ++ epart m es 0 0 ++ bys ⟨#[59, 10]⟩) := by show _ = _; simp [valueT, bys]
  have hl : (l ++ valueT m d (bys s) es).length <= 70368744177664 := by simpa using hlen
  rw [HT.out] at hl
  simp only [List.length_append, tabs_len, bys_length] at hl
  have e2 : (ByteArray.mk #[59, 10]).size = 2 := rfl
  rw [e2] at hl
  go_enter Tryz.func79, Tryz.ntmps79
  go_wp2_with (go_at_call 50; refine (indent_any B b l d _ hP hd (by omega)).mono ?_; rintro e w1 ⟨rfl, hP1, hb1⟩)
  go_wp2_with (go_at_call 48; refine (writeString_any B b _ d s _ hP1 (by simp only [List.length_append, tabs_len]; omega)).mono ?_; rintro e w2 ⟨rfl, hP2, hb2⟩)
  have hb12 := hb1.trans hb2
  go_wp2_with (go_at_call 81; refine (part_of (expr_all m) B b _ d es v 0 0 _ hP2.page (hK.on hb12.1) (hV.on hb12.1) (by omega) (by omega) (by simp only [List.length_append, tabs_len, bys_length]; omega)).mono ?_; rintro e w3 ⟨rfl, hP3, hb3⟩)
  go_wp2_with (go_at_call 48; refine (writeString_any B b _ d ⟨#[59, 10]⟩ _ hP3 (by simp only [List.length_append, tabs_len, bys_length, e2]; omega)).mono ?_; rintro e w4 ⟨rfl, hP4, hb4⟩)
  go_end0
  exact ⟨rfl, by rw [HT.out]; exact hP4.page, (hb12.trans hb3).trans hb4⟩
def Stms (lo B : Nat) (w : World) (R : Value -> Stm -> Prop) (v : Value) (ss : List Stm) : Prop :=
  ∃ ao cap, v = .slice ao ss.length cap /\ ss.length <= 4294967296 /\ ∀ i s, ss[i]? = some s -> ∃ g off c0 c1 c2 c3 c4 c5 c6, ao = some ⟨g, off, none⟩ /\ lo <= g /\ g < B /\ (∃ cs fr, w.heap[g]? = some (.cells cs 60 fr) /\ fr = (0, 0) /\ off = 0) /\
    w.cell? ⟨g, off + i * 7, none⟩ = some c0 /\ w.cell? ⟨g, off + i * 7 + 1, none⟩ = some c1 /\ w.cell? ⟨g, off + i * 7 + 2, none⟩ = some c2 /\ w.cell? ⟨g, off + i * 7 + 3, none⟩ = some c3 /\ w.cell? ⟨g, off + i * 7 + 4, none⟩ = some c4 /\ w.cell? ⟨g, off + i * 7 + 5, none⟩ = some c5 /\ w.cell? ⟨g, off + i * 7 + 6, none⟩ = some c6 /\
    R (.agg #[c0, c1, c2, c3, c4, c5, c6]) s

def SRep (lo B : Nat) (w : World) (m : Nat) : Nat -> Value -> Stm -> Prop
  | 0, _, _ => False
  | n + 1, v, s => -9223372036854775808 <= s.count /\ s.count <= 9223372036854775807 /\ s.name.size <= 35184372088832 /\ ∃ eao ecap bao bcap lao lcap, v = .agg #[.int .i64 s.kind, .string s.name, .slice eao s.exprs.length ecap, .int .i64 s.count, .slice bao s.body.length bcap, .slice lao s.els.length lcap, .int .i64 s.at_] /\
      Kids lo B w (fun v' t' => ERep lo B w m v' t') (.slice eao s.exprs.length ecap) s.exprs /\ Stms lo B w (fun v' s' => SRep lo B w m n v' s') (.slice bao s.body.length bcap) s.body /\ Stms lo B w (fun v' s' => SRep lo B w m n v' s') (.slice lao s.els.length lcap) s.els

def Same45 (lo B : Nat) (w w' : World) : Prop := ∀ g cs fr, lo <= g -> g < B -> w.heap[g]? = some (.cells cs 60 fr) -> w'.heap[g]? = some (.cells cs 60 fr)
theorem Same45.of_below {lo B : Nat} {w w' : World} (hb : Below B w w') : Same45 lo B w w' := fun g cs fr _ hg h => (hb.block g hg).trans h
theorem Stms.carry {lo lo' B B' : Nat} {w w' : World} {R R' : Value -> Stm -> Prop} {v : Value} {ss : List Stm} (h : Stms lo B w R v ss) (hlo : lo' <= lo) (hB : B <= B') (hb : Same45 lo B w w') (hR : ∀ v k, R v k -> R' v k) : Stms lo' B' w' R' v ss := by
  obtain ⟨ao, cap, rfl, hl, h⟩ := h
  refine ⟨ao, cap, rfl, hl, fun i k hk => ?_⟩
  obtain ⟨g, off, c0, c1, c2, c3, c4, c5, c6, e, hgl, hg, ⟨cs, fr, hc, hz⟩, h0, h1, h2, h3, h4, h5, h6, hr⟩ := h i k hk
  have hc' := hb g cs fr hgl hg hc
  have key : ∀ o, w'.cell? ⟨g, o, none⟩ = w.cell? ⟨g, o, none⟩ := fun o => World.cell?_of_block (by rw [hc', hc])
  exact ⟨g, off, c0, c1, c2, c3, c4, c5, c6, e, by omega, by omega, ⟨cs, fr, hc', hz⟩, (key _).trans h0, (key _).trans h1, (key _).trans h2, (key _).trans h3, (key _).trans h4, (key _).trans h5, (key _).trans h6, hR _ _ hr⟩
theorem SRep.carry {lo lo' B B' m : Nat} {w w' : World} (hlo : lo' <= lo) (hB : B <= B') (h35 : Same35 lo B w w') (h45 : Same45 lo B w w') : ∀ {n : Nat} {v : Value} {s : Stm}, SRep lo B w m n v s -> SRep lo' B' w' m n v s
  | 0, _, _, h => h.elim
  | n + 1, v, s, ⟨h1, h2, hn, eao, ecap, bao, bcap, lao, lcap, h3, h4, h5, h6⟩ =>
    ⟨h1, h2, hn, eao, ecap, bao, bcap, lao, lcap, h3, h4.carry hlo hB h35 fun _ _ hr => ERep.carry hlo hB h35 hr, h5.carry hlo hB h45 fun _ _ hr => SRep.carry hlo hB h35 h45 hr, h6.carry hlo hB h45 fun _ _ hr => SRep.carry hlo hB h35 h45 hr⟩
theorem SRep.on {lo B m n : Nat} {w w' : World} {v : Value} {s : Stm} (h : SRep lo B w m n v s) (hb : Below B w w') : SRep lo B w' m n v s := h.carry (Nat.le_refl _) (Nat.le_refl _) (Same35.of_below hb) (Same45.of_below hb)
theorem Stms.on {lo B m n : Nat} {w w' : World} {v : Value} {ss : List Stm} (h : Stms lo B w (fun v' s' => SRep lo B w m n v' s') v ss) (hb : Below B w w') : Stms lo B w' (fun v' s' => SRep lo B w' m n v' s') v ss :=
  h.carry (Nat.le_refl _) (Nat.le_refl _) (Same45.of_below hb) fun _ _ hr => hr.on hb

def StmtC (m n : Nat) : Prop := ∀ (B b : Nat) (l : List UInt8) (d : Nat) (s : Stm) (v : Value) (w : World), PageAt B b l d w -> SRep 0 B w m n v s -> Vars B w -> d + n <= 1000000 -> l.length + (stext m n d s).length <= 70368744177664 ->
    Calls Tryz.prog 52 #[.pointer (some ⟨b, 0, none⟩), v] w (Wrote B b l d w (stext m n d s))

theorem PageAt.deepen {B b : Nat} {l : List UInt8} {d : Int} {w : World} (h : PageAt B b l d w) (d' : Int) : PageAt B b l d' (w.setCell ⟨b, 2, none⟩ (.int .i64 d')) := by
  obtain ⟨h1, p, v, h2, h3, h4, h5⟩ := h
  refine ⟨h1, p, v, ?_, h3, ?_, h5⟩
  · simp [World.setCell, Array.getElem?_modify, h2]
  · exact h4.kept (row := some b) ⟨rfl, rfl, rfl, by simp [World.setCell], fun k _ hk => Below.heap_setCell _ _ _ _ (fun e => hk (by simp [e]))⟩ (Or.inr h5)
theorem deep_free {B b : Nat} {l : List UInt8} {d : Int} {w : World} (h : PageAt B b l d w) : w.frozen? ⟨b, 2, none⟩ = false := by
  obtain ⟨_, p, v, hb, _⟩ := h
  exact Lib.frozen_of_heap hb 2
theorem btext_take (m n d : Nat) (ss : List Stm) (k : Nat) (s : Stm) (h : ss[k]? = some s) : btext m n d (ss.take (k + 1)) = btext m n d (ss.take k) ++ stext m n d s := by
  have e : ss.take (k + 1) = ss.take k ++ [s] := by
    rw [List.take_add_one, h]; rfl
  simp [btext, e]
theorem btext_le (m n d : Nat) (ss : List Stm) (k : Nat) : (btext m n d (ss.take k)).length <= (btext m n d ss).length := by
  have : btext m n d ss = btext m n d (ss.take k) ++ btext m n d (ss.drop k) := by
    simp only [btext, <- List.flatten_append, <- List.map_append, List.take_append_drop]
  rw [this, List.length_append]; omega
theorem stmt_cells {w : World} {k : Nat} {x0 x1 x2 x3 x4 x5 x6 : Value} (h : w.heap[k]? = some (.cells #[x0, x1, x2, x3, x4, x5, x6] 60 (0, 0))) :
    w.cell? ⟨k, 0, none⟩ = some x0 /\ w.cell? ⟨k, 1, none⟩ = some x1 /\ w.cell? ⟨k, 2, none⟩ = some x2 /\ w.cell? ⟨k, 3, none⟩ = some x3 /\ w.cell? ⟨k, 4, none⟩ = some x4 /\ w.cell? ⟨k, 5, none⟩ = some x5 /\ w.cell? ⟨k, 6, none⟩ = some x6 := by
  refine ⟨?_, ?_, ?_, ?_, ?_, ?_, ?_⟩ <;> (rw [Lib.cell_of_heap h]; rfl)

set_option maxHeartbeats 2000000 in
set_option maxRecDepth 100000 in
theorem block_of {m n : Nat} (ih : StmtC m n) (B b : Nat) (l : List UInt8) (d : Nat) (ss : List Stm) (v : Value) (w : World) (hP : PageAt B b l d w) (hS : Stms 0 B w (fun v' s' => SRep 0 B w m n v' s') v ss) (hV : Vars B w) (hd : d + 1 + n <= 1000000)
    (hlen : l.length + (btext m n (d + 1) ss).length <= 70368744177664) :
    Calls Tryz.prog 29 #[.pointer (some ⟨b, 0, none⟩), v] w (Wrote B b l d w (btext m n (d + 1) ss)) := by
  have hB := hP.1
  have hc := deep_cell hP
  have hf := deep_free hP
  have HS := Lib.hid hS
  obtain ⟨ao, cap, rfl, hkl, _⟩ := hS
  have hPd : PageAt B b l ((d : Int) + 1) (w.setCell ⟨b, 2, none⟩ (.int .i64 ((d : Int) + 1))) := hP.deepen _
  have hSd : Stay B b w (w.setCell ⟨b, 2, none⟩ (.int .i64 ((d : Int) + 1))) := (Stay.refl _ _ _).set hB 2 _
  go_enter Tryz.func29, Tryz.ntmps29
  go_wp2
  go_loopw [15] (fun i wr => ∃ k : Nat, k <= ss.length /\ i = .int .i64 k /\ PageAt B b (l ++ btext m n (d + 1) (ss.take k)) ((d : Int) + 1) wr /\ Stay B b w wr) (fun i _ => ss.length - (intOf i).toNat)
  case atStart => exact ⟨0, Nat.zero_le _, rfl, by simpa [btext] using hPd, hSd⟩
  case round =>
    obtain ⟨k, hk, rfl, hPr, hSr⟩ := hrel
    have hBr := hPr.base
    by_cases hlt : k < ss.length
    · obtain ⟨s, hs⟩ : ∃ s, ss[k]? = some s := ⟨ss[k], by simp [hlt]⟩
      obtain ⟨ao', cap', e, _, hK⟩ := HS.out.on hSr.1
      cases e
      obtain ⟨g, off, c0, c1, c2, c3, c4, c5, c6, rfl, _, hg, _, h0, h1, h2, h3, h4, h5, h6, hr⟩ := hK k s hs
      have HT := Lib.hid (btext_take m n (d + 1) ss k s hs)
      have hle := btext_le m n (d + 1) ss (k + 1)
      rw [HT.out, List.length_append] at hle
      have hr0 := hr
      cases n with
      | zero => exact hr.elim
      | succ n =>
      obtain ⟨hc1, hc2, hnm, eao, ecap, bao, bcap, lao, lcap, hv, _, _, _⟩ := hr
      simp only [Value.agg.injEq, Array.mk.injEq, List.cons.injEq, and_true] at hv
      obtain ⟨rfl, rfl, rfl, rfl, rfl, rfl, rfl⟩ := hv
      have Hr0 := Lib.hid hr0
      clear hK hs hr0
      have hA := (Stay.refl B b wr).alloc hBr (.cells #[.int .i64 s.kind, .string s.name, .slice eao s.exprs.length ecap, .int .i64 s.count, .slice bao s.body.length bcap, .slice lao s.els.length lcap, .int .i64 s.at_] 60)
      go_wp2_with (go_at_call 52; refine (ih B b _ (d + 1) s _ _ (hPr.alloc _) (Hr0.out.on hA.1) ((hV.on hSr.1).on hA.1) (by omega) (by simp only [List.length_append]; omega)).mono ?_; rintro e w1 ⟨rfl, hP1, hb1⟩)
      go_roundw
      case rel => exact ⟨k + 1, by omega, by go_num, by rw [HT.out, <- List.append_assoc]; exact hP1, hSr.trans (hA.trans hb1)⟩
      case measure => simp [intOf]; omega
    · obtain rfl : k = ss.length := by omega
      rw [List.take_length] at hPr
      have hcr := deep_cell hPr
      have hfr := deep_free hPr
      go_wp2
      go_end0
      refine ⟨rfl, ?_, hSr.set hB 2 _⟩
      exact hPr.deepen _
theorem bys_cat (a b : ByteArray) : bys (a ++ b) = bys a ++ bys b := by simp [bys, ByteArray.data_append]
theorem skind_cases (k : Int) : k = 0 \/ k = 1 \/ k = 2 \/ k = 3 \/ k = 4 \/ k = 5 \/ k = 6 \/ k = 7 \/ k = 8 \/ (k ≠ 0 /\ k ≠ 1 /\ k ≠ 2 /\ k ≠ 3 /\ k ≠ 4 /\ k ≠ 5 /\ k ≠ 6 /\ k ≠ 7 /\ k ≠ 8) := by omega
theorem line_at (B b : Nat) (l : List UInt8) (d : Nat) (s : ByteArray) (x : List UInt8) (hx : bys s = x) (w : World) (hP : PageAt B b l d w) (hd : d <= 1000000) (hlen : l.length + (lineT d x).length <= 70368744177664) :
    Calls Tryz.prog 28 #[.pointer (some ⟨b, 0, none⟩), .string s] w (Wrote B b l d w (lineT d x)) := by
  subst hx
  exact line_any B b l d s w hP hd hlen
theorem value_at (B b m : Nat) (l : List UInt8) (d : Nat) (s : ByteArray) (x : List UInt8) (hx : bys s = x) (es : List Tree) (v : Value) (w : World) (hP : PageAt B b l d w) (hK : Kids 0 B w (fun v' t' => ERep 0 B w m v' t') v es) (hV : Vars B w) (hd : d <= 1000000) (hlen : l.length + (valueT m d x es).length <= 70368744177664) :
    Calls Tryz.prog 79 #[.pointer (some ⟨b, 0, none⟩), .string s, v] w (Wrote B b l d w (valueT m d x es)) := by
  subst hx
  exact value_any B b m l d s es v w hP hK hV hd hlen

set_option maxHeartbeats 4000000 in
set_option maxRecDepth 100000 in
theorem choice_of {m n : Nat} (ih : StmtC m n) (B b : Nat) (l : List UInt8) (d : Nat) (s : Stm) (v : Value) (w : World) (hP : PageAt B b l d w) (hE : SRep 0 B w m (n + 1) v s) (hV : Vars B w) (hd : d + (n + 1) <= 1000000) (hlen : l.length + (choiceT m n d s).length <= 70368744177664) :
    Calls Tryz.prog 82 #[.pointer (some ⟨b, 0, none⟩), v] w (Wrote B b l d w (choiceT m n d s)) := by
  have hE0 := hE
  obtain ⟨hc1, hc2, hnm, eao, ecap, bao, bcap, lao, lcap, rfl, hK, hSb, hSl⟩ := hE
  have hBw := hP.base
  have hlt := hP.lt
  have HB : Hid (w.heap.size ≠ b) := by show _ ≠ _; omega
  have hA : Stay B b w (w.alloc (.cells #[.int .i64 s.kind, .string s.name, .slice eao s.exprs.length ecap, .int .i64 s.count, .slice bao s.body.length bcap, .slice lao s.els.length lcap, .int .i64 s.at_] 60)) := (Stay.refl _ _ _).alloc hBw _
  have HBox := Lib.hid (show (w.alloc (.cells #[.int .i64 s.kind, .string s.name, .slice eao s.exprs.length ecap, .int .i64 s.count, .slice bao s.body.length bcap, .slice lao s.els.length lcap, .int .i64 s.at_] 60)).heap[w.heap.size]? = some (.cells #[.int .i64 s.kind, .string s.name, .slice eao s.exprs.length ecap, .int .i64 s.count, .slice bao s.body.length bcap, .slice lao s.els.length lcap, .int .i64 s.at_] 60 (0, 0)) from heap_alloc_new w _)
  have hPA := hP.alloc (.cells #[.int .i64 s.kind, .string s.name, .slice eao s.exprs.length ecap, .int .i64 s.count, .slice bao s.body.length bcap, .slice lao s.els.length lcap, .int .i64 s.at_] 60)
  have e4 : (ByteArray.mk #[105, 102, 32, 40]).size = 4 := rfl
  have e5 : (ByteArray.mk #[41, 32, 123, 10]).size = 4 := rfl
  have hl : (l ++ choiceT m n d s).length <= 70368744177664 := by simpa using hlen
  obtain ⟨mid, hmid⟩ : ∃ x, x = (if s.els.length = 0 then [] else lineT d sElse ++ btext m n (d + 1) s.els) := ⟨_, rfl⟩
  have HT : Hid (l ++ choiceT m n d s = l ++ tabs d ++ bys ⟨#[105, 102, 32, 40]⟩ ++ epart m s.exprs 0 0 ++ bys ⟨#[41, 32, 123, 10]⟩ ++ btext m n (d + 1) s.body ++ mid ++ lineT d [125]) := by show _ = _; rw [hmid]; simp [choiceT, sIf, sThen, bys]
  rw [HT.out] at hl
  simp only [List.length_append, tabs_len, bys_length, e4, e5] at hl
  have hl1 : (lineT d [125]).length = d + 2 := by simp [lineT, tabs_len]
  rw [hl1] at hl
  by_cases hel : s.els.length = 0
  · rw [if_pos hel] at hmid
    subst hmid
    simp only [List.length_nil] at hl
    rw [hel] at hA hPA HBox ⊢
    go_enter Tryz.func82, Tryz.ntmps82
    go_wp2_with (go_at_call 50; refine (indent_any B b l d _ hPA (by omega) (by omega)).mono ?_; rintro e w1 ⟨rfl, hP1, hb1⟩)
    go_wp2_with (go_at_call 48; refine (writeString_any B b _ d ⟨#[105, 102, 32, 40]⟩ _ hP1 (by simp only [List.length_append, tabs_len, e4]; omega)).mono ?_; rintro e w2 ⟨rfl, hP2, hb2⟩; have hb12 := hb1.trans hb2; have hbx2 := hb12.2 _ _ _ _ HB.out (by decide) HBox.out; obtain ⟨a0, a1, a2, a3, a4, a5, a6⟩ := stmt_cells hbx2)
    have hb02 := hA.trans hb12
    go_wp2_with (go_at_call 81; refine (part_of (expr_all m) B b _ d s.exprs _ 0 0 _ hP2.page (hK.on hb02.1) (hV.on hb02.1) (by omega) (by omega) (by simp only [List.length_append, tabs_len, bys_length, e4, e5]; omega)).mono ?_; rintro e w3 ⟨rfl, hP3, hb3⟩)
    go_wp2_with (go_at_call 48; refine (writeString_any B b _ d ⟨#[41, 32, 123, 10]⟩ _ hP3 (by simp only [List.length_append, tabs_len, bys_length, e4, e5]; omega)).mono ?_; rintro e w4 ⟨rfl, hP4, hb4⟩; have hb14 := (hb12.trans hb3).trans hb4; clear a0 a1 a2 a3 a4 a5 a6; have hbx4 := hb14.2 _ _ _ _ HB.out (by decide) HBox.out; obtain ⟨a0, a1, a2, a3, a4, a5, a6⟩ := stmt_cells hbx4)
    have hb04 := hA.trans hb14
    go_wp2_with (go_at_call 29; refine (block_of ih B b _ d s.body _ _ hP4.page (hSb.on hb04.1) (hV.on hb04.1) (by omega) (by simp only [List.length_append, tabs_len, bys_length, e4, e5]; omega)).mono ?_; rintro e w5 ⟨rfl, hP5, hb5⟩; have hb15 := hb14.trans hb5; clear a0 a1 a2 a3 a4 a5 a6; have hbx5 := hb15.2 _ _ _ _ HB.out (by decide) HBox.out; obtain ⟨a0, a1, a2, a3, a4, a5, a6⟩ := stmt_cells hbx5)
    have hb05 := hA.trans hb15
    go_wp2_with (go_at_call 28; refine (line_at B b _ d ⟨#[125]⟩ [125] rfl _ hP5 (by omega) (by simp only [List.length_append, tabs_len, bys_length, e4, e5, hl1]; omega)).mono ?_; rintro e w6 ⟨rfl, hP6, hb6⟩)
    go_end0
    exact ⟨rfl, by rw [HT.out, List.append_nil]; exact hP6, hb05.trans hb6⟩
  · rw [if_neg hel] at hmid
    subst hmid
    have hl2 : (lineT d sElse).length = d + 9 := by simp [lineT, tabs_len, sElse]
    simp only [List.length_append, hl2] at hl
    have helI : (0 : Int) < (s.els.length : Int) := by omega
    go_enter Tryz.func82, Tryz.ntmps82
    go_wp2_with (go_at_call 50; refine (indent_any B b l d _ hPA (by omega) (by omega)).mono ?_; rintro e w1 ⟨rfl, hP1, hb1⟩)
    go_wp2_with (go_at_call 48; refine (writeString_any B b _ d ⟨#[105, 102, 32, 40]⟩ _ hP1 (by simp only [List.length_append, tabs_len, e4]; omega)).mono ?_; rintro e w2 ⟨rfl, hP2, hb2⟩; have hb12 := hb1.trans hb2; have hbx2 := hb12.2 _ _ _ _ HB.out (by decide) HBox.out; obtain ⟨a0, a1, a2, a3, a4, a5, a6⟩ := stmt_cells hbx2)
    have hb02 := hA.trans hb12
    go_wp2_with (go_at_call 81; refine (part_of (expr_all m) B b _ d s.exprs _ 0 0 _ hP2.page (hK.on hb02.1) (hV.on hb02.1) (by omega) (by omega) (by simp only [List.length_append, tabs_len, bys_length, e4, e5]; omega)).mono ?_; rintro e w3 ⟨rfl, hP3, hb3⟩)
    go_wp2_with (go_at_call 48; refine (writeString_any B b _ d ⟨#[41, 32, 123, 10]⟩ _ hP3 (by simp only [List.length_append, tabs_len, bys_length, e4, e5]; omega)).mono ?_; rintro e w4 ⟨rfl, hP4, hb4⟩; have hb14 := (hb12.trans hb3).trans hb4; clear a0 a1 a2 a3 a4 a5 a6; have hbx4 := hb14.2 _ _ _ _ HB.out (by decide) HBox.out; obtain ⟨a0, a1, a2, a3, a4, a5, a6⟩ := stmt_cells hbx4)
    have hb04 := hA.trans hb14
    go_wp2_with (go_at_call 29; refine (block_of ih B b _ d s.body _ _ hP4.page (hSb.on hb04.1) (hV.on hb04.1) (by omega) (by simp only [List.length_append, tabs_len, bys_length, e4, e5]; omega)).mono ?_; rintro e w5 ⟨rfl, hP5, hb5⟩; have hb15 := hb14.trans hb5; clear a0 a1 a2 a3 a4 a5 a6; have hbx5 := hb15.2 _ _ _ _ HB.out (by decide) HBox.out; obtain ⟨a0, a1, a2, a3, a4, a5, a6⟩ := stmt_cells hbx5)
    have hb05 := hA.trans hb15
    go_wp2_with (first | (go_at_call 28; refine (line_at B b _ d ⟨#[125, 32, 101, 108, 115, 101, 32, 123]⟩ sElse rfl _ hP5 (by omega) (by simp only [List.length_append, tabs_len, bys_length, e4, e5, hl2]; omega)).mono ?_; rintro e w6 ⟨rfl, hP6, hb6⟩; have hb16 := hb15.trans hb6; clear a0 a1 a2 a3 a4 a5 a6; have hbx6 := hb16.2 _ _ _ _ HB.out (by decide) HBox.out; obtain ⟨a0, a1, a2, a3, a4, a5, a6⟩ := stmt_cells hbx6))
    have hb06 := hb05.trans hb6
    go_wp2_with (go_at_call 29; refine (block_of ih B b _ d s.els _ _ hP6 (hSl.on hb06.1) (hV.on hb06.1) (by omega) (by simp only [List.length_append, tabs_len, bys_length, e4, e5, hl2]; omega)).mono ?_; rintro e w7 ⟨rfl, hP7, hb7⟩)
    go_wp2_with (go_at_call 28; refine (line_at B b _ d ⟨#[125]⟩ [125] rfl _ hP7 (by omega) (by simp only [List.length_append, tabs_len, bys_length, e4, e5, hl1, hl2]; omega)).mono ?_; rintro e w8 ⟨rfl, hP8, hb8⟩)
    go_end0
    exact ⟨rfl, by rw [HT.out]; simpa using hP8, (hb06.trans hb7).trans hb8⟩

set_option maxHeartbeats 4000000 in
set_option maxRecDepth 100000 in
theorem stmt_step {m n : Nat} (ih : StmtC m n) : StmtC m (n + 1) := by
  intro B b l d s v w hP hE hV hd hlen
  have hE0 := hE
  obtain ⟨hc1, hc2, hnm, eao, ecap, bao, bcap, lao, lcap, rfl, hK, hSb, hSl⟩ := hE
  have hBw := hP.base
  have hlt := hP.lt
  have HB : Hid (w.heap.size ≠ b) := by show _ ≠ _; omega
  have hA : Stay B b w (w.alloc (.cells #[.int .i64 s.kind, .string s.name, .slice eao s.exprs.length ecap, .int .i64 s.count, .slice bao s.body.length bcap, .slice lao s.els.length lcap, .int .i64 s.at_] 60)) := (Stay.refl _ _ _).alloc hBw _
  have HBox := Lib.hid (show (w.alloc (.cells #[.int .i64 s.kind, .string s.name, .slice eao s.exprs.length ecap, .int .i64 s.count, .slice bao s.body.length bcap, .slice lao s.els.length lcap, .int .i64 s.at_] 60)).heap[w.heap.size]? = some (.cells #[.int .i64 s.kind, .string s.name, .slice eao s.exprs.length ecap, .int .i64 s.count, .slice bao s.body.length bcap, .slice lao s.els.length lcap, .int .i64 s.at_] 60 (0, 0)) from heap_alloc_new w _)
  have hPA := hP.alloc (.cells #[.int .i64 s.kind, .string s.name, .slice eao s.exprs.length ecap, .int .i64 s.count, .slice bao s.body.length bcap, .slice lao s.els.length lcap, .int .i64 s.at_] 60)
  rcases skind_cases s.kind with hk | hk | hk | hk | hk | hk | hk | hk | hk | ⟨k0, k1, k2, k3, k4, k5, k6, k7, k8⟩
  · rw [stext_0 m n d s hk] at hlen ⊢
    rw [hk] at hA hPA HBox ⊢
    obtain ⟨X, hX⟩ : ∃ X : ByteArray, ⟨#[108, 111, 99, 97, 108, 32]⟩ ++ s.name ++ ⟨#[32, 61, 32]⟩ = X := ⟨_, rfl⟩
    have HX : Hid (bys X = sLocal ++ bys s.name ++ sIs) := by show _ = _; rw [<- hX]; simp only [bys_cat]; rfl
    go_enter Tryz.func52, Tryz.ntmps52
    go_wp2_with (go_at_call 79; refine (value_at B b m l d X _ HX.out s.exprs _ _ hPA (hK.on hA.1) (hV.on hA.1) (by omega) hlen).mono ?_; rintro e w1 ⟨rfl, hP1, hb1⟩)
    go_end0
    exact ⟨rfl, hP1, hA.trans hb1⟩
  · rw [stext_1 m n d s hk] at hlen ⊢
    rw [hk] at hA hPA HBox ⊢
    obtain ⟨X, hX⟩ : ∃ X : ByteArray, s.name ++ ⟨#[32, 61, 32]⟩ = X := ⟨_, rfl⟩
    have HX : Hid (bys X = bys s.name ++ sIs) := by show _ = _; rw [<- hX]; simp only [bys_cat]; rfl
    go_enter Tryz.func52, Tryz.ntmps52
    go_wp2_with (go_at_call 79; refine (value_at B b m l d X _ HX.out s.exprs _ _ hPA (hK.on hA.1) (hV.on hA.1) (by omega) hlen).mono ?_; rintro e w1 ⟨rfl, hP1, hb1⟩)
    go_end0
    exact ⟨rfl, hP1, hA.trans hb1⟩
  · rw [stext_2 m n d s hk] at hlen ⊢
    rw [hk] at hA hPA HBox ⊢
    have e3 : (ByteArray.mk #[32, 61, 32]).size = 3 := rfl
    have e2 : (ByteArray.mk #[59, 10]).size = 2 := rfl
    have HT : Hid (l ++ (tabs d ++ cellText m s.name s.exprs ++ sIs ++ epart m s.exprs 1 0 ++ [59, 10]) = l ++ tabs d ++ cellText m s.name s.exprs ++ bys ⟨#[32, 61, 32]⟩ ++ epart m s.exprs 1 0 ++ bys ⟨#[59, 10]⟩) := by show _ = _; simp [sIs, bys]
    have hl : (l ++ (tabs d ++ cellText m s.name s.exprs ++ sIs ++ epart m s.exprs 1 0 ++ [59, 10])).length <= 70368744177664 := by rw [List.length_append]; exact hlen
    rw [HT.out] at hl
    simp only [List.length_append, tabs_len, bys_length, e3, e2] at hl
    obtain ⟨Z, hZ⟩ : ∃ Z, tabs d ++ cellText m s.name s.exprs ++ sIs ++ epart m s.exprs 1 0 ++ [59, 10] = Z := ⟨_, rfl⟩
    rw [hZ] at HT hlen ⊢
    clear hZ hlen
    go_enter Tryz.func52, Tryz.ntmps52
    go_wp2_with (go_at_call 50; refine (indent_any B b l d _ hPA (by omega) (by omega)).mono ?_; rintro e w1 ⟨rfl, hP1, hb1⟩; have hbx1 := hb1.2 _ _ _ _ HB.out (by decide) HBox.out; obtain ⟨a0, a1, a2, a3, a4, a5, a6⟩ := stmt_cells hbx1)
    have hb01 := hA.trans hb1
    go_wp2_with (go_at_call 80; refine (cell_of (expr_all m) B b _ d s.name s.exprs _ _ hP1 (hK.on hb01.1) (hV.on hb01.1) (by simp only [List.length_append, tabs_len]; omega)).mono ?_; rintro e w2 ⟨rfl, hP2, hb2⟩)
    go_wp2_with (go_at_call 48; refine (writeString_any B b _ d ⟨#[32, 61, 32]⟩ _ hP2 (by simp only [List.length_append, tabs_len, e3]; omega)).mono ?_; rintro e w3 ⟨rfl, hP3, hb3⟩; have hb13 := (hb1.trans hb2).trans hb3; clear a0 a1 a2 a3 a4 a5 a6; have hbx3 := hb13.2 _ _ _ _ HB.out (by decide) HBox.out; obtain ⟨a0, a1, a2, a3, a4, a5, a6⟩ := stmt_cells hbx3)
    have hb03 := hA.trans hb13
    go_wp2_with (go_at_call 81; refine (part_of (expr_all m) B b _ d s.exprs _ 1 0 _ hP3.page (hK.on hb03.1) (hV.on hb03.1) (by omega) (by omega) (by simp only [List.length_append, tabs_len, bys_length, e3]; omega)).mono ?_; rintro e w4 ⟨rfl, hP4, hb4⟩)
    go_wp2_with (go_at_call 48; refine (writeString_any B b _ d ⟨#[59, 10]⟩ _ hP4 (by simp only [List.length_append, tabs_len, bys_length, e3, e2]; omega)).mono ?_; rintro e w5 ⟨rfl, hP5, hb5⟩)
    go_end0
    exact ⟨rfl, by rw [HT.out]; exact hP5.page, (hb03.trans hb4).trans hb5⟩
  · rw [stext_3 m n d s hk] at hlen ⊢
    have Hc := choice_of ih B b l d s _ _ hPA (hE0.on hA.1) (hV.on hA.1) hd hlen
    rw [hk] at hA hPA HBox Hc ⊢
    go_enter Tryz.func52, Tryz.ntmps52
    go_wp2_with (go_at_call 82; refine Hc.mono ?_; rintro e w1 ⟨rfl, hP1, hb1⟩)
    go_end0
    exact ⟨rfl, hP1, hA.trans hb1⟩
  · rw [stext_4 m n d s hk] at hlen ⊢
    rw [hk] at hA hPA HBox ⊢
    obtain ⟨X1, hX1⟩ : ∃ X : ByteArray, ⟨#[108, 111, 111, 112, 32]⟩ ++ s.name ++ ⟨#[32]⟩ = X := ⟨_, rfl⟩
    have hszX : X1.size = s.name.size + 6 := by rw [<- hX1]; simp [ByteArray.size_append]; have e1 : (ByteArray.mk #[108, 111, 111, 112, 32]).size = 5 := rfl; have e2 : (ByteArray.mk #[32]).size = 1 := rfl; omega
    obtain ⟨I, hI⟩ : ∃ I, bstr (Lib.itoa s.count) = I := ⟨_, rfl⟩
    have hszI : I.size <= 21 := by rw [<- hI, bstr_size]; exact Lib.itoa_length_le s.count hc1 hc2
    obtain ⟨X, hX⟩ : ∃ X : ByteArray, X1 ++ I ++ ⟨#[32, 123]⟩ = X := ⟨_, rfl⟩
    have HX : Hid (bys X = sLoop ++ bys s.name ++ [32] ++ Lib.itoa s.count ++ [32, 123]) := by show _ = _; rw [<- hX, <- hX1, <- hI]; simp only [bys_cat]; rfl
    have Hit := fun w' (h : Vars B w') => itoa_any s.count hc1 hc2 B w' h
    rw [hI] at Hit
    clear hI
    obtain ⟨Z, hZ⟩ : ∃ Z, lineT d (sLoop ++ bys s.name ++ [32] ++ Lib.itoa s.count ++ [32, 123]) ++ btext m n (d + 1) s.body ++ lineT d [125] = Z := ⟨_, rfl⟩
    have HZ := Lib.hid hZ
    rw [hZ] at hlen ⊢
    rw [<- hZ] at hlen
    simp only [List.length_append] at hlen
    clear hZ
    go_enter Tryz.func52, Tryz.ntmps52
    go_wp2
    go_region_with (first
      | (go_at_call 49; refine (Hit _ (hV.on hA.drew.1)).mono ?_; rintro e w1 ⟨rfl, hb1⟩; have hP1 := hPA.drew.below hb1; have hbx1 := (hb1.block _ (heap_lt HBox.out)).trans HBox.out; obtain ⟨a0, a1, a2, a3, a4, a5, a6⟩ := stmt_cells hbx1)
      | (go_at_call 28; refine (line_at B b l d X _ HX.out _ hP1 (by omega) (by omega)).mono ?_; rintro e w2 ⟨rfl, hP2, hb2⟩; have hbx2 := hb2.2 _ _ _ _ HB.out (by decide) hbx1; clear a0 a1 a2 a3 a4 a5 a6; obtain ⟨a0, a1, a2, a3, a4, a5, a6⟩ := stmt_cells hbx2))
    all_goals (
      have hb02 := (hA.trans (Stay.of_drew hb1 (Nat.le_trans hBw (by simp)))).trans hb2
      go_wp2_with (first
        | (go_at_call 29; refine (block_of ih B b _ d s.body _ _ hP2 (hSb.on hb02.1) (hV.on hb02.1) (by omega) (by rw [List.length_append]; omega)).mono ?_; rintro e w3 ⟨rfl, hP3, hb3⟩))
      go_wp2_with (go_at_call 28; refine (line_at B b _ d ⟨#[125]⟩ [125] rfl _ hP3 (by omega) (by rw [List.length_append, List.length_append]; omega)).mono ?_; rintro e w4 ⟨rfl, hP4, hb4⟩)
      go_end0
      exact ⟨rfl, by rw [<- HZ.out]; simpa using hP4, (hb02.trans hb3).trans hb4⟩)
  · rw [stext_5 m n d s hk] at hlen ⊢
    rw [hk] at hA hPA HBox ⊢
    obtain ⟨X, hX⟩ : ∃ X : ByteArray, ⟨#[116, 97, 107, 101, 32]⟩ ++ s.name ++ ⟨#[59]⟩ = X := ⟨_, rfl⟩
    have HX : Hid (bys X = sTake ++ bys s.name ++ [59]) := by show _ = _; rw [<- hX]; simp only [bys_cat]; rfl
    go_enter Tryz.func52, Tryz.ntmps52
    go_wp2_with (go_at_call 28; refine (line_at B b l d X _ HX.out _ hPA (by omega) hlen).mono ?_; rintro e w1 ⟨rfl, hP1, hb1⟩)
    go_end0
    exact ⟨rfl, hP1, hA.trans hb1⟩
  · rw [stext_6 m n d s hk] at hlen ⊢
    rw [hk] at hA hPA HBox ⊢
    obtain ⟨X, hX⟩ : ∃ X : ByteArray, ⟨#[103, 105, 118, 101, 32]⟩ ++ s.name ++ ⟨#[59]⟩ = X := ⟨_, rfl⟩
    have HX : Hid (bys X = sGive ++ bys s.name ++ [59]) := by show _ = _; rw [<- hX]; simp only [bys_cat]; rfl
    go_enter Tryz.func52, Tryz.ntmps52
    go_wp2_with (go_at_call 28; refine (line_at B b l d X _ HX.out _ hPA (by omega) hlen).mono ?_; rintro e w1 ⟨rfl, hP1, hb1⟩)
    go_end0
    exact ⟨rfl, hP1, hA.trans hb1⟩
  · rw [stext_7 m n d s hk] at hlen ⊢
    rw [hk] at hA hPA HBox ⊢
    obtain ⟨X, hX⟩ : ∃ X : ByteArray, ⟨#[97, 100, 100, 32]⟩ ++ s.name ++ ⟨#[32]⟩ = X := ⟨_, rfl⟩
    have HX : Hid (bys X = sAdd ++ bys s.name ++ [32]) := by show _ = _; rw [<- hX]; simp only [bys_cat]; rfl
    go_enter Tryz.func52, Tryz.ntmps52
    go_wp2_with (go_at_call 79; refine (value_at B b m l d X _ HX.out s.exprs _ _ hPA (hK.on hA.1) (hV.on hA.1) (by omega) hlen).mono ?_; rintro e w1 ⟨rfl, hP1, hb1⟩)
    go_end0
    exact ⟨rfl, hP1, hA.trans hb1⟩
  · rw [stext_8 m n d s hk] at hlen ⊢
    rw [hk] at hA hPA HBox ⊢
    go_enter Tryz.func52, Tryz.ntmps52
    go_wp2_with (go_at_call 28; refine (line_at B b l d ⟨#[102, 101, 110, 99, 101, 59]⟩ sFence rfl _ hPA (by omega) hlen).mono ?_; rintro e w1 ⟨rfl, hP1, hb1⟩)
    go_end0
    exact ⟨rfl, hP1, hA.trans hb1⟩
  · rw [stext_9 m n d s k0 k1 k2 k3 k4 k5 k6 k7 k8] at hlen ⊢
    go_enter Tryz.func52, Tryz.ntmps52
    go_wp2_with (go_at_call 79; refine (value_at B b m l d ⟨#[111, 117, 116, 112, 117, 116, 32]⟩ sOutput rfl s.exprs _ _ hPA (hK.on hA.1) (hV.on hA.1) (by omega) hlen).mono ?_; rintro e w1 ⟨rfl, hP1, hb1⟩)
    go_end0
    exact ⟨rfl, hP1, hA.trans hb1⟩

theorem stmt_all (m : Nat) : ∀ n, StmtC m n
  | 0 => fun B b l d s v w _ hE => hE.elim
  | n + 1 => stmt_step (stmt_all m n)
def dagg (d : Dcl) : Value := .agg #[.bool d.lock, .int .i64 d.label, .string d.name, .int .i64 d.size, .string d.by_, .int .i64 d.at_]
def dfit (d : Dcl) : Prop := -9223372036854775808 <= d.size /\ d.size <= 9223372036854775807 /\ d.name.size <= 35184372088832 /\ d.by_.size <= 35184372088832
theorem decl_cells {w : World} {k : Nat} {x0 x1 x2 x3 x4 x5 : Value} (h : w.heap[k]? = some (.cells #[x0, x1, x2, x3, x4, x5] 68 (0, 0))) :
    w.cell? ⟨k, 0, none⟩ = some x0 /\ w.cell? ⟨k, 1, none⟩ = some x1 /\ w.cell? ⟨k, 2, none⟩ = some x2 /\ w.cell? ⟨k, 3, none⟩ = some x3 /\ w.cell? ⟨k, 4, none⟩ = some x4 /\ w.cell? ⟨k, 5, none⟩ = some x5 := by
  refine ⟨?_, ?_, ?_, ?_, ?_, ?_⟩ <;> (rw [Lib.cell_of_heap h]; rfl)
theorem str_nil (s : ByteArray) (h : s.size ≠ 0) : (s.toList == []) = false := by
  rw [ByteArray.toList_eq, beq_eq_false_iff_ne]
  intro e
  have := bys_length s
  rw [bys, e] at this
  simp at this
  omega
theorem size_zero {s : ByteArray} (h : s.size = 0) : s = ⟨#[]⟩ := by
  have h1 := bys_length s
  rw [h] at h1
  exact bys_inj (List.length_eq_zero_iff.1 h1)
set_option maxHeartbeats 4000000 in
set_option maxRecDepth 100000 in
theorem decl_lock (B b : Nat) (l : List UInt8) (d : Dcl) (w : World) (hP : PageAt B b l 0 w) (hf : dfit d) (hV : Vars B w) (hlen : l.length + (dtext d).length <= 70368744177664) (hl : d.lock = true) :
    Calls Tryz.prog 27 #[.pointer (some ⟨b, 0, none⟩), dagg d] w (Wrote B b l 0 w (dtext d)) := by
  unfold dagg
  rw [hl]
  have ht : dtext d = lineT 0 (sLock ++ bys d.name ++ [59]) := by unfold dtext; rw [if_pos hl]
  rw [ht] at hlen ⊢
  obtain ⟨_, _, hn, _⟩ := hf
  obtain ⟨X, hX⟩ : ∃ X : ByteArray, ⟨#[108, 111, 99, 107, 32]⟩ ++ d.name ++ ⟨#[59]⟩ = X := ⟨_, rfl⟩
  have HX : Hid (bys X = sLock ++ bys d.name ++ [59]) := by show _ = _; rw [<- hX]; simp only [bys_cat]; rfl
  clear hl ht
  have hBw := hP.base
  have hlt := hP.lt
  have HB : Hid (w.heap.size ≠ b) := by show _ ≠ _; omega
  have hA : Stay B b w (w.alloc (.cells #[.bool true, .int .i64 d.label, .string d.name, .int .i64 d.size, .string d.by_, .int .i64 d.at_] 68)) := (Stay.refl _ _ _).alloc hBw _
  have HBox := Lib.hid (show (w.alloc (.cells #[.bool true, .int .i64 d.label, .string d.name, .int .i64 d.size, .string d.by_, .int .i64 d.at_] 68)).heap[w.heap.size]? = some (.cells #[.bool true, .int .i64 d.label, .string d.name, .int .i64 d.size, .string d.by_, .int .i64 d.at_] 68 (0, 0)) from heap_alloc_new w _)
  have hPA := hP.alloc (.cells #[.bool true, .int .i64 d.label, .string d.name, .int .i64 d.size, .string d.by_, .int .i64 d.at_] 68)
  go_enter Tryz.func27, Tryz.ntmps27
  go_wp2_with (go_at_call 28; refine (line_at B b l 0 X _ HX.out _ hPA (by omega) hlen).mono ?_; rintro e w1 ⟨rfl, hP1, hb1⟩)
  go_end0
  exact ⟨rfl, hP1, hA.trans hb1⟩

set_option maxHeartbeats 4000000 in
set_option maxRecDepth 100000 in
theorem decl_000 (B b : Nat) (l : List UInt8) (d : Dcl) (w : World) (hP : PageAt B b l 0 w) (hf : dfit d) (hV : Vars B w) (hlen : l.length + (dtext d).length <= 70368744177664) (hl : d.lock = false) (h0 : d.label = 0) (h1 : ¬ 0 < d.size) (h2 : d.by_.size = 0) :
    Calls Tryz.prog 27 #[.pointer (some ⟨b, 0, none⟩), dagg d] w (Wrote B b l 0 w (dtext d)) := by
  have hbe : dagg d = .agg #[.bool false, .int .i64 0, .string d.name, .int .i64 d.size, .string ⟨#[]⟩, .int .i64 d.at_] := by unfold dagg; rw [hl, h0, size_zero h2]
  rw [hbe]
  have HT : Hid (l ++ dtext d = l ++ bys ⟨#[112, 117, 98, 108, 105, 99, 32]⟩ ++ bys d.name ++ [] ++ [] ++ bys ⟨#[59, 10]⟩) := by show _ = _; unfold dtext; rw [hl, if_neg (by simp), if_pos h0, if_neg h1, if_pos h2]; simp [bys, sPublic, sSecret, sBy]
  have hl2 : (l ++ dtext d).length <= 70368744177664 := by rw [List.length_append]; exact hlen
  rw [HT.out] at hl2
  have e1 : (ByteArray.mk #[112, 117, 98, 108, 105, 99, 32]).size = 7 := rfl
  have e2 : (ByteArray.mk #[59, 10]).size = 2 := rfl
  simp only [List.length_append, List.length_cons, List.length_nil, bys_length, e1, e2] at hl2
  obtain ⟨hs1, hs2, hn, hby⟩ := hf
  clear hbe hl hlen h2 h0
  have hBw := hP.base
  have hlt := hP.lt
  have HB : Hid (w.heap.size ≠ b) := by show _ ≠ _; omega
  have hA : Stay B b w (w.alloc (.cells #[.bool false, .int .i64 0, .string d.name, .int .i64 d.size, .string ⟨#[]⟩, .int .i64 d.at_] 68)) := (Stay.refl _ _ _).alloc hBw _
  have HBox := Lib.hid (show (w.alloc (.cells #[.bool false, .int .i64 0, .string d.name, .int .i64 d.size, .string ⟨#[]⟩, .int .i64 d.at_] 68)).heap[w.heap.size]? = some (.cells #[.bool false, .int .i64 0, .string d.name, .int .i64 d.size, .string ⟨#[]⟩, .int .i64 d.at_] 68 (0, 0)) from heap_alloc_new w _)
  have hPA := hP.alloc (.cells #[.bool false, .int .i64 0, .string d.name, .int .i64 d.size, .string ⟨#[]⟩, .int .i64 d.at_] 68)
  go_enter Tryz.func27, Tryz.ntmps27
  go_wp2_with (go_at_call 48; refine (writeString_any B b l 0 ⟨#[112, 117, 98, 108, 105, 99, 32]⟩ _ hPA (by rw [e1]; omega)).mono ?_; rintro e w1 ⟨rfl, hP1, hb1⟩; have hbx1 := hb1.2 _ _ _ _ HB.out (by decide) HBox.out; obtain ⟨a0, a1, a2, a3, a4, a5⟩ := decl_cells hbx1)
  go_region_with (go_at_call 48; refine (writeString_any B b _ 0 d.name _ hP1.page.drew (by simp only [List.length_append, bys_length, e1]; omega)).mono ?_; rintro e w2 ⟨rfl, hP2, hb2⟩; have hb12 := hb1.drew.trans hb2; clear a0 a1 a2 a3 a4 a5; have hbx2 := hb12.2 _ _ _ _ HB.out (by decide) HBox.out; obtain ⟨a0, a1, a2, a3, a4, a5⟩ := decl_cells hbx2)
  all_goals (go_wp2_with fail)
  all_goals (go_wp2_with (go_at_call 48; refine (writeString_any B b _ 0 ⟨#[59, 10]⟩ _ hP2.page (by simp only [List.length_append, bys_length, e1, e2]; omega)).mono ?_; rintro e w6 ⟨rfl, hP6, hb6⟩))
  all_goals go_end0
  all_goals exact ⟨rfl, by rw [HT.out]; simpa using hP6.page, (hA.trans hb12).trans hb6⟩

set_option maxHeartbeats 4000000 in
set_option maxRecDepth 100000 in
theorem decl_001 (B b : Nat) (l : List UInt8) (d : Dcl) (w : World) (hP : PageAt B b l 0 w) (hf : dfit d) (hV : Vars B w) (hlen : l.length + (dtext d).length <= 70368744177664) (hl : d.lock = false) (h0 : d.label = 0) (h1 : ¬ 0 < d.size) (h2 : d.by_.size ≠ 0) :
    Calls Tryz.prog 27 #[.pointer (some ⟨b, 0, none⟩), dagg d] w (Wrote B b l 0 w (dtext d)) := by
  have hbe : dagg d = .agg #[.bool false, .int .i64 0, .string d.name, .int .i64 d.size, .string d.by_, .int .i64 d.at_] := by unfold dagg; rw [hl, h0]
  rw [hbe]
  have HT : Hid (l ++ dtext d = l ++ bys ⟨#[112, 117, 98, 108, 105, 99, 32]⟩ ++ bys d.name ++ [] ++ (sBy ++ bys d.by_) ++ bys ⟨#[59, 10]⟩) := by show _ = _; unfold dtext; rw [hl, if_neg (by simp), if_pos h0, if_neg h1, if_neg h2]; simp [bys, sPublic, sSecret, sBy]
  have hl2 : (l ++ dtext d).length <= 70368744177664 := by rw [List.length_append]; exact hlen
  rw [HT.out] at hl2
  have e1 : (ByteArray.mk #[112, 117, 98, 108, 105, 99, 32]).size = 7 := rfl
  have e2 : (ByteArray.mk #[59, 10]).size = 2 := rfl
  simp only [List.length_append, List.length_cons, List.length_nil, bys_length, e1, e2] at hl2
  obtain ⟨hs1, hs2, hn, hby⟩ := hf
  have hbn := str_nil d.by_ h2
  obtain ⟨Y, hY⟩ : ∃ Y : ByteArray, ⟨#[32, 98, 121, 32]⟩ ++ d.by_ = Y := ⟨_, rfl⟩
  have HY : Hid (bys Y = sBy ++ bys d.by_) := by show _ = _; rw [<- hY]; simp only [bys_cat]; rfl
  have hYs : Y.size = 4 + d.by_.size := by rw [<- bys_length, HY.out]; simp [sBy, bys_length]; omega
  have e3 : sBy.length = 4 := rfl
  rw [e3] at hl2
  clear hbe hl hlen h2 h0
  have hBw := hP.base
  have hlt := hP.lt
  have HB : Hid (w.heap.size ≠ b) := by show _ ≠ _; omega
  have hA : Stay B b w (w.alloc (.cells #[.bool false, .int .i64 0, .string d.name, .int .i64 d.size, .string d.by_, .int .i64 d.at_] 68)) := (Stay.refl _ _ _).alloc hBw _
  have HBox := Lib.hid (show (w.alloc (.cells #[.bool false, .int .i64 0, .string d.name, .int .i64 d.size, .string d.by_, .int .i64 d.at_] 68)).heap[w.heap.size]? = some (.cells #[.bool false, .int .i64 0, .string d.name, .int .i64 d.size, .string d.by_, .int .i64 d.at_] 68 (0, 0)) from heap_alloc_new w _)
  have hPA := hP.alloc (.cells #[.bool false, .int .i64 0, .string d.name, .int .i64 d.size, .string d.by_, .int .i64 d.at_] 68)
  go_enter Tryz.func27, Tryz.ntmps27
  go_wp2_with (go_at_call 48; refine (writeString_any B b l 0 ⟨#[112, 117, 98, 108, 105, 99, 32]⟩ _ hPA (by rw [e1]; omega)).mono ?_; rintro e w1 ⟨rfl, hP1, hb1⟩; have hbx1 := hb1.2 _ _ _ _ HB.out (by decide) HBox.out; obtain ⟨a0, a1, a2, a3, a4, a5⟩ := decl_cells hbx1)
  go_region_with (go_at_call 48; refine (writeString_any B b _ 0 d.name _ hP1.page.drew (by simp only [List.length_append, bys_length, e1]; omega)).mono ?_; rintro e w2 ⟨rfl, hP2, hb2⟩; have hb12 := hb1.drew.trans hb2; clear a0 a1 a2 a3 a4 a5; have hbx2 := hb12.2 _ _ _ _ HB.out (by decide) HBox.out; obtain ⟨a0, a1, a2, a3, a4, a5⟩ := decl_cells hbx2)
  all_goals (go_wp2_with fail)
  all_goals (go_region_with (go_at_call 48; refine (writeString_any B b _ 0 Y _ hP2.page.drew (by simp only [List.length_append, bys_length, e1, e2]; omega)).mono ?_; rintro e w5 ⟨rfl, hP5, hb5⟩; have hb15 := hb12.drew.trans hb5))
  all_goals (go_wp2_with fail)
  all_goals (go_wp2_with (go_at_call 48; refine (writeString_any B b _ 0 ⟨#[59, 10]⟩ _ hP5.page (by simp only [List.length_append, bys_length, e1, e2]; omega)).mono ?_; rintro e w6 ⟨rfl, hP6, hb6⟩))
  all_goals go_end0
  all_goals exact ⟨rfl, by rw [HT.out, <- HY.out]; simpa using hP6.page, (hA.trans hb15).trans hb6⟩

set_option maxHeartbeats 4000000 in
set_option maxRecDepth 100000 in
theorem decl_010 (B b : Nat) (l : List UInt8) (d : Dcl) (w : World) (hP : PageAt B b l 0 w) (hf : dfit d) (hV : Vars B w) (hlen : l.length + (dtext d).length <= 70368744177664) (hl : d.lock = false) (h0 : d.label = 0) (h1 : 0 < d.size) (h2 : d.by_.size = 0) :
    Calls Tryz.prog 27 #[.pointer (some ⟨b, 0, none⟩), dagg d] w (Wrote B b l 0 w (dtext d)) := by
  have hbe : dagg d = .agg #[.bool false, .int .i64 0, .string d.name, .int .i64 d.size, .string ⟨#[]⟩, .int .i64 d.at_] := by unfold dagg; rw [hl, h0, size_zero h2]
  rw [hbe]
  have HT : Hid (l ++ dtext d = l ++ bys ⟨#[112, 117, 98, 108, 105, 99, 32]⟩ ++ bys d.name ++ ([91] ++ Lib.itoa d.size ++ [93]) ++ [] ++ bys ⟨#[59, 10]⟩) := by show _ = _; unfold dtext; rw [hl, if_neg (by simp), if_pos h0, if_pos h1, if_pos h2]; simp [bys, sPublic, sSecret, sBy]
  have hl2 : (l ++ dtext d).length <= 70368744177664 := by rw [List.length_append]; exact hlen
  rw [HT.out] at hl2
  have e1 : (ByteArray.mk #[112, 117, 98, 108, 105, 99, 32]).size = 7 := rfl
  have e2 : (ByteArray.mk #[59, 10]).size = 2 := rfl
  simp only [List.length_append, List.length_cons, List.length_nil, bys_length, e1, e2] at hl2
  obtain ⟨hs1, hs2, hn, hby⟩ := hf
  obtain ⟨I, hI⟩ : ∃ I, bstr (Lib.itoa d.size) = I := ⟨_, rfl⟩
  have hszI : I.size <= 21 := by rw [<- hI, bstr_size]; exact Lib.itoa_length_le d.size hs1 hs2
  obtain ⟨X, hX⟩ : ∃ X : ByteArray, ⟨#[91]⟩ ++ I ++ ⟨#[93]⟩ = X := ⟨_, rfl⟩
  have HX : Hid (bys X = [91] ++ Lib.itoa d.size ++ [93]) := by show _ = _; rw [<- hX, <- hI]; simp only [bys_cat]; rfl
  have hXs : X.size = (Lib.itoa d.size).length + 2 := by rw [<- bys_length, HX.out]; simp
  have Hit := fun w' (h : Vars B w') => itoa_any d.size hs1 hs2 B w' h
  rw [hI] at Hit
  clear hI
  clear hbe hl hlen h2 h0
  have hBw := hP.base
  have hlt := hP.lt
  have HB : Hid (w.heap.size ≠ b) := by show _ ≠ _; omega
  have hA : Stay B b w (w.alloc (.cells #[.bool false, .int .i64 0, .string d.name, .int .i64 d.size, .string ⟨#[]⟩, .int .i64 d.at_] 68)) := (Stay.refl _ _ _).alloc hBw _
  have HBox := Lib.hid (show (w.alloc (.cells #[.bool false, .int .i64 0, .string d.name, .int .i64 d.size, .string ⟨#[]⟩, .int .i64 d.at_] 68)).heap[w.heap.size]? = some (.cells #[.bool false, .int .i64 0, .string d.name, .int .i64 d.size, .string ⟨#[]⟩, .int .i64 d.at_] 68 (0, 0)) from heap_alloc_new w _)
  have hPA := hP.alloc (.cells #[.bool false, .int .i64 0, .string d.name, .int .i64 d.size, .string ⟨#[]⟩, .int .i64 d.at_] 68)
  go_enter Tryz.func27, Tryz.ntmps27
  go_wp2_with (go_at_call 48; refine (writeString_any B b l 0 ⟨#[112, 117, 98, 108, 105, 99, 32]⟩ _ hPA (by rw [e1]; omega)).mono ?_; rintro e w1 ⟨rfl, hP1, hb1⟩; have hbx1 := hb1.2 _ _ _ _ HB.out (by decide) HBox.out; obtain ⟨a0, a1, a2, a3, a4, a5⟩ := decl_cells hbx1)
  go_region_with (go_at_call 48; refine (writeString_any B b _ 0 d.name _ hP1.page.drew (by simp only [List.length_append, bys_length, e1]; omega)).mono ?_; rintro e w2 ⟨rfl, hP2, hb2⟩; have hb12 := hb1.drew.trans hb2; clear a0 a1 a2 a3 a4 a5; have hbx2 := hb12.2 _ _ _ _ HB.out (by decide) HBox.out; obtain ⟨a0, a1, a2, a3, a4, a5⟩ := decl_cells hbx2)
  all_goals (go_wp2_with fail)
  all_goals (go_region_with (first
    | (go_at_call 49; refine (Hit _ ((hV.on hA.1).on hb12.drew.1)).mono ?_; rintro e w3 ⟨rfl, hb3⟩; have hP3 := hP2.page.drew.below hb3; have hbx3 := (hb3.block _ (heap_lt hbx2)).trans hbx2; clear a0 a1 a2 a3 a4 a5; obtain ⟨a0, a1, a2, a3, a4, a5⟩ := decl_cells hbx3)
    | (go_at_call 48; refine (writeString_any B b _ 0 X _ hP3 (by simp only [List.length_append, bys_length, e1, e2]; omega)).mono ?_; rintro e w4 ⟨rfl, hP4, hb4⟩; have hb14 := (hb12.trans (Stay.of_drew hb3 (by have := hb12.1.size; have := hA.1.size; omega))).trans hb4; clear a0 a1 a2 a3 a4 a5; have hbx4 := hb14.2 _ _ _ _ HB.out (by decide) HBox.out; obtain ⟨a0, a1, a2, a3, a4, a5⟩ := decl_cells hbx4)))
  all_goals (go_wp2_with fail)
  all_goals (go_wp2_with (go_at_call 48; refine (writeString_any B b _ 0 ⟨#[59, 10]⟩ _ hP4.page (by simp only [List.length_append, bys_length, e1, e2]; omega)).mono ?_; rintro e w6 ⟨rfl, hP6, hb6⟩))
  all_goals go_end0
  all_goals exact ⟨rfl, by rw [HT.out, <- HX.out]; simpa using hP6.page, (hA.trans hb14).trans hb6⟩

set_option maxHeartbeats 4000000 in
set_option maxRecDepth 100000 in
theorem decl_011 (B b : Nat) (l : List UInt8) (d : Dcl) (w : World) (hP : PageAt B b l 0 w) (hf : dfit d) (hV : Vars B w) (hlen : l.length + (dtext d).length <= 70368744177664) (hl : d.lock = false) (h0 : d.label = 0) (h1 : 0 < d.size) (h2 : d.by_.size ≠ 0) :
    Calls Tryz.prog 27 #[.pointer (some ⟨b, 0, none⟩), dagg d] w (Wrote B b l 0 w (dtext d)) := by
  have hbe : dagg d = .agg #[.bool false, .int .i64 0, .string d.name, .int .i64 d.size, .string d.by_, .int .i64 d.at_] := by unfold dagg; rw [hl, h0]
  rw [hbe]
  have HT : Hid (l ++ dtext d = l ++ bys ⟨#[112, 117, 98, 108, 105, 99, 32]⟩ ++ bys d.name ++ ([91] ++ Lib.itoa d.size ++ [93]) ++ (sBy ++ bys d.by_) ++ bys ⟨#[59, 10]⟩) := by show _ = _; unfold dtext; rw [hl, if_neg (by simp), if_pos h0, if_pos h1, if_neg h2]; simp [bys, sPublic, sSecret, sBy]
  have hl2 : (l ++ dtext d).length <= 70368744177664 := by rw [List.length_append]; exact hlen
  rw [HT.out] at hl2
  have e1 : (ByteArray.mk #[112, 117, 98, 108, 105, 99, 32]).size = 7 := rfl
  have e2 : (ByteArray.mk #[59, 10]).size = 2 := rfl
  simp only [List.length_append, List.length_cons, List.length_nil, bys_length, e1, e2] at hl2
  obtain ⟨hs1, hs2, hn, hby⟩ := hf
  have hbn := str_nil d.by_ h2
  obtain ⟨I, hI⟩ : ∃ I, bstr (Lib.itoa d.size) = I := ⟨_, rfl⟩
  have hszI : I.size <= 21 := by rw [<- hI, bstr_size]; exact Lib.itoa_length_le d.size hs1 hs2
  obtain ⟨X, hX⟩ : ∃ X : ByteArray, ⟨#[91]⟩ ++ I ++ ⟨#[93]⟩ = X := ⟨_, rfl⟩
  have HX : Hid (bys X = [91] ++ Lib.itoa d.size ++ [93]) := by show _ = _; rw [<- hX, <- hI]; simp only [bys_cat]; rfl
  have hXs : X.size = (Lib.itoa d.size).length + 2 := by rw [<- bys_length, HX.out]; simp
  have Hit := fun w' (h : Vars B w') => itoa_any d.size hs1 hs2 B w' h
  rw [hI] at Hit
  clear hI
  obtain ⟨Y, hY⟩ : ∃ Y : ByteArray, ⟨#[32, 98, 121, 32]⟩ ++ d.by_ = Y := ⟨_, rfl⟩
  have HY : Hid (bys Y = sBy ++ bys d.by_) := by show _ = _; rw [<- hY]; simp only [bys_cat]; rfl
  have hYs : Y.size = 4 + d.by_.size := by rw [<- bys_length, HY.out]; simp [sBy, bys_length]; omega
  have e3 : sBy.length = 4 := rfl
  rw [e3] at hl2
  clear hbe hl hlen h2 h0
  have hBw := hP.base
  have hlt := hP.lt
  have HB : Hid (w.heap.size ≠ b) := by show _ ≠ _; omega
  have hA : Stay B b w (w.alloc (.cells #[.bool false, .int .i64 0, .string d.name, .int .i64 d.size, .string d.by_, .int .i64 d.at_] 68)) := (Stay.refl _ _ _).alloc hBw _
  have HBox := Lib.hid (show (w.alloc (.cells #[.bool false, .int .i64 0, .string d.name, .int .i64 d.size, .string d.by_, .int .i64 d.at_] 68)).heap[w.heap.size]? = some (.cells #[.bool false, .int .i64 0, .string d.name, .int .i64 d.size, .string d.by_, .int .i64 d.at_] 68 (0, 0)) from heap_alloc_new w _)
  have hPA := hP.alloc (.cells #[.bool false, .int .i64 0, .string d.name, .int .i64 d.size, .string d.by_, .int .i64 d.at_] 68)
  go_enter Tryz.func27, Tryz.ntmps27
  go_wp2_with (go_at_call 48; refine (writeString_any B b l 0 ⟨#[112, 117, 98, 108, 105, 99, 32]⟩ _ hPA (by rw [e1]; omega)).mono ?_; rintro e w1 ⟨rfl, hP1, hb1⟩; have hbx1 := hb1.2 _ _ _ _ HB.out (by decide) HBox.out; obtain ⟨a0, a1, a2, a3, a4, a5⟩ := decl_cells hbx1)
  go_region_with (go_at_call 48; refine (writeString_any B b _ 0 d.name _ hP1.page.drew (by simp only [List.length_append, bys_length, e1]; omega)).mono ?_; rintro e w2 ⟨rfl, hP2, hb2⟩; have hb12 := hb1.drew.trans hb2; clear a0 a1 a2 a3 a4 a5; have hbx2 := hb12.2 _ _ _ _ HB.out (by decide) HBox.out; obtain ⟨a0, a1, a2, a3, a4, a5⟩ := decl_cells hbx2)
  all_goals (go_wp2_with fail)
  all_goals (go_region_with (first
    | (go_at_call 49; refine (Hit _ ((hV.on hA.1).on hb12.drew.1)).mono ?_; rintro e w3 ⟨rfl, hb3⟩; have hP3 := hP2.page.drew.below hb3; have hbx3 := (hb3.block _ (heap_lt hbx2)).trans hbx2; clear a0 a1 a2 a3 a4 a5; obtain ⟨a0, a1, a2, a3, a4, a5⟩ := decl_cells hbx3)
    | (go_at_call 48; refine (writeString_any B b _ 0 X _ hP3 (by simp only [List.length_append, bys_length, e1, e2]; omega)).mono ?_; rintro e w4 ⟨rfl, hP4, hb4⟩; have hb14 := (hb12.trans (Stay.of_drew hb3 (by have := hb12.1.size; have := hA.1.size; omega))).trans hb4; clear a0 a1 a2 a3 a4 a5; have hbx4 := hb14.2 _ _ _ _ HB.out (by decide) HBox.out; obtain ⟨a0, a1, a2, a3, a4, a5⟩ := decl_cells hbx4)))
  all_goals (go_wp2_with fail)
  all_goals (go_region_with (go_at_call 48; refine (writeString_any B b _ 0 Y _ hP4.page.drew (by simp only [List.length_append, bys_length, e1, e2]; omega)).mono ?_; rintro e w5 ⟨rfl, hP5, hb5⟩; have hb15 := hb14.drew.trans hb5))
  all_goals (go_wp2_with fail)
  all_goals (go_wp2_with (go_at_call 48; refine (writeString_any B b _ 0 ⟨#[59, 10]⟩ _ hP5.page (by simp only [List.length_append, bys_length, e1, e2]; omega)).mono ?_; rintro e w6 ⟨rfl, hP6, hb6⟩))
  all_goals go_end0
  all_goals exact ⟨rfl, by rw [HT.out, <- HX.out, <- HY.out]; simpa using hP6.page, (hA.trans hb15).trans hb6⟩

set_option maxHeartbeats 4000000 in
set_option maxRecDepth 100000 in
theorem decl_100 (B b : Nat) (l : List UInt8) (d : Dcl) (w : World) (hP : PageAt B b l 0 w) (hf : dfit d) (hV : Vars B w) (hlen : l.length + (dtext d).length <= 70368744177664) (hl : d.lock = false) (h0 : d.label ≠ 0) (h1 : ¬ 0 < d.size) (h2 : d.by_.size = 0) :
    Calls Tryz.prog 27 #[.pointer (some ⟨b, 0, none⟩), dagg d] w (Wrote B b l 0 w (dtext d)) := by
  have hbe : dagg d = .agg #[.bool false, .int .i64 d.label, .string d.name, .int .i64 d.size, .string ⟨#[]⟩, .int .i64 d.at_] := by unfold dagg; rw [hl, size_zero h2]
  rw [hbe]
  have HT : Hid (l ++ dtext d = l ++ bys ⟨#[115, 101, 99, 114, 101, 116, 32]⟩ ++ bys d.name ++ [] ++ [] ++ bys ⟨#[59, 10]⟩) := by show _ = _; unfold dtext; rw [hl, if_neg (by simp), if_neg h0, if_neg h1, if_pos h2]; simp [bys, sPublic, sSecret, sBy]
  have hl2 : (l ++ dtext d).length <= 70368744177664 := by rw [List.length_append]; exact hlen
  rw [HT.out] at hl2
  have e1 : (ByteArray.mk #[115, 101, 99, 114, 101, 116, 32]).size = 7 := rfl
  have e2 : (ByteArray.mk #[59, 10]).size = 2 := rfl
  simp only [List.length_append, List.length_cons, List.length_nil, bys_length, e1, e2] at hl2
  obtain ⟨hs1, hs2, hn, hby⟩ := hf
  clear hbe hl hlen h2
  have hBw := hP.base
  have hlt := hP.lt
  have HB : Hid (w.heap.size ≠ b) := by show _ ≠ _; omega
  have hA : Stay B b w (w.alloc (.cells #[.bool false, .int .i64 d.label, .string d.name, .int .i64 d.size, .string ⟨#[]⟩, .int .i64 d.at_] 68)) := (Stay.refl _ _ _).alloc hBw _
  have HBox := Lib.hid (show (w.alloc (.cells #[.bool false, .int .i64 d.label, .string d.name, .int .i64 d.size, .string ⟨#[]⟩, .int .i64 d.at_] 68)).heap[w.heap.size]? = some (.cells #[.bool false, .int .i64 d.label, .string d.name, .int .i64 d.size, .string ⟨#[]⟩, .int .i64 d.at_] 68 (0, 0)) from heap_alloc_new w _)
  have hPA := hP.alloc (.cells #[.bool false, .int .i64 d.label, .string d.name, .int .i64 d.size, .string ⟨#[]⟩, .int .i64 d.at_] 68)
  go_enter Tryz.func27, Tryz.ntmps27
  go_wp2_with (go_at_call 48; refine (writeString_any B b l 0 ⟨#[115, 101, 99, 114, 101, 116, 32]⟩ _ hPA (by rw [e1]; omega)).mono ?_; rintro e w1 ⟨rfl, hP1, hb1⟩; have hbx1 := hb1.2 _ _ _ _ HB.out (by decide) HBox.out; obtain ⟨a0, a1, a2, a3, a4, a5⟩ := decl_cells hbx1)
  go_region_with (go_at_call 48; refine (writeString_any B b _ 0 d.name _ hP1.page.drew (by simp only [List.length_append, bys_length, e1]; omega)).mono ?_; rintro e w2 ⟨rfl, hP2, hb2⟩; have hb12 := hb1.drew.trans hb2; clear a0 a1 a2 a3 a4 a5; have hbx2 := hb12.2 _ _ _ _ HB.out (by decide) HBox.out; obtain ⟨a0, a1, a2, a3, a4, a5⟩ := decl_cells hbx2)
  all_goals (go_wp2_with fail)
  all_goals (go_wp2_with (go_at_call 48; refine (writeString_any B b _ 0 ⟨#[59, 10]⟩ _ hP2.page (by simp only [List.length_append, bys_length, e1, e2]; omega)).mono ?_; rintro e w6 ⟨rfl, hP6, hb6⟩))
  all_goals go_end0
  all_goals exact ⟨rfl, by rw [HT.out]; simpa using hP6.page, (hA.trans hb12).trans hb6⟩

set_option maxHeartbeats 4000000 in
set_option maxRecDepth 100000 in
theorem decl_101 (B b : Nat) (l : List UInt8) (d : Dcl) (w : World) (hP : PageAt B b l 0 w) (hf : dfit d) (hV : Vars B w) (hlen : l.length + (dtext d).length <= 70368744177664) (hl : d.lock = false) (h0 : d.label ≠ 0) (h1 : ¬ 0 < d.size) (h2 : d.by_.size ≠ 0) :
    Calls Tryz.prog 27 #[.pointer (some ⟨b, 0, none⟩), dagg d] w (Wrote B b l 0 w (dtext d)) := by
  have hbe : dagg d = .agg #[.bool false, .int .i64 d.label, .string d.name, .int .i64 d.size, .string d.by_, .int .i64 d.at_] := by unfold dagg; rw [hl]
  rw [hbe]
  have HT : Hid (l ++ dtext d = l ++ bys ⟨#[115, 101, 99, 114, 101, 116, 32]⟩ ++ bys d.name ++ [] ++ (sBy ++ bys d.by_) ++ bys ⟨#[59, 10]⟩) := by show _ = _; unfold dtext; rw [hl, if_neg (by simp), if_neg h0, if_neg h1, if_neg h2]; simp [bys, sPublic, sSecret, sBy]
  have hl2 : (l ++ dtext d).length <= 70368744177664 := by rw [List.length_append]; exact hlen
  rw [HT.out] at hl2
  have e1 : (ByteArray.mk #[115, 101, 99, 114, 101, 116, 32]).size = 7 := rfl
  have e2 : (ByteArray.mk #[59, 10]).size = 2 := rfl
  simp only [List.length_append, List.length_cons, List.length_nil, bys_length, e1, e2] at hl2
  obtain ⟨hs1, hs2, hn, hby⟩ := hf
  have hbn := str_nil d.by_ h2
  obtain ⟨Y, hY⟩ : ∃ Y : ByteArray, ⟨#[32, 98, 121, 32]⟩ ++ d.by_ = Y := ⟨_, rfl⟩
  have HY : Hid (bys Y = sBy ++ bys d.by_) := by show _ = _; rw [<- hY]; simp only [bys_cat]; rfl
  have hYs : Y.size = 4 + d.by_.size := by rw [<- bys_length, HY.out]; simp [sBy, bys_length]; omega
  have e3 : sBy.length = 4 := rfl
  rw [e3] at hl2
  clear hbe hl hlen h2
  have hBw := hP.base
  have hlt := hP.lt
  have HB : Hid (w.heap.size ≠ b) := by show _ ≠ _; omega
  have hA : Stay B b w (w.alloc (.cells #[.bool false, .int .i64 d.label, .string d.name, .int .i64 d.size, .string d.by_, .int .i64 d.at_] 68)) := (Stay.refl _ _ _).alloc hBw _
  have HBox := Lib.hid (show (w.alloc (.cells #[.bool false, .int .i64 d.label, .string d.name, .int .i64 d.size, .string d.by_, .int .i64 d.at_] 68)).heap[w.heap.size]? = some (.cells #[.bool false, .int .i64 d.label, .string d.name, .int .i64 d.size, .string d.by_, .int .i64 d.at_] 68 (0, 0)) from heap_alloc_new w _)
  have hPA := hP.alloc (.cells #[.bool false, .int .i64 d.label, .string d.name, .int .i64 d.size, .string d.by_, .int .i64 d.at_] 68)
  go_enter Tryz.func27, Tryz.ntmps27
  go_wp2_with (go_at_call 48; refine (writeString_any B b l 0 ⟨#[115, 101, 99, 114, 101, 116, 32]⟩ _ hPA (by rw [e1]; omega)).mono ?_; rintro e w1 ⟨rfl, hP1, hb1⟩; have hbx1 := hb1.2 _ _ _ _ HB.out (by decide) HBox.out; obtain ⟨a0, a1, a2, a3, a4, a5⟩ := decl_cells hbx1)
  go_region_with (go_at_call 48; refine (writeString_any B b _ 0 d.name _ hP1.page.drew (by simp only [List.length_append, bys_length, e1]; omega)).mono ?_; rintro e w2 ⟨rfl, hP2, hb2⟩; have hb12 := hb1.drew.trans hb2; clear a0 a1 a2 a3 a4 a5; have hbx2 := hb12.2 _ _ _ _ HB.out (by decide) HBox.out; obtain ⟨a0, a1, a2, a3, a4, a5⟩ := decl_cells hbx2)
  all_goals (go_wp2_with fail)
  all_goals (go_region_with (go_at_call 48; refine (writeString_any B b _ 0 Y _ hP2.page.drew (by simp only [List.length_append, bys_length, e1, e2]; omega)).mono ?_; rintro e w5 ⟨rfl, hP5, hb5⟩; have hb15 := hb12.drew.trans hb5))
  all_goals (go_wp2_with fail)
  all_goals (go_wp2_with (go_at_call 48; refine (writeString_any B b _ 0 ⟨#[59, 10]⟩ _ hP5.page (by simp only [List.length_append, bys_length, e1, e2]; omega)).mono ?_; rintro e w6 ⟨rfl, hP6, hb6⟩))
  all_goals go_end0
  all_goals exact ⟨rfl, by rw [HT.out, <- HY.out]; simpa using hP6.page, (hA.trans hb15).trans hb6⟩

set_option maxHeartbeats 4000000 in
set_option maxRecDepth 100000 in
theorem decl_110 (B b : Nat) (l : List UInt8) (d : Dcl) (w : World) (hP : PageAt B b l 0 w) (hf : dfit d) (hV : Vars B w) (hlen : l.length + (dtext d).length <= 70368744177664) (hl : d.lock = false) (h0 : d.label ≠ 0) (h1 : 0 < d.size) (h2 : d.by_.size = 0) :
    Calls Tryz.prog 27 #[.pointer (some ⟨b, 0, none⟩), dagg d] w (Wrote B b l 0 w (dtext d)) := by
  have hbe : dagg d = .agg #[.bool false, .int .i64 d.label, .string d.name, .int .i64 d.size, .string ⟨#[]⟩, .int .i64 d.at_] := by unfold dagg; rw [hl, size_zero h2]
  rw [hbe]
  have HT : Hid (l ++ dtext d = l ++ bys ⟨#[115, 101, 99, 114, 101, 116, 32]⟩ ++ bys d.name ++ ([91] ++ Lib.itoa d.size ++ [93]) ++ [] ++ bys ⟨#[59, 10]⟩) := by show _ = _; unfold dtext; rw [hl, if_neg (by simp), if_neg h0, if_pos h1, if_pos h2]; simp [bys, sPublic, sSecret, sBy]
  have hl2 : (l ++ dtext d).length <= 70368744177664 := by rw [List.length_append]; exact hlen
  rw [HT.out] at hl2
  have e1 : (ByteArray.mk #[115, 101, 99, 114, 101, 116, 32]).size = 7 := rfl
  have e2 : (ByteArray.mk #[59, 10]).size = 2 := rfl
  simp only [List.length_append, List.length_cons, List.length_nil, bys_length, e1, e2] at hl2
  obtain ⟨hs1, hs2, hn, hby⟩ := hf
  obtain ⟨I, hI⟩ : ∃ I, bstr (Lib.itoa d.size) = I := ⟨_, rfl⟩
  have hszI : I.size <= 21 := by rw [<- hI, bstr_size]; exact Lib.itoa_length_le d.size hs1 hs2
  obtain ⟨X, hX⟩ : ∃ X : ByteArray, ⟨#[91]⟩ ++ I ++ ⟨#[93]⟩ = X := ⟨_, rfl⟩
  have HX : Hid (bys X = [91] ++ Lib.itoa d.size ++ [93]) := by show _ = _; rw [<- hX, <- hI]; simp only [bys_cat]; rfl
  have hXs : X.size = (Lib.itoa d.size).length + 2 := by rw [<- bys_length, HX.out]; simp
  have Hit := fun w' (h : Vars B w') => itoa_any d.size hs1 hs2 B w' h
  rw [hI] at Hit
  clear hI
  clear hbe hl hlen h2
  have hBw := hP.base
  have hlt := hP.lt
  have HB : Hid (w.heap.size ≠ b) := by show _ ≠ _; omega
  have hA : Stay B b w (w.alloc (.cells #[.bool false, .int .i64 d.label, .string d.name, .int .i64 d.size, .string ⟨#[]⟩, .int .i64 d.at_] 68)) := (Stay.refl _ _ _).alloc hBw _
  have HBox := Lib.hid (show (w.alloc (.cells #[.bool false, .int .i64 d.label, .string d.name, .int .i64 d.size, .string ⟨#[]⟩, .int .i64 d.at_] 68)).heap[w.heap.size]? = some (.cells #[.bool false, .int .i64 d.label, .string d.name, .int .i64 d.size, .string ⟨#[]⟩, .int .i64 d.at_] 68 (0, 0)) from heap_alloc_new w _)
  have hPA := hP.alloc (.cells #[.bool false, .int .i64 d.label, .string d.name, .int .i64 d.size, .string ⟨#[]⟩, .int .i64 d.at_] 68)
  go_enter Tryz.func27, Tryz.ntmps27
  go_wp2_with (go_at_call 48; refine (writeString_any B b l 0 ⟨#[115, 101, 99, 114, 101, 116, 32]⟩ _ hPA (by rw [e1]; omega)).mono ?_; rintro e w1 ⟨rfl, hP1, hb1⟩; have hbx1 := hb1.2 _ _ _ _ HB.out (by decide) HBox.out; obtain ⟨a0, a1, a2, a3, a4, a5⟩ := decl_cells hbx1)
  go_region_with (go_at_call 48; refine (writeString_any B b _ 0 d.name _ hP1.page.drew (by simp only [List.length_append, bys_length, e1]; omega)).mono ?_; rintro e w2 ⟨rfl, hP2, hb2⟩; have hb12 := hb1.drew.trans hb2; clear a0 a1 a2 a3 a4 a5; have hbx2 := hb12.2 _ _ _ _ HB.out (by decide) HBox.out; obtain ⟨a0, a1, a2, a3, a4, a5⟩ := decl_cells hbx2)
  all_goals (go_wp2_with fail)
  all_goals (go_region_with (first
    | (go_at_call 49; refine (Hit _ ((hV.on hA.1).on hb12.drew.1)).mono ?_; rintro e w3 ⟨rfl, hb3⟩; have hP3 := hP2.page.drew.below hb3; have hbx3 := (hb3.block _ (heap_lt hbx2)).trans hbx2; clear a0 a1 a2 a3 a4 a5; obtain ⟨a0, a1, a2, a3, a4, a5⟩ := decl_cells hbx3)
    | (go_at_call 48; refine (writeString_any B b _ 0 X _ hP3 (by simp only [List.length_append, bys_length, e1, e2]; omega)).mono ?_; rintro e w4 ⟨rfl, hP4, hb4⟩; have hb14 := (hb12.trans (Stay.of_drew hb3 (by have := hb12.1.size; have := hA.1.size; omega))).trans hb4; clear a0 a1 a2 a3 a4 a5; have hbx4 := hb14.2 _ _ _ _ HB.out (by decide) HBox.out; obtain ⟨a0, a1, a2, a3, a4, a5⟩ := decl_cells hbx4)))
  all_goals (go_wp2_with fail)
  all_goals (go_wp2_with (go_at_call 48; refine (writeString_any B b _ 0 ⟨#[59, 10]⟩ _ hP4.page (by simp only [List.length_append, bys_length, e1, e2]; omega)).mono ?_; rintro e w6 ⟨rfl, hP6, hb6⟩))
  all_goals go_end0
  all_goals exact ⟨rfl, by rw [HT.out, <- HX.out]; simpa using hP6.page, (hA.trans hb14).trans hb6⟩

set_option maxHeartbeats 4000000 in
set_option maxRecDepth 100000 in
theorem decl_111 (B b : Nat) (l : List UInt8) (d : Dcl) (w : World) (hP : PageAt B b l 0 w) (hf : dfit d) (hV : Vars B w) (hlen : l.length + (dtext d).length <= 70368744177664) (hl : d.lock = false) (h0 : d.label ≠ 0) (h1 : 0 < d.size) (h2 : d.by_.size ≠ 0) :
    Calls Tryz.prog 27 #[.pointer (some ⟨b, 0, none⟩), dagg d] w (Wrote B b l 0 w (dtext d)) := by
  have hbe : dagg d = .agg #[.bool false, .int .i64 d.label, .string d.name, .int .i64 d.size, .string d.by_, .int .i64 d.at_] := by unfold dagg; rw [hl]
  rw [hbe]
  have HT : Hid (l ++ dtext d = l ++ bys ⟨#[115, 101, 99, 114, 101, 116, 32]⟩ ++ bys d.name ++ ([91] ++ Lib.itoa d.size ++ [93]) ++ (sBy ++ bys d.by_) ++ bys ⟨#[59, 10]⟩) := by show _ = _; unfold dtext; rw [hl, if_neg (by simp), if_neg h0, if_pos h1, if_neg h2]; simp [bys, sPublic, sSecret, sBy]
  have hl2 : (l ++ dtext d).length <= 70368744177664 := by rw [List.length_append]; exact hlen
  rw [HT.out] at hl2
  have e1 : (ByteArray.mk #[115, 101, 99, 114, 101, 116, 32]).size = 7 := rfl
  have e2 : (ByteArray.mk #[59, 10]).size = 2 := rfl
  simp only [List.length_append, List.length_cons, List.length_nil, bys_length, e1, e2] at hl2
  obtain ⟨hs1, hs2, hn, hby⟩ := hf
  have hbn := str_nil d.by_ h2
  obtain ⟨I, hI⟩ : ∃ I, bstr (Lib.itoa d.size) = I := ⟨_, rfl⟩
  have hszI : I.size <= 21 := by rw [<- hI, bstr_size]; exact Lib.itoa_length_le d.size hs1 hs2
  obtain ⟨X, hX⟩ : ∃ X : ByteArray, ⟨#[91]⟩ ++ I ++ ⟨#[93]⟩ = X := ⟨_, rfl⟩
  have HX : Hid (bys X = [91] ++ Lib.itoa d.size ++ [93]) := by show _ = _; rw [<- hX, <- hI]; simp only [bys_cat]; rfl
  have hXs : X.size = (Lib.itoa d.size).length + 2 := by rw [<- bys_length, HX.out]; simp
  have Hit := fun w' (h : Vars B w') => itoa_any d.size hs1 hs2 B w' h
  rw [hI] at Hit
  clear hI
  obtain ⟨Y, hY⟩ : ∃ Y : ByteArray, ⟨#[32, 98, 121, 32]⟩ ++ d.by_ = Y := ⟨_, rfl⟩
  have HY : Hid (bys Y = sBy ++ bys d.by_) := by show _ = _; rw [<- hY]; simp only [bys_cat]; rfl
  have hYs : Y.size = 4 + d.by_.size := by rw [<- bys_length, HY.out]; simp [sBy, bys_length]; omega
  have e3 : sBy.length = 4 := rfl
  rw [e3] at hl2
  clear hbe hl hlen h2
  have hBw := hP.base
  have hlt := hP.lt
  have HB : Hid (w.heap.size ≠ b) := by show _ ≠ _; omega
  have hA : Stay B b w (w.alloc (.cells #[.bool false, .int .i64 d.label, .string d.name, .int .i64 d.size, .string d.by_, .int .i64 d.at_] 68)) := (Stay.refl _ _ _).alloc hBw _
  have HBox := Lib.hid (show (w.alloc (.cells #[.bool false, .int .i64 d.label, .string d.name, .int .i64 d.size, .string d.by_, .int .i64 d.at_] 68)).heap[w.heap.size]? = some (.cells #[.bool false, .int .i64 d.label, .string d.name, .int .i64 d.size, .string d.by_, .int .i64 d.at_] 68 (0, 0)) from heap_alloc_new w _)
  have hPA := hP.alloc (.cells #[.bool false, .int .i64 d.label, .string d.name, .int .i64 d.size, .string d.by_, .int .i64 d.at_] 68)
  go_enter Tryz.func27, Tryz.ntmps27
  go_wp2_with (go_at_call 48; refine (writeString_any B b l 0 ⟨#[115, 101, 99, 114, 101, 116, 32]⟩ _ hPA (by rw [e1]; omega)).mono ?_; rintro e w1 ⟨rfl, hP1, hb1⟩; have hbx1 := hb1.2 _ _ _ _ HB.out (by decide) HBox.out; obtain ⟨a0, a1, a2, a3, a4, a5⟩ := decl_cells hbx1)
  go_region_with (go_at_call 48; refine (writeString_any B b _ 0 d.name _ hP1.page.drew (by simp only [List.length_append, bys_length, e1]; omega)).mono ?_; rintro e w2 ⟨rfl, hP2, hb2⟩; have hb12 := hb1.drew.trans hb2; clear a0 a1 a2 a3 a4 a5; have hbx2 := hb12.2 _ _ _ _ HB.out (by decide) HBox.out; obtain ⟨a0, a1, a2, a3, a4, a5⟩ := decl_cells hbx2)
  all_goals (go_wp2_with fail)
  all_goals (go_region_with (first
    | (go_at_call 49; refine (Hit _ ((hV.on hA.1).on hb12.drew.1)).mono ?_; rintro e w3 ⟨rfl, hb3⟩; have hP3 := hP2.page.drew.below hb3; have hbx3 := (hb3.block _ (heap_lt hbx2)).trans hbx2; clear a0 a1 a2 a3 a4 a5; obtain ⟨a0, a1, a2, a3, a4, a5⟩ := decl_cells hbx3)
    | (go_at_call 48; refine (writeString_any B b _ 0 X _ hP3 (by simp only [List.length_append, bys_length, e1, e2]; omega)).mono ?_; rintro e w4 ⟨rfl, hP4, hb4⟩; have hb14 := (hb12.trans (Stay.of_drew hb3 (by have := hb12.1.size; have := hA.1.size; omega))).trans hb4; clear a0 a1 a2 a3 a4 a5; have hbx4 := hb14.2 _ _ _ _ HB.out (by decide) HBox.out; obtain ⟨a0, a1, a2, a3, a4, a5⟩ := decl_cells hbx4)))
  all_goals (go_wp2_with fail)
  all_goals (go_region_with (go_at_call 48; refine (writeString_any B b _ 0 Y _ hP4.page.drew (by simp only [List.length_append, bys_length, e1, e2]; omega)).mono ?_; rintro e w5 ⟨rfl, hP5, hb5⟩; have hb15 := hb14.drew.trans hb5))
  all_goals (go_wp2_with fail)
  all_goals (go_wp2_with (go_at_call 48; refine (writeString_any B b _ 0 ⟨#[59, 10]⟩ _ hP5.page (by simp only [List.length_append, bys_length, e1, e2]; omega)).mono ?_; rintro e w6 ⟨rfl, hP6, hb6⟩))
  all_goals go_end0
  all_goals exact ⟨rfl, by rw [HT.out, <- HX.out, <- HY.out]; simpa using hP6.page, (hA.trans hb15).trans hb6⟩

theorem decl_any (B b : Nat) (l : List UInt8) (d : Dcl) (w : World) (hP : PageAt B b l 0 w) (hf : dfit d) (hV : Vars B w) (hlen : l.length + (dtext d).length <= 70368744177664) :
    Calls Tryz.prog 27 #[.pointer (some ⟨b, 0, none⟩), dagg d] w (Wrote B b l 0 w (dtext d)) := by
  cases hl : d.lock with
  | true => exact decl_lock B b l d w hP hf hV hlen hl
  | false =>
    by_cases h0 : d.label = 0 <;> by_cases h1 : 0 < d.size <;> by_cases h2 : d.by_.size = 0
    · exact decl_010 B b l d w hP hf hV hlen hl h0 h1 h2
    · exact decl_011 B b l d w hP hf hV hlen hl h0 h1 h2
    · exact decl_000 B b l d w hP hf hV hlen hl h0 h1 h2
    · exact decl_001 B b l d w hP hf hV hlen hl h0 h1 h2
    · exact decl_110 B b l d w hP hf hV hlen hl h0 h1 h2
    · exact decl_111 B b l d w hP hf hV hlen hl h0 h1 h2
    · exact decl_100 B b l d w hP hf hV hlen hl h0 h1 h2
    · exact decl_101 B b l d w hP hf hV hlen hl h0 h1 h2
def Dcls (lo B : Nat) (w : World) (v : Value) (ds : List Dcl) : Prop :=
  ∃ ao cap, v = .slice ao ds.length cap /\ ds.length <= 4294967296 /\ ∀ i d, ds[i]? = some d -> dfit d /\ ∃ g off, ao = some ⟨g, off, none⟩ /\ lo <= g /\ g < B /\ (∃ cs fr, w.heap[g]? = some (.cells cs 68 fr) /\ fr = (0, 0)) /\
    w.cell? ⟨g, off + i * 6, none⟩ = some (.bool d.lock) /\ w.cell? ⟨g, off + i * 6 + 1, none⟩ = some (.int .i64 d.label) /\ w.cell? ⟨g, off + i * 6 + 2, none⟩ = some (.string d.name) /\ w.cell? ⟨g, off + i * 6 + 3, none⟩ = some (.int .i64 d.size) /\ w.cell? ⟨g, off + i * 6 + 4, none⟩ = some (.string d.by_) /\ w.cell? ⟨g, off + i * 6 + 5, none⟩ = some (.int .i64 d.at_)
def Thrs (lo B m n : Nat) (w : World) (v : Value) (ts : List (List Stm)) : Prop :=
  ∃ ao cap, v = .slice ao ts.length cap /\ ts.length <= 4294967296 /\ ∀ i ss, ts[i]? = some ss -> ∃ g off tao tcap, ao = some ⟨g, off, none⟩ /\ lo <= g /\ g < B /\ (∃ cs fr, w.heap[g]? = some (.cells cs 52 fr)) /\
    w.cell? ⟨g, off + i, none⟩ = some (.slice tao ss.length tcap) /\ Stms lo B w (fun v' s' => SRep lo B w m n v' s') (.slice tao ss.length tcap) ss
theorem Dcls.on {lo B : Nat} {w w' : World} {v : Value} {ds : List Dcl} (h : Dcls lo B w v ds) (hb : Below B w w') : Dcls lo B w' v ds := by
  obtain ⟨ao, cap, rfl, hl, h⟩ := h
  refine ⟨ao, cap, rfl, hl, fun i d hd => ?_⟩
  obtain ⟨hf, g, off, e, hlo, hg, ⟨cs, fr, hc, hz⟩, h0, h1, h2, h3, h4, h5⟩ := h i d hd
  exact ⟨hf, g, off, e, hlo, hg, ⟨cs, fr, (hb.block g hg).trans hc, hz⟩, (hb.cell (p := ⟨g, _, none⟩) hg).trans h0, (hb.cell (p := ⟨g, _, none⟩) hg).trans h1, (hb.cell (p := ⟨g, _, none⟩) hg).trans h2, (hb.cell (p := ⟨g, _, none⟩) hg).trans h3, (hb.cell (p := ⟨g, _, none⟩) hg).trans h4, (hb.cell (p := ⟨g, _, none⟩) hg).trans h5⟩
theorem Thrs.on {lo B m n : Nat} {w w' : World} {v : Value} {ts : List (List Stm)} (h : Thrs lo B m n w v ts) (hb : Below B w w') : Thrs lo B m n w' v ts := by
  obtain ⟨ao, cap, rfl, hl, h⟩ := h
  refine ⟨ao, cap, rfl, hl, fun i ss hs => ?_⟩
  obtain ⟨g, off, tao, tcap, e, hlo, hg, ⟨cs, fr, hc⟩, h0, h1⟩ := h i ss hs
  exact ⟨g, off, tao, tcap, e, hlo, hg, ⟨cs, fr, (hb.block g hg).trans hc⟩, (hb.cell (p := ⟨g, _, none⟩) hg).trans h0, h1.on hb⟩
def dsText (ds : List Dcl) : List UInt8 := (ds.map dtext).flatten
def tsText (m n : Nat) (ts : List (List Stm)) : List UInt8 := (ts.map fun ss => ttext m n ss).flatten
theorem flat_take {α : Type} (f : α -> List UInt8) (l : List α) (k : Nat) (x : α) (h : l[k]? = some x) : ((l.take (k + 1)).map f).flatten = ((l.take k).map f).flatten ++ f x := by
  have e : l.take (k + 1) = l.take k ++ [x] := by rw [List.take_add_one, h]; rfl
  simp [e]
theorem flat_le {α : Type} (f : α -> List UInt8) (l : List α) (k : Nat) : (((l.take k).map f).flatten).length <= ((l.map f).flatten).length := by
  have : (l.map f).flatten = ((l.take k).map f).flatten ++ ((l.drop k).map f).flatten := by
    simp only [<- List.flatten_append, <- List.map_append, List.take_append_drop]
  rw [this, List.length_append]; omega

theorem block_one {m n : Nat} (B b : Nat) (l : List UInt8) (ss : List Stm) (v : Value) (w : World) (hP : PageAt B b l 0 w) (hS : Stms 0 B w (fun v' s' => SRep 0 B w m n v' s') v ss) (hV : Vars B w) (hd : n + 1 <= 1000000)
    (hlen : l.length + (btext m n 1 ss).length <= 70368744177664) :
    Calls Tryz.prog 29 #[.pointer (some ⟨b, 0, none⟩), v] w (Wrote B b l 0 w (btext m n 1 ss)) := block_of (stmt_all m n) B b l 0 ss v w hP hS hV (by omega) hlen
set_option maxHeartbeats 4000000 in
set_option maxRecDepth 100000 in
theorem text_any (m n : Nat) (p : Prg) (dv tv : Value) (w : World) (hD : Dcls 0 w.heap.size w dv p.decls) (hT : Thrs 0 w.heap.size m n w tv p.threads) (hV : Vars w.heap.size w) (hn : n + 1 <= 1000000) (hne : ptext m n p ≠ []) (hlen : (ptext m n p).length <= 70368744177664) :
    Calls Tryz.prog 13 #[.agg #[dv, tv]] w fun e w' => e = .returned (.string (bstr (ptext m n p))) /\ Below w.heap.size w w' := by
  have HD := Lib.hid hD
  have HT := Lib.hid hT
  obtain ⟨dao, dcap, rfl, hdl, _⟩ := hD
  obtain ⟨tao, tcap, rfl, htl, _⟩ := hT
  have HP : Hid (ptext m n p = dsText p.decls ++ tsText m n p.threads) := rfl
  rw [HP.out, List.length_append] at hlen
  have hb0 : Below w.heap.size w ((w.alloc (.cells #[.slice dao p.decls.length dcap, .slice tao p.threads.length tcap] 27)).alloc (.cells #[.pointer none, .slice none 0 0, .int .i64 0] 87)) := ((Below.refl _ _).alloc (Nat.le_refl _) _).alloc (by simp) _
  have hP0 : PageAt w.heap.size (w.heap.size + 1) [] 0 ((w.alloc (.cells #[.slice dao p.decls.length dcap, .slice tao p.threads.length tcap] 27)).alloc (.cells #[.pointer none, .slice none 0 0, .int .i64 0] 87)) :=
    ⟨by omega, .pointer none, .slice none 0 0, by have := heap_alloc_new (w.alloc (.cells #[.slice dao p.decls.length dcap, .slice tao p.threads.length tcap] 27)) (.cells #[.pointer none, .slice none 0 0, .int .i64 0] 87); simpa using this, .inl rfl, World.ownsRow_nil _ _ _ _, by simp [Value.ownBlock]⟩
  have hbx0 : ((w.alloc (.cells #[.slice dao p.decls.length dcap, .slice tao p.threads.length tcap] 27)).alloc (.cells #[.pointer none, .slice none 0 0, .int .i64 0] 87)).heap[w.heap.size]? = some (.cells #[.slice dao p.decls.length dcap, .slice tao p.threads.length tcap] 27 (0, 0)) := (Lib.alloc_old _ _ _ (by simp)).trans (heap_alloc_new w _)
  obtain ⟨W0, hW0⟩ : ∃ W0, W0 = ((w.alloc (.cells #[.slice dao p.decls.length dcap, .slice tao p.threads.length tcap] 27)).alloc (.cells #[.pointer none, .slice none 0 0, .int .i64 0] 87)) := ⟨_, rfl⟩
  have HB : Hid (w.heap.size ≠ w.heap.size + 1) := by show _ ≠ _; omega
  go_enter Tryz.func13, Tryz.ntmps13
  go_wp2
  go_loopw [12] (fun i wr => ∃ k : Nat, k <= p.decls.length /\ i = .int .i64 k /\ PageAt w.heap.size (w.heap.size + 1) (dsText (p.decls.take k)) 0 wr /\ Stay w.heap.size (w.heap.size + 1) W0 wr) (fun i _ => p.decls.length - (intOf i).toNat)
  case atStart => exact ⟨0, Nat.zero_le _, rfl, by simpa [dsText] using hP0, by rw [hW0]; exact Stay.refl _ _ _⟩
  case round =>
    obtain ⟨k, hk, rfl, hPr, hSr⟩ := hrel
    rw [hW0] at hSr
    have hSr0 : Below w.heap.size w wr := hb0.trans hSr.1
    have hBr := hPr.base
    by_cases hlt : k < p.decls.length
    · obtain ⟨d, hd⟩ : ∃ d, p.decls[k]? = some d := ⟨p.decls[k], by simp [hlt]⟩
      obtain ⟨ao', cap', e, _, hK⟩ := HD.out.on hSr0
      cases e
      obtain ⟨hf, g, off, rfl, _, hg, _, h0, h1, h2, h3, h4, h5⟩ := hK k d hd
      have HF := Lib.hid (flat_take dtext p.decls k d hd)
      have hle := flat_le dtext p.decls (k + 1)
      rw [HF.out, List.length_append] at hle
      have hle2 : (dsText (p.decls.take k)).length + (dtext d).length <= 70368744177664 := by unfold dsText at *; omega
      clear hK hd hle
      have hA := (Stay.refl w.heap.size (w.heap.size + 1) wr).alloc hBr (.cells #[.bool d.lock, .int .i64 d.label, .string d.name, .int .i64 d.size, .string d.by_, .int .i64 d.at_] 68)
      have Hd := decl_any w.heap.size (w.heap.size + 1) _ d _ (hPr.alloc (.cells #[.bool d.lock, .int .i64 d.label, .string d.name, .int .i64 d.size, .string d.by_, .int .i64 d.at_] 68)) hf ((hV.on hSr0).on hA.1) hle2
      unfold dagg at Hd
      go_wp2_with (go_at_call 27; refine Hd.mono ?_; rintro e w1 ⟨rfl, hP1, hb1⟩)
      go_roundw
      case rel => exact ⟨k + 1, by omega, by go_num, by rw [dsText, HF.out]; exact hP1, by rw [hW0]; exact hSr.trans (hA.trans hb1)⟩
      case measure => simp [intOf]; omega
    · obtain rfl : k = p.decls.length := by omega
      rw [List.take_length] at hPr
      have hbx1 := hSr.2 _ _ _ _ HB.out (by decide) hbx0
      have hc1 : wr.cell? ⟨w.heap.size, 1, none⟩ = some (.slice tao p.threads.length tcap) := by rw [Lib.cell_of_heap hbx1]; rfl
      have HPr := Lib.hid hPr
      have HSr := Lib.hid hSr0
      clear hPr hSr0
      go_wp2
      go_loopw [23] (fun i wt => ∃ k : Nat, k <= p.threads.length /\ i = .int .i64 k /\ PageAt w.heap.size (w.heap.size + 1) (dsText p.decls ++ tsText m n (p.threads.take k)) 0 wt /\ Stay w.heap.size (w.heap.size + 1) wr wt) (fun i _ => p.threads.length - (intOf i).toNat)
      case atStart => exact ⟨0, Nat.zero_le _, rfl, by simpa [tsText] using HPr.out, Stay.refl _ _ _⟩
      case round =>
        obtain ⟨k, hk, rfl, hPt, hSt⟩ := hrel
        have hSt0 : Below w.heap.size w wr := HSr.out.trans hSt.1
        by_cases hlt : k < p.threads.length
        · obtain ⟨ss, hs⟩ : ∃ ss, p.threads[k]? = some ss := ⟨p.threads[k], by simp [hlt]⟩
          obtain ⟨ao', cap', e, _, hK⟩ := HT.out.on hSt0
          cases e
          obtain ⟨g, off, sao, scap, rfl, _, hg, _, h0, hSS⟩ := hK k ss hs
          have HF := Lib.hid (flat_take (fun ss => ttext m n ss) p.threads k ss hs)
          have hle := flat_le (fun ss => ttext m n ss) p.threads (k + 1)
          rw [HF.out, List.length_append] at hle
          have hle2 : (dsText p.decls ++ tsText m n (p.threads.take k)).length + ((lineT 0 sThread).length + (btext m n 1 ss).length + (lineT 0 [125]).length) <= 70368744177664 := by
            have e : (ttext m n ss).length = (lineT 0 sThread).length + (btext m n 1 ss).length + (lineT 0 [125]).length := by simp [ttext]; omega
            rw [List.length_append]
            unfold tsText at *
            omega
          have HE : Hid (dsText p.decls ++ tsText m n (p.threads.take (k + 1)) = dsText p.decls ++ tsText m n (p.threads.take k) ++ lineT 0 sThread ++ btext m n 1 ss ++ lineT 0 [125]) := by show _ = _; rw [tsText, HF.out]; simp [ttext, tsText]
          clear hK hs hle HF
          go_wp2_with (go_at_call 28; refine (line_at w.heap.size (w.heap.size + 1) _ 0 ⟨#[116, 104, 114, 101, 97, 100, 32, 123]⟩ sThread rfl _ hPt (by omega) (by omega)).mono ?_; rintro e w1 ⟨rfl, hP1, hb1⟩)
          go_wp2_with (go_at_call 29; refine (block_one w.heap.size (w.heap.size + 1) _ ss _ _ hP1 (hSS.on hb1.1) ((hV.on hSt0).on hb1.1) (by omega) (by rw [List.length_append]; omega)).mono ?_; rintro e w2 ⟨rfl, hP2, hb2⟩)
          go_wp2_with (go_at_call 28; refine (line_at w.heap.size (w.heap.size + 1) _ 0 ⟨#[125]⟩ [125] rfl _ hP2 (by omega) (by rw [List.length_append, List.length_append]; omega)).mono ?_; rintro e w3 ⟨rfl, hP3, hb3⟩)
          go_roundw
          case rel => exact ⟨k + 1, by omega, by go_num, by rw [HE.out]; exact hP3, ((hSt.trans hb1).trans hb2).trans hb3⟩
          case measure => simp [intOf]; omega
        · obtain rfl : k = p.threads.length := by omega
          rw [List.take_length] at hPt
          go_wp2_with (go_at_call 30; refine (pageString_some _ _ (ptext m n p) 0 _ hPt hne).mono ?_; rintro e w1 ⟨rfl, hb1⟩)
          go_ret
          exact ⟨rfl, hSt0.trans hb1⟩
end Go.Proofs.YtfginegegaokbaaGreatDoor
