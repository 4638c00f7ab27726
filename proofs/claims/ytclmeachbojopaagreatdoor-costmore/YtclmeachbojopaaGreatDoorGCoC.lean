/- Own texts laid together: CoCheck, CoSmall. Conditions: as each theorem says. -/
import Derived.Test.YtclmeachbojopaaGreatDoorGCoA
import Derived.Test.YtclmeachbojopaaGreatDoorGLxA
set_option linter.unusedVariables false
set_option linter.unusedSimpArgs false
namespace Go.Proofs.YtclmeachbojopaaGreatDoor.Co
open Go.ChangeShapes Go.WideShapes Go.ChangeAt Go.RowKit
theorem thrs_later {m n : Nat} {w w' : World} {v : Value} {ts : List (List Stm)} (h : Thrs 0 w.heap.size m n w v ts) (hb : Below w.heap.size w w') : Thrs 0 w'.heap.size m n w' v ts := by
  obtain ⟨ao, cap, rfl, hl, h⟩ := h
  refine ⟨ao, cap, rfl, hl, fun i ss hs => ?_⟩
  obtain ⟨g, off, tao, tcap, e, hlo, hg, ⟨cs, fr, hc⟩, h0, h1⟩ := h i ss hs
  have := hb.size
  exact ⟨g, off, tao, tcap, e, hlo, by omega, ⟨cs, fr, (hb.block g hg).trans hc⟩, (hb.cell (p := ⟨g, _, none⟩) hg).trans h0, stms_later h1 hb⟩
set_option maxHeartbeats 2000000 in
set_option maxRecDepth 100000 in
theorem check_ok {m n : Nat} (dao : Option Addr) (dl dc : Nat) (tv : Value) (ts : List (List Stm)) (w : World) (hT : Thrs 0 w.heap.size m n w tv ts) (hall : ∀ (j : Nat) (ss : List Stm), ts[j]? = some ss -> bcost m n ss <= 1048576) :
    Calls Tryz.prog 14 #[.agg #[.slice dao dl dc, tv]] w fun e w' => e = .returned .nilIface /\ Below w.heap.size w w' := by
  have HT := Lib.hid hT
  have HA := Lib.hid hall
  clear hall
  obtain ⟨ao, cap, rfl, hl, _⟩ := hT
  go_enter Tryz.func14, Tryz.ntmps14
  go_wp2
  go_loopw [8] (fun i wr => ∃ k : Nat, k <= ts.length /\ i = .int .i64 k /\ Below w.heap.size w wr) (fun i _ => ts.length - (intOf i).toNat)
  case atStart => exact ⟨0, Nat.zero_le _, rfl, (Below.refl _ _).alloc (Nat.le_refl _) _⟩
  case round =>
    obtain ⟨k, hk, rfl, hbr⟩ := hrel
    have hzr := hbr.size
    by_cases hlt : k < ts.length
    · obtain ⟨ss, hx⟩ : ∃ x, ts[k]? = some x := ⟨ts[k], by simp [hlt]⟩
      obtain ⟨_, _, e, _, hKr⟩ := thrs_later HT.out hbr
      cases e
      obtain ⟨g, off, tao, tcap, rfl, _, hg, _, h0, hS⟩ := hKr k ss hx
      have P := block_all m n (.slice tao ss.length tcap) ss wr hS
      have hc := HA.out k ss hx
      generalize bcost m n ss = c at P hc
      have hc1 : ¬ (c : Int) = 1048577 := by omega
      clear hKr hS hx
      go_wp2_with (go_at_call 9; refine P.mono ?_; rintro e w1 ⟨rfl, hb1⟩)
      go_roundw
      case rel => exact ⟨k + 1, by omega, by go_num, hbr.trans (hb1.mono hzr)⟩
      case measure => simp [intOf]; omega
    · obtain rfl : k = ts.length := by omega
      go_wp2
      go_ret
      exact ⟨rfl, hbr⟩
set_option maxHeartbeats 2000000 in
set_option maxRecDepth 100000 in
theorem check_bad {m n : Nat} (dao : Option Addr) (dl dc : Nat) (tv : Value) (ts : List (List Stm)) (w : World) (hT : Thrs 0 w.heap.size m (n + 1) w tv ts) (q : Nat) (s : Stm) (rest : List Stm) (hq : ts[q]? = some (s :: rest)) (hbad : bcost m (n + 1) (s :: rest) = 1048577) (hall : ∀ (j : Nat) (ss : List Stm), j < q -> ts[j]? = some ss -> bcost m (n + 1) ss <= 1048576) :
    Calls Tryz.prog 14 #[.agg #[.slice dao dl dc, tv]] w fun e w' => ∃ fb, e = .returned (.iface 70 (.pointer (some ⟨fb, 0, none⟩))) /\ w'.heap[fb]? = some (.cells #[.int .i64 s.at_, .iface 46 (.int .i64 6)] 73 (0, 0)) /\ Below w.heap.size w w' := by
  have HT := Lib.hid hT
  have HA := Lib.hid hall
  clear hall
  obtain ⟨ao, cap, rfl, hl, _⟩ := hT
  have hql : q < ts.length := (List.getElem?_eq_some_iff.1 hq).1
  have HQ := Lib.hid hq
  have HB := Lib.hid hbad
  clear hq hbad
  go_enter Tryz.func14, Tryz.ntmps14
  go_wp2
  go_loopw [8] (fun i wr => ∃ k : Nat, k <= q /\ i = .int .i64 k /\ Below w.heap.size w wr) (fun i _ => ts.length - (intOf i).toNat)
  case atStart => exact ⟨0, Nat.zero_le _, rfl, (Below.refl _ _).alloc (Nat.le_refl _) _⟩
  case round =>
    obtain ⟨k, hk, rfl, hbr⟩ := hrel
    have hzr := hbr.size
    have hlt : k < ts.length := by omega
    by_cases hkq : k < q
    · obtain ⟨ss, hx⟩ : ∃ x, ts[k]? = some x := ⟨ts[k], by simp [hlt]⟩
      obtain ⟨_, _, e, _, hKr⟩ := thrs_later HT.out hbr
      cases e
      obtain ⟨g, off, tao, tcap, rfl, _, hg, _, h0, hS⟩ := hKr k ss hx
      have P := block_all m (n + 1) (.slice tao ss.length tcap) ss wr hS
      have hc := HA.out k ss hkq hx
      generalize bcost m (n + 1) ss = c at P hc
      have hc1 : ¬ (c : Int) = 1048577 := by omega
      clear hKr hS hx
      go_wp2_with (go_at_call 9; refine P.mono ?_; rintro e w1 ⟨rfl, hb1⟩)
      go_roundw
      case rel => exact ⟨k + 1, by omega, by go_num, hbr.trans (hb1.mono hzr)⟩
      case measure => simp [intOf]; omega
    · obtain rfl : k = q := by omega
      obtain ⟨_, _, e, _, hKr⟩ := thrs_later HT.out hbr
      cases e
      obtain ⟨g, off, tao, tcap, rfl, _, hg, _, h0, hS⟩ := hKr k _ HQ.out
      have P := block_all m (n + 1) (.slice tao (s :: rest).length tcap) (s :: rest) wr hS
      rw [HB.out] at P
      obtain ⟨_, _, e, _, hSr⟩ := hS
      cases e
      obtain ⟨g2, off2, c0, c1, c2, c3, c4, c5, c6, rfl, _, hg2, _, i0, i1, i2, i3, i4, i5, i6, hr⟩ := hSr 0 s rfl
      obtain ⟨_, _, _, ea, ec, ba, bc, la, lc, hv, _⟩ := hr
      simp only [Value.agg.injEq, Array.mk.injEq, List.cons.injEq, and_true] at hv
      obtain ⟨rfl, rfl, rfl, rfl, rfl, rfl, rfl⟩ := hv
      rw [Nat.zero_mul, Nat.add_zero] at i6
      have hLs : 0 < (s :: rest).length := by simp
      generalize (s :: rest).length = L at P hLs h0
      clear hKr hSr i0 i1 i2 i3 i4 i5
      go_wp2_with (first
        | (go_at_call 25; refine (Lx.wrap_any _ _ _).mono ?_; rintro e w2 ⟨rfl, rfl⟩)
        | (go_at_call 9; refine P.mono ?_; rintro e w1 ⟨rfl, hb1⟩; have i6' := (hb1.cell (p := ⟨g2, off2 + 6, none⟩) hg2).trans i6))
      go_ret
      have hz1 := hb1.size
      refine ⟨_, rfl, heap_alloc_new _ _, ?_⟩
      exact (hbr.trans (hb1.mono hzr)).alloc (by omega) _
theorem thrs_two {m n g : Nat} {w W : World} {ao bo : Option Addr} {ac bc : Nat} {ss ts : List Stm} (hb : Below w.heap.size w W) (hh : W.heap[g]? = some (.cells #[.slice ao ss.length ac, .slice bo ts.length bc] 29 (0, 0)))
    (hs : Stms 0 w.heap.size w (fun v' s' => SRep 0 w.heap.size w m n v' s') (.slice ao ss.length ac) ss) (ht : Stms 0 w.heap.size w (fun v' s' => SRep 0 w.heap.size w m n v' s') (.slice bo ts.length bc) ts) :
    Thrs 0 W.heap.size m n W (.slice (some ⟨g, 0, none⟩) 2 2) [ss, ts] := by
  refine ⟨_, 2, rfl, by simp, fun i x hx => ?_⟩
  match i with
  | 0 =>
    simp at hx; subst hx
    exact ⟨g, 0, ao, ac, rfl, Nat.zero_le _, heap_lt hh, ⟨_, _, hh⟩, by rw [Lib.cell_of_heap hh]; rfl, stms_later hs hb⟩
  | 1 =>
    simp at hx; subst hx
    exact ⟨g, 0, bo, bc, rfl, Nat.zero_le _, heap_lt hh, ⟨_, _, hh⟩, by rw [Lib.cell_of_heap hh]; rfl, stms_later ht hb⟩
  | i + 2 => simp at hx
theorem stms_one {m n g : Nat} {w W : World} {c0 c1 c2 c3 c4 c5 c6 : Value} {s : Stm} (hb : Below w.heap.size w W) (hh : W.heap[g]? = some (.cells #[c0, c1, c2, c3, c4, c5, c6] 34 (0, 0))) (hs : SRep 0 w.heap.size w m n (.agg #[c0, c1, c2, c3, c4, c5, c6]) s) :
    Stms 0 W.heap.size W (fun v' s' => SRep 0 W.heap.size W m n v' s') (.slice (some ⟨g, 0, none⟩) 1 1) [s] := by
  obtain ⟨h0, h1, h2, h3, h4, h5, h6⟩ := stmt_cells hh
  refine ⟨_, 1, rfl, by simp, fun i x hx => ?_⟩
  match i with
  | 0 =>
    simp at hx; subst hx
    exact ⟨g, 0, c0, c1, c2, c3, c4, c5, c6, rfl, Nat.zero_le _, heap_lt hh, ⟨_, _, hh, rfl, rfl⟩, h0, h1, h2, h3, h4, h5, h6, srep_later hs hb⟩
  | i + 1 => simp at hx
theorem stms_two {m n g : Nat} {w W : World} {c0 c1 c2 c3 c4 c5 c6 d0 d1 d2 d3 d4 d5 d6 : Value} {s t : Stm} (hb : Below w.heap.size w W) (hh : W.heap[g]? = some (.cells #[c0, c1, c2, c3, c4, c5, c6, d0, d1, d2, d3, d4, d5, d6] 34 (0, 0))) (hs : SRep 0 w.heap.size w m n (.agg #[c0, c1, c2, c3, c4, c5, c6]) s) (ht : SRep 0 w.heap.size w m n (.agg #[d0, d1, d2, d3, d4, d5, d6]) t) :
    Stms 0 W.heap.size W (fun v' s' => SRep 0 W.heap.size W m n v' s') (.slice (some ⟨g, 0, none⟩) 2 2) [s, t] := by
  refine ⟨_, 2, rfl, by simp, fun i x hx => ?_⟩
  match i with
  | 0 =>
    simp at hx; subst hx
    exact ⟨g, 0, c0, c1, c2, c3, c4, c5, c6, rfl, Nat.zero_le _, heap_lt hh, ⟨_, _, hh, rfl, rfl⟩, by rw [Lib.cell_of_heap hh]; rfl, by rw [Lib.cell_of_heap hh]; rfl, by rw [Lib.cell_of_heap hh]; rfl, by rw [Lib.cell_of_heap hh]; rfl, by rw [Lib.cell_of_heap hh]; rfl, by rw [Lib.cell_of_heap hh]; rfl, by rw [Lib.cell_of_heap hh]; rfl, srep_later hs hb⟩
  | 1 =>
    simp at hx; subst hx
    exact ⟨g, 0, d0, d1, d2, d3, d4, d5, d6, rfl, Nat.zero_le _, heap_lt hh, ⟨_, _, hh, rfl, rfl⟩, by rw [Lib.cell_of_heap hh]; rfl, by rw [Lib.cell_of_heap hh]; rfl, by rw [Lib.cell_of_heap hh]; rfl, by rw [Lib.cell_of_heap hh]; rfl, by rw [Lib.cell_of_heap hh]; rfl, by rw [Lib.cell_of_heap hh]; rfl, by rw [Lib.cell_of_heap hh]; rfl, srep_later ht hb⟩
  | i + 2 => simp at hx
theorem kids_nil {lo B : Nat} {w : World} {R : Value -> Tree -> Prop} : Kids lo B w R (.slice none 0 0) [] := ⟨none, 0, rfl, by simp, fun i k h => by simp at h⟩
theorem bcost_one (m n : Nat) (s : Stm) : bcost m n [s] = scost m n s := by
  have := scost_le m n s
  simp [bcost, sumc]; omega
theorem bcost_nil (m n : Nat) : bcost m n [] = 0 := rfl
theorem two_zero {a : Nat} (h : a <= 1048577) : two a 0 = a := by unfold two; omega
def loopS (nm : ByteArray) (c : Nat) (body : List Stm) (a : Int) : Stm := { kind := 4, name := nm, exprs := [], count := c, body := body, els := [], at_ := a }
theorem scost_loop (m n c : Nat) (nm : ByteArray) (body : List Stm) (a : Int) (hc : c <= 256) : scost m (n + 1) (loopS nm c body a) = min (4 + c * (bcost m n body + 4)) 1048577 := by
  have hb := bcost_le m n body
  have hr : rounds (c : Int) = c := by unfold rounds; omega
  show min (4 + sumc (ecost m) [] + innerc 4 c (two (bcost m n body) (bcost m n []))) 1048577 = _
  rw [sumc_nil, bcost_nil, two_zero hb]
  unfold innerc
  rw [if_pos rfl, hr, Nat.add_comm 4 (bcost m n body)]
theorem loop_rep {m n c : Nat} {w : World} {nm : ByteArray} {body : List Stm} {a : Int} {bao : Option Addr} {bcap : Nat} (hc : c <= 256) (hn : nm.size <= 100) (hB : Stms 0 w.heap.size w (fun v' s' => SRep 0 w.heap.size w m n v' s') (.slice bao body.length bcap) body) :
    SRep 0 w.heap.size w m (n + 1) (.agg #[.int .i64 4, .string nm, .slice none 0 0, .int .i64 (c : Int), .slice bao body.length bcap, .slice none 0 0, .int .i64 a]) (loopS nm c body a) :=
  ⟨by simp only [loopS]; omega, by simp only [loopS]; omega, by simp only [loopS]; omega, none, 0, bao, bcap, none, 0, rfl, kids_nil, hB, stms0⟩
end Go.Proofs.YtclmeachbojopaaGreatDoor.Co
