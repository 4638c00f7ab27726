/- What Labels of package place answers. Conditions: the declarations lie in memory as a list of at most 1000. -/
import Derived.Test.YtonlfplojhlmjaaPlOf
namespace Go.Proofs.Ytonlfplojhlmjaa.Pl
open Go.ChangeShapes Go.WideShapes Go.RowKit Go.Maps
set_option linter.unusedVariables false
set_option linter.unusedSimpArgs false

/-- A list of labels that the call owns. -/
def LRow (lo : Nat) (w : World) (v : Value) (ls : List Int) : Prop := w.ownsRow lo 33 1 v ls.length (ls.map (Value.int .i64))
theorem lrow_ne {lo : Nat} {w : World} {v : Value} {ls : List Int} (h : LRow lo w v ls) {q : Nat} {d : Pd} (hq : w.heap[q]? = some (dobj d)) : v.ownBlock ≠ some q := fun e => by
  rcases h.2 with ⟨rfl, _⟩ | ⟨g, cap, cur, rfl, _, hgg, _⟩
  · cases e
  · cases e; rw [hgg] at hq; cases hq
theorem own_pos {w : World} {lo : Nat} {e : TypeId} {sz n : Nat} {v : Value} {xs : List Value} (h : w.ownsRow lo e sz v n xs) (hn : 0 < n) : ∃ g cap, v = .slice (some ⟨g, 0, none⟩) n cap := by
  rcases h.2 with ⟨rfl, h0⟩ | ⟨g, cap, cur, rfl, _⟩
  · omega
  · exact ⟨g, cap, rfl⟩
theorem lrow_slice {lo : Nat} {w : World} {v : Value} {ls : List Int} (h : LRow lo w v ls) : ∃ ao cap, v = .slice ao ls.length cap := by
  rcases h.2 with ⟨rfl, h0⟩ | ⟨g, cap, cur, rfl, _⟩
  · exact ⟨none, 0, by rw [h0]⟩
  · exact ⟨_, _, rfl⟩
/-- The inner loop's state. -/
def LbInv (w : World) (q : Nat) (d : Pd) (L : List Int) (v : Value) (j : Nat) (wr : World) : Prop :=
  LRow w.heap.size wr v (L ++ List.replicate j (labelP d)) ∧ wr.heap[q]? = some (dobj d) ∧ Below w.heap.size w wr ∧ w.heap.size ≤ q
theorem lb_step {w : World} {q : Nat} {d : Pd} {L : List Int} {v : Value} {j : Nat} {wr w1 w2 : World} {v2 : Value} (h : LbInv w q d L v j wr) (hb : Below wr.heap.size wr w1) (hw : w1.ownsRow w.heap.size 33 1 v (L ++ List.replicate j (labelP d)).length ((L ++ List.replicate j (labelP d)).map (Value.int .i64)))
    (ho : w2.ownsRow w.heap.size 33 1 v2 ((L ++ List.replicate j (labelP d)).length + 1) ((L ++ List.replicate j (labelP d)).map (Value.int .i64) ++ [.int .i64 (labelP d)])) (hg : w1.grownBy w2 v.ownBlock) : LbInv w q d L v2 (j + 1) w2 := by
  obtain ⟨h1, h2, h3, h4⟩ := h
  have e : L ++ List.replicate (j + 1) (labelP d) = (L ++ List.replicate j (labelP d)) ++ [labelP d] := by rw [List.append_assoc, List.replicate_succ']
  have hq1 : w1.heap[q]? = some (dobj d) := (hb.block _ (heap_lt h2)).trans h2
  refine ⟨?_, ?_, ?_, h4⟩
  · rw [e]
    show w2.ownsRow _ _ _ _ _ _
    rw [List.length_append, List.map_append]
    exact ho
  · exact (hg.block q (heap_lt hq1) (fun e => lrow_ne (ls := L ++ List.replicate j (labelP d)) hw hq1 e.symm)).trans hq1
  · refine (h3.trans (hb.mono h3.size)).trans ⟨hg.os, hg.tape, hg.output, hg.size, fun k hk => hg.block k (by have := h3.size; have := hb.size; omega) ?_⟩
    intro e
    rcases hw.2 with ⟨rfl, _⟩ | ⟨g, cap, cur, rfl, hlo, hgg, _⟩
    · cases e
    · cases e; exact Nat.lt_irrefl _ (Nat.lt_of_lt_of_le hk hlo)

set_option maxHeartbeats 4000000 in
set_option maxRecDepth 100000 in
theorem labels_any (ds : List Pd) (v : Value) (w : World) (hds : PsAt w v ds) : Calls Try.prog 11 #[v] w fun e w' => ∃ v', e = .returned v' ∧ LRow w.heap.size w' v' (labelsP ds) ∧ Below w.heap.size w w' := by
  obtain ⟨ao, cap, rfl, hlen, hr⟩ := hds
  have HR := Lib.hid hr
  clear hr
  go_enter Try.func11, Try.ntmps11
  go_wp2
  go_loopw [3, 8] (fun v i wr => ∃ k : Nat, k ≤ ds.length ∧ i = .int .i64 k ∧ LRow w.heap.size wr v (labelsP (ds.take k)) ∧ Below w.heap.size w wr) (fun _ i _ => ds.length - (intOf i).toNat)
  case atStart => exact ⟨0, Nat.zero_le _, rfl, World.ownsRow_nil _ _ _ _, Below.refl _ _⟩
  case round =>
    obtain ⟨k, hk, rfl, hL, hBr⟩ := hrel
    by_cases hlt : k < ds.length
    · obtain ⟨d, hd⟩ : ∃ d, ds[k]? = some d := ⟨ds[k], by simp [hlt]⟩
      obtain ⟨n1, g, off, rfl, hg, p0, p1, p2, p3, p4, p5⟩ := HR.out k d hd
      have key : ∀ j u, w.cell? ⟨g, j, none⟩ = some u → wr.cell? ⟨g, j, none⟩ = some u := fun j u hu => (World.cell?_of_block (hBr.block g hg)).trans hu
      replace p0 := key _ _ p0
      replace p1 := key _ _ p1
      replace p2 := key _ _ p2
      replace p3 := key _ _ p3
      replace p4 := key _ _ p4
      replace p5 := key _ _ p5
      clear key
      have hll : ((labelsP (ds.take k)).length : Int) ≤ 64000 := by
        have h1 := size_nonneg (ds.take k)
        rw [← labels_len, List.length_take, Nat.min_eq_left hk] at h1
        omega
      obtain ⟨C, hC⟩ : ∃ C : Nat, (C : Int) = cellsP d := ⟨(cellsP d).toNat, by have := cells_pos d; omega⟩
      have hC1 : 1 ≤ C ∧ C ≤ 64 := by have := cells_pos d; omega
      have hca : ∀ w, Calls Try.prog 14 #[dval d] w fun e w' => e = .returned (.int .i64 (C : Int)) ∧ Below w.heap.size w w' := fun w => hC ▸ cells_any d w
      obtain ⟨wq, rfl⟩ : ∃ wq, wq = wr := ⟨wr, rfl⟩
      obtain ⟨L, hLL⟩ : ∃ L, L = labelsP (ds.take k) := ⟨_, rfl⟩
      rw [← hLL] at hL hll
      have hbelow : Below wq.heap.size wq (wq.alloc (dobj d)) := (Below.refl _ _).alloc (Nat.le_refl _) _
      have hD1 : (wq.alloc (dobj d)).heap[wq.heap.size]? = some (dobj d) := by rw [alloc_at, if_pos rfl]
      have hsz := hBr.size
      have I0 : LbInv w wq.heap.size d L u3 (0 : Nat) (wq.alloc (dobj d)) := ⟨by
        show World.ownsRow _ _ _ _ _ _ _
        simp only [List.replicate_zero, List.append_nil]
        exact own_keepB hL hbelow, hD1, hBr.trans (hbelow.mono hsz), hsz⟩
      have hstep : labelsP (ds.take (k + 1)) = L ++ List.replicate C (labelP d) := by rw [take_snoc hd, labels_snoc, ← hLL, ← hC]; simp
      have HL := Lib.hid hLL
      have HS := Lib.hid hstep
      have HI := Lib.hid I0
      have HCC := Lib.hid hC
      clear hLL hL hbelow hD1 hd hstep I0 hC
      go_wp2_with (go_at_call 14; refine (hca _).mono ?_; rintro e w3 ⟨rfl, hb3⟩; have hI3 : LbInv w wq.heap.size d L u3 0 w3 := ⟨own_keepB HI.out.1 hb3, (hb3.block _ (heap_lt HI.out.2.1)).trans HI.out.2.1, HI.out.2.2.1.trans (hb3.mono HI.out.2.2.1.size), hsz⟩)
      have HI3 := Lib.hid hI3
      clear hI3 HI
      go_loopw [3, 14] (fun v i wr => ∃ j : Nat, j ≤ C ∧ i = .int .i64 j ∧ LbInv w wq.heap.size d L v j wr) (fun _ i _ => C - (intOf i).toNat)
      case atStart => exact ⟨0, Nat.zero_le _, rfl, HI3.out⟩
      case round =>
        obtain ⟨j, hj, rfl, hI⟩ := hrel
        by_cases hlj : j < C
        · obtain ⟨x0, x1, x2, x3, x4, x5⟩ := dobj_cells hI.2.1
          have HJ := Lib.hid hI
          obtain ⟨M, hM⟩ : ∃ M, M = L ++ List.replicate j (labelP d) := ⟨_, rfl⟩
          have hMl : (M.length : Int) ≤ 64100 := by rw [hM, List.length_append, List.length_replicate]; omega
          obtain ⟨ao3, cp3, hv3⟩ := lrow_slice hI.1
          obtain ⟨i0, hi, hz0, hz1, hz2⟩ := info_parts infoL
          have HM := Lib.hid hM
          have HV := Lib.hid hv3
          clear hI hM hv3
          go_wp2_with (first
            | (go_at_call 15; refine (label_any d _).mono ?_; rintro e w4 ⟨rfl, hb4⟩; have hw4 : (w4.alloc (.cells #[.int .i64 (labelP d)] 33)).ownsRow w.heap.size 33 1 u3 M.length (M.map (Value.int .i64)) := HM.out ▸ own_keepB HJ.out.1 (hb4.alloc hb4.size _))
            | (at_builtin; refine wpList_append_own_at _ rfl _ _ 31 rfl w.heap.size 33 i0 (.int .i64 0) 1 8 Try.underlying31 hi hz0 hz1 hz2 rfl (by decide) u3 M.length _ rfl hw4 ⟨w4.heap.size, 0, none⟩ 1 1 [.int .i64 (labelP d)] rfl rfl (cell_one_new _ _ _) (by simp [Value.oneCell']) (by unfold maxLen; omega) (by omega) (by simp; have := HJ.out.2.2.1.size; have := hb4.size; omega) ?_; intro v5 w5 hown5 hgrow hnil hloc; obtain ⟨g5, cap5, rfl⟩ := own_pos hown5 (by omega)))
          go_roundw
          case rel =>
            refine ⟨j + 1, by omega, by go_num, ?_⟩
            exact lb_step HJ.out (hb4.alloc hb4.size _) (HM.out ▸ hw4) (HM.out ▸ hown5) hgrow
          case measure => simp [intOf]; omega
        · obtain rfl : j = C := by omega
          have HJ := Lib.hid hI
          clear hI
          go_wp2
          go_roundw
          case rel =>
            refine ⟨k + 1, by omega, by go_num, ?_, HJ.out.2.2.1⟩
            rw [HS.out]
            exact HJ.out.1
          case measure => simp [intOf]; omega
    · obtain rfl : k = ds.length := by omega
      rw [List.take_length] at hL
      go_wp2
      go_returns
      exact ⟨_, rfl, hL, hBr⟩
end Go.Proofs.Ytonlfplojhlmjaa.Pl
