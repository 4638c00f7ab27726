/- What Of and Labels of package place answer. Conditions: the declarations lie in memory as a list of at most 1000. -/
import Derived.Test.YtonlfplojhlmjaaPlRep
namespace Go.Proofs.Ytonlfplojhlmjaa.Pl
open Go.ChangeShapes Go.WideShapes Go.RowKit Go.Maps
set_option linter.unusedVariables false
set_option linter.unusedSimpArgs false

theorem take_snoc {ds : List Pd} {k : Nat} {d : Pd} (h : ds[k]? = some d) : ds.take (k + 1) = ds.take k ++ [d] := by
  rw [List.take_add_one, h]; rfl
theorem set_heap {w : World} {b : Nat} {cs : Array Value} {t : TypeId} {fr : Nat × Nat} (h : w.heap[b]? = some (.cells cs t fr)) (j : Nat) (u : Value) : (w.setCell ⟨b, j, none⟩ u).heap[b]? = some (.cells (cs.setIfInBounds j u) t fr) := by
  simp [World.setCell, Array.getElem?_modify, h]
/-- The state of Of's loop: the map at block B + 1, what is counted at block B + 2, the answer's box at block B. -/
def OfInv (w : World) (ds : List Pd) (k : Nat) (wr : World) : Prop :=
  MpAt (w.heap.size + 1) k (startsP (ds.take k) none0 0) wr ∧ wr.heap[w.heap.size]? = some (.cells #[.map none, .int .i64 0] 29 (0, 0)) ∧ wr.heap[w.heap.size + 1 + 1]? = some (.cells #[.map (some (w.heap.size + 1)), .int .i64 (sizeP (ds.take k))] 29 (0, 0)) ∧ Below w.heap.size w wr
theorem of_step {w : World} {ds : List Pd} {k : Nat} {wr w1 w2 : World} {d : Pd} (hd : ds[k]? = some d) (h : OfInv w ds k wr) (hm : MpAt (w.heap.size + 1) (k + 1) (stepF (startsP (ds.take k) none0 0) (sizeP (ds.take k)) d) w1) (hg : wr.grownBy w1 (some (w.heap.size + 1))) (hb : Below w1.heap.size w1 w2) :
    OfInv w ds (k + 1) (w2.setCell ⟨w.heap.size + 1 + 1, 1, none⟩ (.int .i64 (sizeP (ds.take k) + cellsP d))) := by
  obtain ⟨h1, h2, h3, h4⟩ := h
  have l1 := heap_lt h2
  have l3 := heap_lt h3
  have g1 := hg.size
  have g2 := hb.size
  refine ⟨?_, ?_, ?_, ?_⟩
  · rw [take_snoc hd, starts_snoc, Int.zero_add]
    exact (hm.below hb).setCell (by omega) _
  · rw [Below.heap_setCell _ _ _ _ (by show w.heap.size ≠ w.heap.size + 1 + 1; omega), hb.block _ (by omega), hg.block _ l1 (by simp), h2]
  · rw [take_snoc hd, size_snoc]
    exact set_heap ((hb.block _ (by omega)).trans ((hg.block _ l3 (by simp)).trans h3)) 1 _
  · refine ⟨hb.os.trans (hg.os.trans h4.os), hb.tape.trans (hg.tape.trans h4.tape), hb.output.trans (hg.output.trans h4.output), ?_, fun j hj => ?_⟩
    · have := h4.size; simp [World.setCell]; omega
    · have := h4.size
      rw [Below.heap_setCell _ _ _ _ (by show j ≠ w.heap.size + 1 + 1; omega), hb.block _ (by omega), hg.block _ (by omega) (by simp; omega), h4.block _ hj]
theorem of_start (w : World) (ds : List Pd) : OfInv w ds 0 (((w.alloc (.cells #[.map none, .int .i64 0] 29)).alloc (.map #[] 0)).alloc (.cells #[.map (some (w.heap.size + 1)), .int .i64 0] 29)) := by
  have hs : (w.alloc (.cells #[.map none, .int .i64 0] 29)).heap.size = w.heap.size + 1 := alloc_size _ _
  refine ⟨⟨.map [], ?_, says0⟩, ?_, ?_, (((Below.refl _ _).alloc (Nat.le_refl _) _).alloc (by simp) _).alloc (by simp; omega) _⟩
  · have := (World.ownsMap_made (P := Try.prog) (k := 9) (R := pread) (w.alloc (.cells #[.map none, .int .i64 0] 29)) |>.alloc (.cells #[.map (some (w.heap.size + 1)), .int .i64 0] 29))
    rw [hs] at this
    exact this
  · rw [alloc_at, if_neg (by simp; omega), alloc_at, if_neg (by simp), alloc_at, if_pos rfl]
  · rw [alloc_at, if_pos (by simp)]; rfl

set_option maxHeartbeats 4000000 in
set_option maxRecDepth 100000 in
theorem of_any (ds : List Pd) (v : Value) (w : World) (hds : PsAt w v ds) : Calls Try.prog 10 #[v] w fun e w' => e = .returned (.agg #[.map (some (w.heap.size + 1)), .int .i64 (sizeP ds)]) ∧ MpAt (w.heap.size + 1) ds.length (startsP ds none0 0) w' ∧ Below w.heap.size w w' := by
  obtain ⟨ao, cap, rfl, hlen, hr⟩ := hds
  have HR := Lib.hid hr
  clear hr
  have hmm := @run_makeMap Try.prog
  go_enter Try.func10, Try.ntmps10
  go_wp2
  go_loopw [12] (fun i wr => ∃ k : Nat, k ≤ ds.length ∧ i = .int .i64 k ∧ OfInv w ds k wr) (fun i _ => ds.length - (intOf i).toNat)
  case atStart => exact ⟨0, Nat.zero_le _, rfl, of_start w ds⟩
  case round =>
    obtain ⟨k, hk, rfl, hI⟩ := hrel
    by_cases hlt : k < ds.length
    · obtain ⟨d, hd⟩ : ∃ d, ds[k]? = some d := ⟨ds[k], by simp [hlt]⟩
      obtain ⟨n1, g, off, rfl, hg, p0, p1, p2, p3, p4, p5⟩ := HR.out k d hd
      have hBr := hI.2.2.2
      have key : ∀ j u, w.cell? ⟨g, j, none⟩ = some u → wr.cell? ⟨g, j, none⟩ = some u := fun j u hu => (World.cell?_of_block (hBr.block g hg)).trans hu
      replace p0 := key _ _ p0
      replace p1 := key _ _ p1
      replace p2 := key _ _ p2
      replace p3 := key _ _ p3
      replace p4 := key _ _ p4
      replace p5 := key _ _ p5
      clear key
      have hn := size_nonneg (ds.take k)
      rw [List.length_take, Nat.min_eq_left hk] at hn
      have hc := cells_pos d
      obtain ⟨hM, hA, hB, _⟩ := hI
      have hbelow : Below wr.heap.size wr (wr.alloc (dobj d)) := (Below.refl _ _).alloc (Nat.le_refl _) _
      have hM1 := hM.below hbelow
      have HI := Lib.hid (show OfInv w ds k wr from ⟨hM, hA, hB, hBr⟩)
      have Hd := Lib.hid hd
      obtain ⟨f, hf⟩ : ∃ f, f = startsP (ds.take k) none0 0 := ⟨_, rfl⟩
      obtain ⟨n, hnn⟩ : ∃ n, n = sizeP (ds.take k) := ⟨_, rfl⟩
      obtain ⟨c, hcc⟩ : ∃ c, c = cellsP d := ⟨_, rfl⟩
      rw [← hf] at hM hM1
      rw [← hnn] at hB hn
      rw [← hcc] at hc
      have hlook := hM1.look d.name n1
      have hca : ∀ w, Calls Try.prog 14 #[dval d] w fun e w' => e = .returned (.int .i64 c) ∧ Below w.heap.size w w' := fun w => hcc ▸ cells_any d w
      obtain ⟨w2, hrun, hM2, hG2⟩ := hM1.store (n := k) (by unfold maxLen; omega) d.name n1 n
      have hB1 : (wr.alloc (dobj d)).heap[w.heap.size + 1 + 1]? = some (.cells #[.map (some (w.heap.size + 1)), .int .i64 n] 29 (0, 0)) := (hbelow.block _ (heap_lt hB)).trans hB
      have hB2 : w2.heap[w.heap.size + 1 + 1]? = some (.cells #[.map (some (w.heap.size + 1)), .int .i64 n] 29 (0, 0)) := (hG2.block _ (heap_lt hB1) (by simp)).trans hB1
      have hD1 : (wr.alloc (dobj d)).heap[wr.heap.size]? = some (dobj d) := by rw [alloc_at, if_pos rfl]
      have hsz := hBr.size
      have hD2 : w2.heap[wr.heap.size]? = some (dobj d) := (hG2.block _ (by simp) (by have := heap_lt hB; simp; omega)).trans hD1
      have hGr : wr.grownBy (wr.alloc (dobj d)) (some (w.heap.size + 1)) := ⟨hbelow.os, hbelow.tape, hbelow.output, hbelow.size, fun j hj _ => hbelow.block j hj⟩
      have hGr2 : wr.grownBy w2 (some (w.heap.size + 1)) := ⟨hG2.os.trans hGr.os, hG2.tape.trans hGr.tape, hG2.output.trans hGr.output, Nat.le_trans hGr.size hG2.size, fun j hj hne => (hG2.block j (Nat.lt_of_lt_of_le hj hGr.size) hne).trans (hGr.block j hj hne)⟩
      have HF := Lib.hid hf
      have HN := Lib.hid hnn
      have HC := Lib.hid hcc
      have HM1 := Lib.hid hM1
      have HM2 := Lib.hid hM2
      have HG := Lib.hid hGr
      have HG2 := Lib.hid hGr2
      have HB1 := Lib.hid hB1
      have HB2 := Lib.hid hB2
      have HD1 := Lib.hid hD1
      have HD2 := Lib.hid hD2
      obtain ⟨a0, a1, _, a3⟩ := map_cells hB1
      obtain ⟨q0, q1, _, q3⟩ := map_cells hB2
      obtain ⟨x0, x1, x2, x3, x4, x5⟩ := dobj_cells hD2
      clear hf hnn hcc hM hM1 hM2 hG2 hGr hGr2 hd hA hB hB1 hB2 hD1 hD2 hbelow
      cases hA : (f d.name).isSome with
      | true =>
        rw [hA] at hlook
        go_wp2_with fail
        go_region_with (go_at_call 14; refine (hca _).mono ?_; rintro e w3 ⟨rfl, hb3⟩; have hb4 : Below (wr.alloc (dobj d)).heap.size (wr.alloc (dobj d)) w3 := ⟨hb3.os, hb3.tape, hb3.output, hb3.size, hb3.block⟩; have e3 : w3.heap[w.heap.size + 1 + 1]? = _ := (hb4.block _ (heap_lt HB1.out)).trans HB1.out; obtain ⟨y0, y1, _, y3⟩ := map_cells e3)
        all_goals
          go_wp2
          go_roundw
          case rel =>
            refine ⟨k + 1, by omega, by go_num, ?_⟩
            have := of_step (w1 := wr.alloc (dobj d)) (w2 := w3) Hd.out HI.out (by unfold stepF; rw [← HF.out, hA, if_pos rfl]; exact HM1.out.mono (by omega)) HG.out hb4
            rw [← HN.out, ← HC.out] at this
            exact this
          case measure => simp [intOf]; omega
      | false =>
        rw [hA] at hlook
        go_wp2_with fail
        go_region_with (go_at_call 14; refine (hca _).mono ?_; rintro e w3 ⟨rfl, hb3⟩; have hb4 : Below w2.heap.size w2 w3 := ⟨hb3.os, hb3.tape, hb3.output, hb3.size, hb3.block⟩; have e3 : w3.heap[w.heap.size + 1 + 1]? = _ := (hb4.block _ (heap_lt HB2.out)).trans HB2.out; obtain ⟨y0, y1, _, y3⟩ := map_cells e3)
        all_goals
          go_wp2
          go_roundw
          case rel =>
            refine ⟨k + 1, by omega, by go_num, ?_⟩
            have := of_step (w1 := w2) (w2 := w3) Hd.out HI.out (by unfold stepF; rw [← HF.out, ← HN.out, hA, if_neg (by simp)]; exact HM2.out) HG2.out hb4
            rw [← HN.out, ← HC.out] at this
            exact this
          case measure => simp [intOf]; omega
    · obtain rfl : k = ds.length := by omega
      obtain ⟨hM, hA, hB, hBr⟩ := hI
      rw [List.take_length] at hM hB
      obtain ⟨q0, q1, _, q3⟩ := map_cells hB
      obtain ⟨x0, x1, x2, x3⟩ := map_cells hA
      have HM := Lib.hid hM
      clear hM
      have hl := heap_lt hA
      have k1 := set_heap hA 0 (.map (some (w.heap.size + 1)))
      have k2 := set_heap k1 1 (.int .i64 (sizeP ds))
      have z0 : (wr.setCell ⟨w.heap.size, 0, none⟩ (.map (some (w.heap.size + 1)))).cell? ⟨w.heap.size, 0, none⟩ = some (.map (some (w.heap.size + 1))) := (map_cells k1).1
      have z1 : ((wr.setCell ⟨w.heap.size, 0, none⟩ (.map (some (w.heap.size + 1)))).setCell ⟨w.heap.size, 1, none⟩ (.int .i64 (sizeP ds))).cell? ⟨w.heap.size, 1, none⟩ = some (.int .i64 (sizeP ds)) := (map_cells k2).2.1
      clear k1 k2
      go_wp2
      try simp only [Exit.inBlock, Exit.then]
      refine bodyPost_ret (by simp [results, Try.results10, go_sem, z0, z1, Result.andThen]; try rfl) rfl ?_
      refine ⟨rfl, (HM.out.setCell (by omega) _).setCell (by omega) _, ?_⟩
      exact (hBr.setCell (Nat.le_refl _) _).setCell (Nat.le_refl _) _
end Go.Proofs.Ytonlfplojhlmjaa.Pl
