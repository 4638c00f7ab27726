/- What Enter of package scope does. Conditions: the scope lies in memory as its texts lay it. -/
import Derived.Test.YtnpennclgenppaaDoorScCalls
namespace Go.Proofs.YtnpennclgenppaaDoor
open Go.ChangeShapes Go.WideShapes Go.RowKit Go.Maps
set_option linter.unusedVariables false
set_option linter.unusedSimpArgs false
theorem Tryd.infoS : (Tryd.prog.info? 9).map (fun i => (i.zero, i.size, i.bytes)) = some (some (.string ⟨#[]⟩), 1, 16) := by kernel_rfl
theorem alloc_at (w : World) (o : Obj) (k : Nat) : (w.alloc o).heap[k]? = if k = w.heap.size then some o else w.heap[k]? := by
  show (w.heap.push o)[k]? = _
  rw [Array.getElem?_push]
theorem alloc_size (w : World) (o : Obj) : (w.alloc o).heap.size = w.heap.size + 1 := by simp
theorem set_heap {w : World} {b : Nat} {cs : Array Value} {t : TypeId} {fr : Nat × Nat} (h : w.heap[b]? = some (.cells cs t fr)) (j : Nat) (u : Value) : (w.setCell ⟨b, j, none⟩ u).heap[b]? = some (.cells (cs.setIfInBounds j u) t fr) := by
  simp [World.setCell, Array.getElem?_modify, h]

theorem owns_below {w w' : World} {b n : Nat} {D : DataW Mng} (h : w.ownsMap Tryd.prog 9 mread b n D) (hb : Below w.heap.size w w') : w'.ownsMap Tryd.prog 9 mread b n D := h.kept (row := none) ⟨hb.os, hb.tape, hb.output, hb.size, fun k hk _ => hb.block k hk⟩ (by simp)
theorem undrew_below {w w1 : World} (h : Below w.drew.heap.size w.drew w1) : Below w.heap.size w w1 := ⟨h.os, h.tape, h.output, h.size, h.block⟩
theorem map_not_nil (b : Nat) (w : World) : (binOp BinOp.eql 50 (.map (some b)) (.map none)).run Tryd.prog w = .ok (.bool false) w := by kernel_rfl
theorem own_pos {w : World} {e : TypeId} {sz n : Nat} {v : Value} {xs : List Value} (h : w.ownsRow 0 e sz v n xs) (hn : 0 < n) : ∃ g cap, v = .slice (some ⟨g, 0, none⟩) n cap := by
  rcases h.2 with ⟨rfl, h0⟩ | ⟨g, cap, cur, rfl, _⟩
  · omega
  · exact ⟨g, cap, rfl⟩
/-- A name that stands for something is not entered. -/
theorem enter_no {X : Nat → Prop} {bs n : Nat} {f : ByteArray → Mng} {ls : List ByteArray} {w : World} (h : ScAt X bs n f ls w) (s : ByteArray) (hs : s.size ≤ maxLen) (l c : Int) (hf : (f s).kind ≠ 0) :
    Calls Tryd.prog 12 #[.pointer (some ⟨bs, 0, none⟩), .string s, .int .i64 l, .int .i64 c] w fun e w' => e = .returned (.bool false) ∧ w' = w := by
  have hc := has_any h s hs
  have hd : ((f s).kind != 0) = true := by simpa using hf
  rw [hd] at hc
  clear h hd
  go_enter Tryd.func12, Tryd.ntmps12
  go_wp2_with (go_at_call 13; refine hc.mono ?_; rintro e w' ⟨rfl, rfl⟩)
  go_ret
  simp

set_option maxHeartbeats 2000000 in
set_option maxRecDepth 100000 in
/-- Else it is the last local. -/
theorem enter_yes {X : Nat → Prop} {bs n : Nat} {f : ByteArray → Mng} {ls : List ByteArray} {w : World} (h : ScAt X bs n f ls w) (hXn : ∀ k, X k → k < w.heap.size) (hn : n < maxLen) (hlen : ls.length < 1000000) (s : ByteArray) (hs : s.size ≤ maxLen) (l c : Int) (hf : (f s).kind = 0) :
    Calls Tryd.prog 12 #[.pointer (some ⟨bs, 0, none⟩), .string s, .int .i64 l, .int .i64 c] w fun e w' => e = .returned (.bool true) ∧ ScAt X bs (n + 1) (put f s (localM l c)) (ls ++ [s]) w' ∧ KeepX X w w' := by
  have hc := has_any h s hs
  have hd : ((f s).kind != 0) = false := by simpa using hf
  rw [hd] at hc
  have H := Lib.hid h
  obtain ⟨hX, bm, D, lv, hm, hb, ho, hS, hr, hg, hl⟩ := h
  obtain ⟨c0, c1, z0, z1⟩ := sc_cells hb
  have hlt := heap_lt hb
  have hmn := map_not_nil
  have HB := Lib.hid hb
  have HO := Lib.hid ho
  have HR := Lib.hid hr
  clear hd hb ho hr
  go_enter Tryd.func12, Tryd.ntmps12
  go_wp2_with (go_at_call 13; refine hc.mono ?_; rintro e w' ⟨rfl, rfl⟩)
  go_region_with (go_at_call 17; refine (local_any l c _).mono ?_; rintro e w1 ⟨rfl, hb1⟩; replace hb1 := undrew_below hb1; have d0 : w1.cell? ⟨bs, 0, none⟩ = some (.map (some bm)) := (World.cell?_of_block (hb1.block bs hlt)).trans c0; obtain ⟨w2, hrun, ho2, hg2⟩ := (owns_below HO.out hb1).update law Tryd.underlying50 hn (klit_key s hs) (mread_mk (localM l c)))
  all_goals
    have hbm : bs ≠ bm := fun e => by
      obtain ⟨es, ck, hq, _⟩ := HO.out
      rw [← e, HB.out] at hq; cases hq
    have k2 : w2.heap[bs]? = some (.cells #[.map (some bm), lv] 52 (0, 0)) := (hg2.block bs (Nat.lt_of_lt_of_le hlt hb1.size) (by simpa using hbm)).trans ((hb1.block bs hlt).trans HB.out)
    have hrow : ∀ g, lv.ownBlock = some g → ∃ cur, w2.heap[g]? = some (.cells cur 9 (0, 0)) ∧ w'.heap[g]? = some (.cells cur 9 (0, 0)) := fun g e => by
      obtain ⟨cur, hc⟩ := own_lt HR.out e
      refine ⟨cur, ?_, hc⟩
      refine (hg2.block g (Nat.lt_of_lt_of_le (heap_lt hc) hb1.size) ?_).trans ((hb1.block g (heap_lt hc)).trans hc)
      intro e2
      obtain ⟨es, ck, hq, _⟩ := HO.out
      simp only [Option.some.injEq] at e2
      rw [← e2, hc] at hq; cases hq
    have hr2 : w2.ownsRow 0 9 1 lv ls.length (ls.map Value.string) := own_keep HR.out fun g e => by
      obtain ⟨cur, h1, h2⟩ := hrow g e
      rw [h1, h2]
    obtain ⟨e0, e1, y0, y1⟩ := sc_cells k2
    obtain ⟨i0, hi, hz0, hz1, hz2⟩ := info_parts Tryd.infoS
    have hne : ∀ g, lv.ownBlock = some g → g ≠ bs := fun g e e2 => by
      obtain ⟨cur, h1, h2⟩ := hrow g e
      rw [e2, k2] at h1; cases h1
    have hlt2 := heap_lt k2
    have H2 := Lib.hid hr2
    have K2 := Lib.hid k2
    have O2 := Lib.hid ho2
    clear hr2 k2 ho2 hrun
    go_wp2_with (at_builtin; refine wpList_append_own_at _ rfl _ _ 46 rfl 0 9 i0 (.string ⟨#[]⟩) 1 16 Tryd.underlying46 hi hz0 hz1 hz2 rfl (by decide) _ _ _ rfl (H2.out.alloc _) ⟨w2.heap.size, 0, none⟩ 1 1 [.string s] rfl rfl (cell_one_new _ _ _) (by simp [Value.oneCell']) (by unfold maxLen; omega) (by omega) (Nat.zero_le _) ?_; intro v3 w3 hown3 hgrow hnil hloc; obtain ⟨g3, cap3, rfl⟩ := own_pos hown3 (by omega); have k3 := (sc_cells ((hgrow.block bs (by simp; omega) (fun e => hne bs e.symm rfl)).trans ((Lib.alloc_old w2 _ bs (heap_lt K2.out)).trans K2.out))); obtain ⟨q0, q1, q2, q3⟩ := k3)
    go_ret
    have hg3 : w2.grownBy w3 lv.ownBlock := (World.grownBy_alloc w2 _ _).trans hgrow
    have k3 : w3.heap[bs]? = some (.cells #[.map (some bm), lv] 52 (0, 0)) := (hg3.block bs hlt2 (fun e => hne bs e.symm rfl)).trans K2.out
    have hv3 : ∀ g, (Value.slice (some ⟨g3, 0, none⟩) (ls.length + 1) cap3).ownBlock = some g → ¬ X g := fun g e hx => by
      rcases hloc with h | h
      · exact hg g (h ▸ e) hx
      · rw [h] at e; simp only [Option.some.injEq, alloc_size] at e; have := hXn g hx; have := hg2.size; have := hb1.size; omega
    have k4 := set_heap k3 1 (.slice (some ⟨g3, 0, none⟩) (ls.length + 1) cap3)
    have hsz : w'.heap.size ≤ w3.heap.size := Nat.le_trans hb1.size (Nat.le_trans hg2.size hg3.size)
    have kx : KeepX X w' w3 := ((KeepX.of_below hb1).trans (KeepX.grown hg2 (fun k e => by cases e; exact hm))).trans (KeepX.grown hg3 hg)
    have hbm3 : bm ≠ bs := fun e => hbm e.symm
    refine ⟨rfl, ⟨hX, bm, _, _, hm, k4, ?_, hS.put HO.out.isMap s (localM l c), ?_, hv3, ?_⟩, kx.setCell (.inl hX) _⟩
    · refine (O2.out.kept hg3 ?_).setCell hbm3 _
      intro e
      obtain ⟨cur, h1, h2⟩ := hrow bm e.symm
      obtain ⟨es, ck, hq, _⟩ := O2.out
      rw [hq] at h1; cases h1
    · have e1 : (ls ++ [s]).length = ls.length + 1 := by simp
      have e2 : (ls ++ [s]).map Value.string = ls.map Value.string ++ [Value.string s] := by simp
      rw [e1, e2]
      refine own_keep hown3 fun g e => Below.heap_setCell _ _ _ _ ?_
      intro e3
      obtain ⟨cur, h1⟩ := own_lt hown3 e
      rw [e3, k3] at h1; cases h1
    · intro t ht
      rcases List.mem_append.1 ht with ht | ht
      · exact hl t ht
      · simp at ht; subst ht; exact hs
end Go.Proofs.YtnpennclgenppaaDoor
