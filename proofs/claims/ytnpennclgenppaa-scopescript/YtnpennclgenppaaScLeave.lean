/- What Leave of package scope does. Conditions: the scope lies in memory as its texts lay it. -/
import Derived.Test.YtnpennclgenppaaScEnter
import Derived.Test.YtnpennclgenppaaShelf
namespace Go.Proofs.Ytnpennclgenppaa
open Go.ChangeShapes Go.WideShapes Go.RowKit Go.Maps Go.Lib Go.Sort
set_option linter.unusedVariables false
set_option linter.unusedSimpArgs false

def putAll (f : ByteArray → Mng) (ss : List ByteArray) : ByteArray → Mng := ss.foldl (fun g s => put g s mnone) f
def delAll (D : DataW Mng) (ss : List ByteArray) : DataW Mng := ss.foldl (fun E s => E.del (klit s)) D
theorem Says.delAll {ss : List ByteArray} : ∀ {D : DataW Mng} {f : ByteArray → Mng}, Says D f → Says (delAll D ss) (putAll f ss) := by
  induction ss with
  | nil => exact fun h => h
  | cons s ss ih => exact fun h => ih (h.del s)
theorem delAll_snoc (D : DataW Mng) (ss : List ByteArray) (s : ByteArray) : delAll D (ss ++ [s]) = (delAll D ss).del (klit s) := by simp [delAll]
theorem putAll_snoc (f : ByteArray → Mng) (ss : List ByteArray) (s : ByteArray) : putAll f (ss ++ [s]) = put (putAll f ss) s mnone := by simp [putAll]

/-- The row's block, some of its cells put anew. -/
theorem put_row {w : World} {g q : Nat} {cur : Array Value} {t : TypeId} {d : Array (List UInt8)} (h : w.heap[g]? = some (.cells cur t (0, 0))) :
    (putRow encStr (Sort.ahead w q) g 0 d).heap[g]? = some (.cells (putCells encStr 0 d cur) t (0, 0)) ∧ (∀ k, k ≠ g → (putRow encStr (Sort.ahead w q) g 0 d).heap[k]? = w.heap[k]?) ∧ (putRow encStr (Sort.ahead w q) g 0 d).heap.size = w.heap.size ∧
    (putRow encStr (Sort.ahead w q) g 0 d).os = w.os ∧ (putRow encStr (Sort.ahead w q) g 0 d).tape = w.tape ∧ (putRow encStr (Sort.ahead w q) g 0 d).output = w.output := by
  refine ⟨?_, fun k hk => ?_, ?_, rfl, rfl, rfl⟩
  · show (w.heap.modify g _)[g]? = _
    rw [Array.getElem?_modify, if_pos rfl, h]; rfl
  · show (w.heap.modify g _)[k]? = _
    rw [Array.getElem?_modify, if_neg (fun e => hk e.symm)]
  · show (w.heap.modify g _).size = _
    simp
theorem put_cells_size (d : Array (List UInt8)) (cur : Array Value) : (putCells encStr 0 d cur).size = cur.size := by simp [putCells]
theorem put_cells_take (zs : List (List UInt8)) (m k : Nat) (cur : Array Value) (hm : m ≤ zs.length) (hc : m ≤ cur.size) : (putCells encStr 0 (zs.take m ++ List.replicate k []).toArray cur).toList.take m = (zs.take m).map encStr := by
  apply List.ext_getElem?
  intro i
  by_cases hi : i < m
  · rw [List.getElem?_take, if_pos hi]
    simp only [putCells, Array.getElem?_toList, Array.getElem?_mapIdx]
    rw [Array.getElem?_eq_getElem (show i < cur.size by omega)]
    simp only [Option.map_some, List.getElem?_map]
    have hz : (zs.take m)[i]? = some zs[i] := by rw [List.getElem?_take, if_pos hi]; simp
    rw [hz, Option.map_some, if_pos ⟨Nat.zero_le _, by simp; omega⟩]
    congr 2
    have : (zs.take m ++ List.replicate k [])[i]? = some zs[i] := by rw [List.getElem?_append_left (by simp; omega)]; exact hz
    simp [this]
  · rw [List.getElem?_take, if_neg hi, List.getElem?_map, List.getElem?_eq_none (by simp; omega)]; rfl

/-- slices.Delete of all behind a mark, at a row that the call owns. -/
theorem delete_tail {w : World} {g cap mark : Nat} {cur : Array Value} {ls : List ByteArray} (hgg : w.heap[g]? = some (.cells cur 9 (0, 0))) (hcap : ls.length ≤ cap) (hcm : cap ≤ maxLen) (hcs : cur.size = cap * 1) (hxs : cur.toList.take (ls.length * 1) = ls.map Value.string) (hm : mark < ls.length) :
    Calls Try.prog 17 #[.slice (some ⟨g, 0, none⟩) ls.length cap, .int .i64 mark, .int .i64 ls.length] w fun e w' => e = .returned (.slice (some ⟨g, 0, none⟩) mark cap) ∧ w.grownBy w' (some g) ∧ w'.ownsRow 0 9 1 (.slice (some ⟨g, 0, none⟩) mark cap) mark ((ls.take mark).map Value.string) := by
  have hcell : ∀ i, i < ls.length → w.cell? ⟨g, i, none⟩ = some (.string (ls.getD i ⟨#[]⟩)) := fun i hi => by
    have e1 : cur.toList[i]? = some (.string (ls.getD i ⟨#[]⟩)) := by
      have : (cur.toList.take (ls.length * 1))[i]? = some (.string (ls.getD i ⟨#[]⟩)) := by
        rw [hxs, List.getElem?_map]
        simp [List.getD, hi]
      rwa [List.getElem?_take, if_pos (by omega)] at this
    rw [Lib.cell_of_heap hgg]
    simpa using e1
  have hH : Holds encStr w g 0 (ls.map (·.data.toList)).toArray := fun j hj => by
    have hj' : j < ls.length := by simpa using hj
    refine ⟨?_, ?_⟩
    · rw [Nat.zero_add, hcell j hj']
      simp [List.getD, hj', encStr]
    · rw [Lib.frozen_of_heap hgg]
  have hdel := Try.slices_Delete_string g 0 cap mark ls.length (ls.map (·.data.toList)) w hH (by simpa using hcap) (by unfold maxLen at hcm; omega) (by omega) (by simp)
  simp only [List.length_map] at hdel
  refine hdel.mono ?_
  rintro e w' ⟨rfl, q, rfl⟩
  have hd0 : List.drop ls.length (List.map (fun x => x.data.toList) ls) = [] := by rw [List.drop_eq_nil_iff]; simp
  rw [hd0, List.append_nil]
  obtain ⟨p1, p2, p3, p4, p5, p6⟩ := put_row (q := q) (d := (List.take mark (List.map (fun x : ByteArray => x.data.toList) ls) ++ List.replicate (ls.length - mark) []).toArray) hgg
  refine ⟨by rw [show ls.length - (ls.length - mark) = mark by omega], ⟨p4, p5, p6, by rw [p3]; exact Nat.le_refl _, fun k _ hk => p2 k (fun e => hk (by rw [e]))⟩, ?_, .inr ⟨g, cap, _, rfl, Nat.zero_le _, p1, by omega, hcm, by rw [put_cells_size]; exact hcs, ?_⟩⟩
  · simp [List.length_take]; omega
  · rw [Nat.mul_one, put_cells_take _ _ _ _ (by simp; omega) (by omega), ← List.map_take, List.map_map]
    apply List.map_congr_left
    intro x _
    rfl

theorem leave_no {X : Nat → Prop} {bs n : Nat} {f : ByteArray → Mng} {ls : List ByteArray} {w : World} (h : ScAt X bs n f ls w) (mark : Int) (hm : mark < 0 ∨ (ls.length : Int) ≤ mark) :
    Calls Try.prog 9 #[.pointer (some ⟨bs, 0, none⟩), .int .i64 mark] w fun e w' => e = .returned (.tuple #[]) ∧ w' = w := by
  obtain ⟨hX, bm, D, lv, hm', hb, ho, hS, hr, hg, hl⟩ := h
  obtain ⟨c0, c1, _, _⟩ := sc_cells hb
  obtain ⟨ao, cap, rfl⟩ : ∃ ao cap, lv = .slice ao ls.length cap := by
    rcases hr.2 with ⟨rfl, h0⟩ | ⟨g, cap, cur, rfl, _⟩
    · exact ⟨none, 0, by rw [h0]⟩
    · exact ⟨_, _, rfl⟩
  clear hr hg hl hb ho
  by_cases h0 : mark < 0
  · have hd : decide (mark < 0) = true := by simpa using h0
    clear hm
    go_enter Try.func9, Try.ntmps9
    go_wp2
    go_returns
    exact ⟨rfl, rfl⟩
  · have hd : decide (mark < 0) = false := by simpa using h0
    have hd2 : decide ((ls.length : Int) ≤ mark) = true := hm.elim (fun h => absurd h h0) (fun h => by simpa using h)
    clear hm
    go_enter Try.func9, Try.ntmps9
    go_wp2
    go_returns
    exact ⟨rfl, rfl⟩

set_option maxHeartbeats 4000000 in
set_option maxRecDepth 100000 in
theorem leave_yes {X : Nat → Prop} {bs n : Nat} {f : ByteArray → Mng} {ls : List ByteArray} {w : World} (h : ScAt X bs n f ls w) (hlen : ls.length < 1000000) (mark : Nat) (hm : mark < ls.length) :
    Calls Try.prog 9 #[.pointer (some ⟨bs, 0, none⟩), .int .i64 mark] w fun e w' => e = .returned (.tuple #[]) ∧ ScAt X bs n (putAll f (ls.drop mark)) (ls.take mark) w' ∧ KeepX X w w' := by
  obtain ⟨hX, bm, D, lv, hmX, hb, ho, hS, hr, hg, hl⟩ := h
  obtain ⟨c0, c1, z0, z1⟩ := sc_cells hb
  obtain ⟨hr1, hr2⟩ := hr
  rcases hr2 with ⟨rfl, h0⟩ | ⟨g, cap, cur, rfl, _, hgg, hcap, hcm, hcs, hxs⟩
  · omega
  have hXg : ¬ X g := hg g rfl
  have hne : bs ≠ bm := fun e => by
    obtain ⟨es, ck, hq, _⟩ := ho
    rw [← e, hb] at hq; cases hq
  have hgm : g ≠ bm := fun e => by
    obtain ⟨es, ck, hq, _⟩ := ho
    rw [← e, hgg] at hq; cases hq
  have hgs : g ≠ bs := fun e => by rw [e, hb] at hgg; cases hgg
  have hd : decide ((mark : Int) < 0) = false := by simp
  have hd2 : decide (ls.length ≤ mark) = false := by simpa using hm
  have hcell : ∀ i, i < ls.length → w.cell? ⟨g, i, none⟩ = some (.string (ls.getD i ⟨#[]⟩)) := fun i hi => by
    have e1 : cur.toList[i]? = some (.string (ls.getD i ⟨#[]⟩)) := by
      have : (cur.toList.take (ls.length * 1))[i]? = some (.string (ls.getD i ⟨#[]⟩)) := by
        rw [hxs, List.getElem?_map]
        simp [List.getD, hi]
      rwa [List.getElem?_take, if_pos (by omega)] at this
    rw [Lib.cell_of_heap hgg]
    simpa using e1
  have hic : mark ≤ cap := by omega
  have hnc : ¬ cap = mark := by omega
  have hmaxc : (cap : Int) ≤ 9223372036854775807 := by unfold maxLen at hcm; omega
  have HC := Lib.hid hcell
  have HG := Lib.hid hgg
  have HO := Lib.hid ho
  have HB := Lib.hid hb
  have hltb := heap_lt hb
  have hltg := heap_lt hgg
  have HX := Lib.hid hxs
  clear hcell hgg ho hb hxs
  go_enter Try.func9, Try.ntmps9
  go_wp2
  have hdl : (ls.drop mark).length = ls.length - mark := by simp
  go_loopw [24] (fun i wr => ∃ k : Nat, k ≤ ls.length - mark ∧ i = .int .i64 k ∧ wr.ownsMap Try.prog 9 mread bm n (delAll D ((ls.drop mark).take k)) ∧ w.grownBy wr (some bm)) (fun i _ => ls.length - mark - (RowKit.intOf i).toNat)
  case atStart => exact ⟨0, Nat.zero_le _, rfl, by simpa [delAll] using HO.out, ⟨rfl, rfl, rfl, Nat.le_refl _, fun _ _ _ => rfl⟩⟩
  case round =>
    obtain ⟨k, hk, rfl, hor, hgr⟩ := hrel
    have hgb : wr.heap[bs]? = w.heap[bs]? := hgr.block bs hltb (by simpa using hne)
    have hgg2 : wr.heap[g]? = w.heap[g]? := hgr.block g hltg (by simpa using hgm)
    have r0 : wr.cell? ⟨bs, 0, none⟩ = some (.map (some bm)) := (World.cell?_of_block hgb).trans c0
    have r1 := (World.cell?_of_block hgb).trans c1
    by_cases hlt : k < ls.length - mark
    · have hcl : wr.cell? ⟨g, mark + k, none⟩ = some (.string (ls.getD (mark + k) ⟨#[]⟩)) := (World.cell?_of_block hgg2).trans (HC.out (mark + k) (by omega))
      obtain ⟨s, hs⟩ : ∃ s, s = ls.getD (mark + k) ⟨#[]⟩ := ⟨_, rfl⟩
      have hsl : s.size ≤ maxLen := hl s (by rw [hs]; simp [List.getD, show mark + k < ls.length by omega])
      have hstep : (ls.drop mark).take (k + 1) = (ls.drop mark).take k ++ [s] := by
        rw [List.take_add_one, List.getElem?_drop, hs]
        simp [List.getD, show mark + k < ls.length by omega]
      rw [← hs] at hcl
      have HSt := Lib.hid hstep
      have HS := Lib.hid hs
      clear hs hstep
      go_wp2_with (at_delete; refine wpList_delete_own _ rfl _ _ 54 9 rfl 59 law Try.underlying54 mread bm n _ rfl hor _ _ rfl (klit_key s hsl) ?_; intro w1 hown1 hturn1)
      go_roundw
      case rel => exact ⟨k + 1, by omega, by go_num, by rw [HSt.out, delAll_snoc]; exact hown1, hgr.trans hturn1.grown⟩
      case measure => simp [RowKit.intOf]; omega
    · obtain rfl : k = ls.length - mark := by omega
      have hall : (ls.drop mark).take (ls.length - mark) = ls.drop mark := by rw [← hdl, List.take_length]
      rw [hall] at hor
      have hz1 : wr.frozen? ⟨bs, 1, none⟩ = false := (World.frozen?_of_block hgb).trans z1
      have hdel := delete_tail (w := wr.drew) (mark := mark) (hgg2.trans HG.out) hcap hcm hcs HX.out hm
      have HGr := Lib.hid (hgg2.trans HG.out)
      have HBr := Lib.hid (hgb.trans HB.out)
      have HOr := Lib.hid hor
      clear hor hgg2
      go_wp2_with fail
      go_region_with (go_at_call 17; refine hdel.mono ?_; rintro e w4 ⟨rfl, hg4, ho4⟩; have h4 : w4.heap[bs]? = _ := (hg4.block bs (Nat.lt_of_lt_of_le hltb hgr.size) (by simpa using fun e => hgs e.symm)).trans HBr.out; have hz4 := (sc_cells h4).2.2.2; have hc4 := (sc_cells h4).2.1; have H4 := Lib.hid h4; clear h4)
      all_goals
        go_wp2
        go_returns
        have hgm' : bm ≠ g := fun e => hgm e.symm
        have k4 := set_heap H4.out 1 (.slice (some ⟨g, 0, none⟩) mark cap)
        refine ⟨rfl, ⟨hX, bm, _, _, hmX, k4, ((HOr.out.drew).kept hg4 (by simpa using hgm')).setCell (fun e => hne e.symm) _, hS.delAll, ?_, fun k e => by cases e; exact hXg, fun t ht => hl t (List.mem_of_mem_take ht)⟩, ?_⟩
        · have e1 : (ls.take mark).length = mark := by simp; omega
          rw [e1]
          exact own_keep ho4 fun k e => by cases e; exact Below.heap_setCell _ _ _ _ hgs
        · refine KeepX.setCell ?_ (.inl hX) _
          have k1 : KeepX X w wr := KeepX.grown hgr (fun k e => by cases e; exact hmX)
          have k2 : KeepX X wr.drew w4 := KeepX.grown hg4 (fun k e => by cases e; exact hXg)
          exact k1.trans ⟨k2.os, k2.tape, k2.output, k2.size, k2.block⟩
end Go.Proofs.Ytnpennclgenppaa
