/- What Of of package scope answers: a scope, or the first declaration that is wrong. Conditions: the declarations lie in memory as a list. -/
import Derived.Test.YtnpennclgenppaaDoorScOf
namespace Go.Proofs.YtnpennclgenppaaDoor
open Go.ChangeShapes Go.WideShapes Go.RowKit Go.Maps
set_option linter.unusedVariables false
set_option linter.unusedSimpArgs false

/-- What Of leaves. -/
def OfPost (ds : List Dc) (w : World) (e : Ending) (w' : World) : Prop :=
  Below w.heap.size w w' ∧ ((firstBad none0 ds = none ∧ ∃ bs, e = .returned (.tuple #[.pointer (some ⟨bs, 0, none⟩), .nilIface]) ∧ ScAt (· < w.heap.size) bs ds.length (meansOf none0 ds) [] w') ∨
    ∃ d b, firstBad none0 ds = some d ∧ e = .returned (.tuple #[.pointer none, .iface 60 (.pointer (some ⟨b, 0, none⟩))]) ∧ w.heap.size ≤ b ∧ w'.heap[b]? = some (.cells #[.int .i64 d.at_, .iface 39 (.int .i64 3)] 63 (0, 0)))

theorem says0 : Says (.map []) none0 := fun s => rfl
theorem sc_new (w : World) : ScAt (· < w.heap.size) (w.heap.size + 1) 0 none0 [] ((w.alloc (.map #[] 0)).alloc (.cells #[.map (some w.heap.size), .slice none 0 0] 52)) := by
  refine ⟨by omega, w.heap.size, .map [], .slice none 0 0, by omega, ?_, (World.ownsMap_made w _ _ _).alloc _, says0, World.ownsRow_nil _ _ _ _, fun g e => (by cases e), fun s hs => (by cases hs)⟩
  rw [alloc_at, if_pos (by simp)]

theorem dobj_name (w : World) (d : Dc) : (w.alloc (dobj d)).cell? ⟨w.heap.size, 2, none⟩ = some (.string d.name) := by
  rw [Lib.cell_of_heap (w := w.alloc (dobj d)) (by rw [alloc_at, if_pos rfl])]; rfl

set_option maxHeartbeats 4000000 in
set_option maxRecDepth 100000 in
theorem of_any (ds : List Dc) (v : Value) (w : World) (hds : DsAt w v ds) (hlen : ds.length < 70368744177664) : Calls Tryd.prog 7 #[v] w (OfPost ds w) := by
  obtain ⟨ao, cap, rfl, _, hr⟩ := hds
  have HR := Lib.hid hr
  clear hr
  have hmm := @run_makeMap Tryd.prog
  go_enter Tryd.func7, Tryd.ntmps7
  go_wp2
  go_loopw [12] (fun i wr => ∃ k : Nat, k ≤ ds.length ∧ i = .int .i64 k ∧ ScAt (· < w.heap.size) (w.heap.size + 1) k (meansOf none0 (ds.take k)) [] wr ∧ Below w.heap.size w wr ∧ firstBad none0 (ds.take k) = none) (fun i _ => ds.length - (intOf i).toNat)
  case atStart => exact ⟨0, Nat.zero_le _, rfl, sc_new w, ((Below.refl _ _).alloc (Nat.le_refl _) _).alloc (by simp) _, rfl⟩
  case round =>
    obtain ⟨k, hk, rfl, hSr, hBr, hFr⟩ := hrel
    by_cases hlt : k < ds.length
    · obtain ⟨d, hd⟩ : ∃ d, ds[k]? = some d := ⟨ds[k], by simp [hlt]⟩
      obtain ⟨n1, n2, g, off, rfl, hg, p0, p1, p2, p3, p4, p5⟩ := HR.out k d hd
      have key : ∀ j u, w.cell? ⟨g, j, none⟩ = some u → wr.cell? ⟨g, j, none⟩ = some u := fun j u hu => (World.cell?_of_block (hBr.block g hg)).trans hu
      replace p0 := key _ _ p0
      replace p1 := key _ _ p1
      replace p2 := key _ _ p2
      replace p3 := key _ _ p3
      replace p4 := key _ _ p4
      replace p5 := key _ _ p5
      clear key
      obtain ⟨f, hf⟩ : ∃ f, f = meansOf none0 (ds.take k) := ⟨_, rfl⟩
      rw [← hf] at hSr
      have hbelow : Below wr.heap.size wr (wr.alloc (dobj d)) := (Below.refl _ _).alloc (Nat.le_refl _) _
      have hS1 : ScAt (· < w.heap.size) (w.heap.size + 1) k f [] (wr.alloc (dobj d)) := hSr.below hbelow
      have hhas : ∀ q, Calls Tryd.prog 13 #[.pointer (some ⟨w.heap.size + 1, 0, none⟩), .string d.name] ((wr.alloc (dobj d)).drewN q) fun e w' => e = .returned (.bool ((f d.name).kind != 0)) ∧ w' = (wr.alloc (dobj d)).drewN q := fun q => has_any (show ScAt (· < w.heap.size) (w.heap.size + 1) k f [] ((wr.alloc (dobj d)).drewN q) from hS1) d.name n1
      have hfk := field_kind
      have HS1 := Lib.hid hS1
      have HFr := Lib.hid hFr
      have HF := Lib.hid hf
      have Hd := Lib.hid hd
      obtain ⟨_, bm, D, lv, hbm, hbs, hown, hSays, _⟩ := hS1
      have d0 := (sc_cells hbs).1
      have hlook : ∀ q, (Instr.lookup 50 (.map (some bm)) (.string d.by_) false).run Tryd.prog ((wr.alloc (dobj d)).drewN q) = .ok (.agg #[.int .i64 (f d.by_).kind, .int .i64 (f d.by_).label, .int .i64 (f d.by_).count, .string (f d.by_).by_]) ((wr.alloc (dobj d)).drewN q) := fun q => look_run (show ((wr.alloc (dobj d)).drewN q).ownsMap Tryd.prog 9 mread bm k D from hown) hSays d.by_ n2
      have HO := Lib.hid hown
      have HB := Lib.hid hbs
      have hltr : w.heap.size + 1 < wr.heap.size := hSr.lt
      have hmaxk : k < maxLen := by unfold maxLen; omega
      have hl1 : w.heap.size + 1 < (wr.alloc (dobj d)).heap.size := by rw [alloc_size]; omega
      have hl2 : wr.heap.size < (wr.alloc (dobj d)).heap.size := by rw [alloc_size]; omega
      clear hFr hf hd hown hbs hSr
      cases hA : ((f d.name).kind != 0) with
      | true =>
        rw [hA] at hhas
        have hbad : bad f d = true := by simp [bad, hA]
        go_wp2_with fail
        go_quiet ((go_at_call 13; exact Calls.quiet_of_same (hhas _)))
        go_wp2_with (go_at_call 14; refine (wrap_any _ _ _ ⟨_, _, rfl⟩).mono ?_; rintro e w1 ⟨rfl, rfl⟩)
        go_returns
        refine ⟨?_, .inr ⟨d, _, firstBad_at HFr.out Hd.out (by rw [← HF.out]; exact hbad), rfl, ?_, ?_⟩⟩
        · exact (below_drewq (hBr.alloc hBr.size _) _).alloc (by simp; have := hBr.size; omega) _
        · have := hBr.size; first | omega | (simp; omega)
        · rw [alloc_at, if_pos (by simp)]
      | false =>
        rw [hA] at hhas
        cases hE : d.by_.data.toList.isEmpty with
        | true =>
          have hE' : d.by_.toList.isEmpty = true := by rw [ByteArray.toList_eq]; exact hE
          have hbad : bad f d = false := by simp [bad, hA, hE]
          go_wp2_with fail
          go_quiet ((go_at_call 13; exact Calls.quiet_of_same (hhas _)))
          go_wp2_with fail
          go_region_with (go_at_call 15; refine (declared_any d _).mono ?_; rintro e w1 ⟨rfl, hb1⟩; have hb2 : Below (wr.alloc (dobj d)).heap.size (wr.alloc (dobj d)) w1 := ⟨hb1.os, hb1.tape, hb1.output, hb1.size, hb1.block⟩; have e0 : w1.cell? ⟨w.heap.size + 1, 0, none⟩ = some (.map (some bm)) := (World.cell?_of_block (hb2.block _ hl1)).trans d0; have e2 : w1.cell? ⟨wr.heap.size, 2, none⟩ = some (.string d.name) := (World.cell?_of_block (hb2.block _ hl2)).trans (dobj_name wr d); obtain ⟨w2, hrun, hS2, hK2⟩ := (HS1.out.below hb2).store hmaxk d.name n1 (declM d) bm e0)
          all_goals
            go_wp2
            go_roundw
            case rel =>
              obtain ⟨st1, st2⟩ := firstBad_step HFr.out Hd.out (by rw [← HF.out]; exact hbad)
              refine ⟨k + 1, by omega, by go_num, by rw [st2, ← HF.out]; exact hS2, ?_, st1⟩
              have hbr2 : Below w.heap.size w (wr.alloc (dobj d)) := hBr.alloc hBr.size _
              exact (hbr2.trans (hb2.mono (by rw [alloc_size]; have := hBr.size; omega))).trans (hK2.below (by have := hBr.size; have := hb2.size; rw [alloc_size] at this; omega))
            case measure => simp [intOf]; omega
        | false =>
          have hE' : d.by_.toList.isEmpty = false := by rw [ByteArray.toList_eq]; exact hE
          cases hC : ((f d.by_).kind != 1) with
          | true =>
            have hbad : bad f d = true := by simp [bad, hA, hE, hC]
            go_wp2_with fail
            go_quiet ((go_at_call 13; exact Calls.quiet_of_same (hhas _)))
            go_wp2_with (go_at_call 14; refine (wrap_any _ _ _ ⟨_, _, rfl⟩).mono ?_; rintro e w1 ⟨rfl, rfl⟩)
            go_returns
            refine ⟨?_, .inr ⟨d, _, firstBad_at HFr.out Hd.out (by rw [← HF.out]; exact hbad), rfl, ?_, ?_⟩⟩
            · exact (below_drewq (hBr.alloc hBr.size _) _).alloc (by simp; have := hBr.size; omega) _
            · have := hBr.size; first | omega | (simp; omega)
            · rw [alloc_at, if_pos (by simp)]
          | false =>
            have hbad : bad f d = false := by simp [bad, hA, hE, hC]
            go_wp2_with fail
            go_quiet ((go_at_call 13; exact Calls.quiet_of_same (hhas _)))
            go_wp2_with fail
            go_region_with (go_at_call 15; refine (declared_any d _).mono ?_; rintro e w1 ⟨rfl, hb1⟩; have hb2 : Below (wr.alloc (dobj d)).heap.size (wr.alloc (dobj d)) w1 := ⟨hb1.os, hb1.tape, hb1.output, hb1.size, hb1.block⟩; have e0 : w1.cell? ⟨w.heap.size + 1, 0, none⟩ = some (.map (some bm)) := (World.cell?_of_block (hb2.block _ hl1)).trans d0; have e2 : w1.cell? ⟨wr.heap.size, 2, none⟩ = some (.string d.name) := (World.cell?_of_block (hb2.block _ hl2)).trans (dobj_name wr d); obtain ⟨w2, hrun, hS2, hK2⟩ := (HS1.out.below hb2).store hmaxk d.name n1 (declM d) bm e0)
            all_goals
              go_wp2
              go_roundw
              case rel =>
                obtain ⟨st1, st2⟩ := firstBad_step HFr.out Hd.out (by rw [← HF.out]; exact hbad)
                refine ⟨k + 1, by omega, by go_num, by rw [st2, ← HF.out]; exact hS2, ?_, st1⟩
                have hbr2 : Below w.heap.size w (wr.alloc (dobj d)) := hBr.alloc hBr.size _
                exact (hbr2.trans (hb2.mono (by rw [alloc_size]; have := hBr.size; omega))).trans (hK2.below (by have := hBr.size; have := hb2.size; rw [alloc_size] at this; omega))
              case measure => simp [intOf]; omega
    · obtain rfl : k = ds.length := by omega
      rw [List.take_length] at hSr hFr
      go_wp2
      go_returns
      exact ⟨hBr, .inl ⟨hFr, _, rfl, hSr⟩⟩
end Go.Proofs.YtnpennclgenppaaDoor
