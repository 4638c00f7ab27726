/- What parse.Program answers where the reader finds what is wrong; both sides together. Conditions: the text is not longer than a slice may be; lex's variables are as they are laid. -/
import Derived.Test.YtfginegegaokbaaGreatDoorPProg2
namespace Go.Proofs.YtfginegegaokbaaGreatDoor.Pr
open Go.ChangeShapes Go.WideShapes Go.ChangeAt Go.RowKit
open Lx (Tok)
set_option linter.unusedVariables false
set_option linter.unusedSimpArgs false

set_option maxHeartbeats 4000000 in
set_option maxRecDepth 100000 in
theorem program_fault (s : ByteArray) (ts : List Tok) (n a : Nat) (w : World) (hm : s.size ≤ maxLen) (hV : Lx.Vars w) (hts : Hid (Lx.cutAll (bys s) = .ok ts)) (he : Hid ((threadsP (declsP ⟨ts, none⟩).2).2.err = some (n, a))) :
    Calls Tryz.prog 12 #[.string s] w fun e w' => Told w w' e n a := by
  have C1 := cut_toks s ts (w.alloc zeroP) hm (lx_alloc hV _) hts
  have HG : Hid ((⟨ts, none⟩ : Rd).good ∧ ts.length ≤ 65537) := ⟨(cut_good hts.out).1, (Lx.cutAll_len hts.out).1⟩
  obtain ⟨ds, r4, e4⟩ : ∃ a b, declsP ⟨ts, none⟩ = (a, b) := ⟨_, _, rfl⟩
  rw [e4] at he
  simp only at he
  obtain ⟨th, r5, e5⟩ : ∃ a b, threadsP r4 = (a, b) := ⟨_, _, rfl⟩
  rw [e5] at he
  simp only at he
  have D4 := fun B br w' h' => decls_any B br ⟨ts, none⟩ w' h'
  have T5 := fun B br w' h' => threads_any B br r4 w' h'
  rw [e4] at D4
  rw [e5] at T5
  simp only at D4 T5
  clear hts e4 e5 hV
  go_enter Tryz.func12, Tryz.ntmps12
  go_wp2_with (first
    | (go_at_call 26; refine (T5 _ _ _ h4.out).mono ?_; rintro e w5 ⟨tv, rfl, T', h5', g5'⟩; obtain ⟨tao, tcap, rfl⟩ := thrs_slice T'; have g5 := Lib.hid (grownBy_trans g4.out g5'); obtain ⟨ev, hev, hee⟩ := h5'.err; rw [he.out] at hee; obtain ⟨fb, rfl, hfb⟩ := hee; have HFB := Lib.hid hfb; have hlt5 := h5'.lt; have z5 : w5.heap[w.heap.size]? = some zeroP := ((g5.out.block w.heap.size (by rw [alloc_size]; omega) (by have := hb2.out.size; rw [alloc_size] at this; simp; omega)).trans (by rw [alloc_at, if_pos rfl])); have hz5 := heap_lt z5; obtain ⟨x0, x1, f0, f1⟩ := two_cells z5; have Z5 := Lib.hid z5; clear T' h5' g5' hfb z5)
    | (go_at_call 25; refine (D4 _ _ _ h3.out).mono ?_; rintro e w4 ⟨dv, rfl, D', h4', g4'⟩; obtain ⟨dao, dcap, rfl⟩ := dcls_slice D'; have h4 := Lib.hid h4'; have g4 := Lib.hid (grownBy_trans g3.out g4'); clear D' h4' g4')
    | (go_at_call 24; refine (newReader_any w.heap.size ts g cap w2 hT2 hc2 HG (by have := hb2.out.size; rw [alloc_size] at this; omega)).mono ?_; rintro e w3 ⟨rfl, h3', hb3⟩; have h3 := Lib.hid h3'; have g3 := Lib.hid (grownBy_trans (below_grown hb2.out (some (w2.heap.size + 1))) (below_grown hb3 (some (w2.heap.size + 1)))); clear h3' hb3)
    | (go_at_call 18; refine C1.mono ?_; rintro e w2 ⟨g, cap, rfl, hT2, hgl, hc2, hb2'⟩; have hb2 := Lib.hid hb2'; clear hb2'))
  have hbr : w5.cell? ⟨w2.heap.size + 1, 2, none⟩ = some (.iface 96 (.pointer (some ⟨fb, 0, none⟩))) := hev
  have hne : ¬ w2.heap.size + 1 = w.heap.size := by have := hb2.out.size; rw [alloc_size] at this; omega
  have hne2 : ¬ w.heap.size = w2.heap.size + 1 := by omega
  go_region
  all_goals go_wp2
  all_goals
    have hw2 := hb2.out.size
    rw [alloc_size] at hw2
    have hff := HFB.out
    have z5 := Z5.out
    have z6 := set_heap (set_heap z5 0 (.slice none 0 0)) 1 (.slice none 0 0)
    obtain ⟨q0, q1, _, _⟩ := two_cells (x0 := .slice none 0 0) (x1 := .slice none 0 0) z6
    have hfn : fb ≠ w.heap.size := fun e => by subst e; rw [z5] at hff; cases hff
    refine bodyPost_ret (v := .tuple #[.agg #[.slice none 0 0, .slice none 0 0], .iface 96 (.pointer (some ⟨fb, 0, none⟩))]) (by simp [results, Tryz.results12, go_sem, q0, q1]) rfl ⟨fb, rfl, ?_, below_of (br := w2.heap.size + 1) (grown_drew (grown_set (grown_set (grownBy_trans (World.grownBy_alloc w _ _) g5.out) (Nat.le_refl _) _ _) (Nat.le_refl _) _ _)) (by omega)⟩
    show (World.setCell _ _ _).heap[fb]? = _
    rw [Below.heap_setCell _ _ _ _ (show fb ≠ w.heap.size from hfn), Below.heap_setCell _ _ _ _ (show fb ≠ w.heap.size from hfn)]
    exact hff
/-- parse.Program, where something is wrong. -/
theorem program_err (s : ByteArray) (n a : Nat) (w : World) (hm : s.size ≤ maxLen) (hV : Lx.Vars w) (h : Hid (parseP (bys s) = .error (n, a))) :
    Calls Tryz.prog 12 #[.string s] w fun e w' => Told w w' e n a := by
  rcases parse_err h.out with h' | ⟨ts, hts, he⟩
  · exact program_lex s n a w hm hV h'
  · exact program_fault s ts n a w hm hV hts he
end Go.Proofs.YtfginegegaokbaaGreatDoor.Pr
