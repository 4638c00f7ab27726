/- What parse.Program answers: the plain reader's program, or its error. Conditions: the text is not longer than a slice may be; lex's variables are as they are laid. -/
import Derived.Test.YtfginegegaokbaaGreatDoorPProg
namespace Go.Proofs.YtfginegegaokbaaGreatDoor.Pr
open Go.ChangeShapes Go.WideShapes Go.ChangeAt Go.RowKit
open Lx (Tok)
set_option linter.unusedVariables false
set_option linter.unusedSimpArgs false

theorem Dcls.tsame {lo B lo' B' : Nat} {w w' : World} {v : Value} {ds : List Dcl} (h : Dcls lo B w v ds) (hs : TSame 68 w w') (h1 : lo' ≤ lo) (h2 : B ≤ B') : Dcls lo' B' w' v ds := by
  obtain ⟨ao, cap, rfl, hl, h⟩ := h
  refine ⟨ao, cap, rfl, hl, fun i d hd => ?_⟩
  obtain ⟨hf, g, off, e, hlo, hg, ⟨cs, fr, hc, hz⟩, c0, c1, c2, c3, c4, c5⟩ := h i d hd
  have hc' := hs _ _ _ hc
  have key : ∀ o, w'.cell? ⟨g, o, none⟩ = w.cell? ⟨g, o, none⟩ := fun o => World.cell?_of_block (hc'.trans hc.symm)
  exact ⟨hf, g, off, e, by omega, by omega, ⟨cs, fr, hc', hz⟩, (key _).trans c0, (key _).trans c1, (key _).trans c2, (key _).trans c3, (key _).trans c4, (key _).trans c5⟩
theorem Thrs.tsame {lo B lo' B' m n : Nat} {w w' : World} {v : Value} {ts : List (List Stm)} (h : Thrs lo B m n w v ts) (hs : TSame 52 w w') (hs1 : TSame 60 w w') (hs2 : TSame 57 w w') (h1 : lo' ≤ lo) (h2 : B ≤ B') : Thrs lo' B' m n w' v ts := by
  obtain ⟨ao, cap, rfl, hl, h⟩ := h
  refine ⟨ao, cap, rfl, hl, fun i ss hi => ?_⟩
  obtain ⟨g, off, tao, tcap, e, hlo, hg, ⟨cs, fr, hc⟩, c0, hS⟩ := h i ss hi
  have hc' := hs _ _ _ hc
  have key : ∀ o, w'.cell? ⟨g, o, none⟩ = w.cell? ⟨g, o, none⟩ := fun o => World.cell?_of_block (hc'.trans hc.symm)
  exact ⟨g, off, tao, tcap, e, by omega, by omega, ⟨cs, fr, hc'⟩, (key _).trans c0, hS.carry h1 h2 (hs1.s45 _ _) fun _ _ hr => hr.carry h1 h2 (hs2.s35 _ _) (hs1.s45 _ _)⟩
theorem parse_ok {l : List UInt8} {p : Prg} (h : parseP l = .ok p) : ∃ ts, Lx.cutAll l = .ok ts ∧ (threadsP (declsP ⟨ts, none⟩).2).2.err = none ∧ p = ⟨(declsP ⟨ts, none⟩).1, (threadsP (declsP ⟨ts, none⟩).2).1⟩ := by
  unfold parseP at h
  split at h
  · cases h
  · rename_i ts hts
    refine ⟨ts, hts, ?_⟩
    unfold progP at h
    simp only at h
    split at h
    · cases h
    · rename_i he
      cases h
      exact ⟨he, rfl⟩
theorem parse_err {l : List UInt8} {e : Nat × Nat} (h : parseP l = .error e) : Lx.cutAll l = .error e ∨ ∃ ts, Lx.cutAll l = .ok ts ∧ (threadsP (declsP ⟨ts, none⟩).2).2.err = some e := by
  unfold parseP at h
  split at h
  · rename_i e' he
    cases h
    exact .inl he
  · rename_i ts hts
    refine .inr ⟨ts, hts, ?_⟩
    unfold progP at h
    simp only at h
    split at h
    · rename_i e' he
      cases h
      exact he
    · cases h
@[reducible] def zeroP : Obj := .cells #[.slice none 0 0, .slice none 0 0] 27
theorem below_of {w w' : World} {br : Nat} (h : w.grownBy w' (some br)) (hb : w.heap.size ≤ br) : Below w.heap.size w w' :=
  { os := h.os, tape := h.tape, output := h.output, size := h.size, block := fun k hk => h.block k hk (fun e => by simp at e; omega) }
theorem two_cells {w : World} {k : Nat} {t : TypeId} {x0 x1 : Value} (h : w.heap[k]? = some (.cells #[x0, x1] t (0, 0))) : w.cell? ⟨k, 0, none⟩ = some x0 ∧ w.cell? ⟨k, 1, none⟩ = some x1 ∧ w.frozen? ⟨k, 0, none⟩ = false ∧ w.frozen? ⟨k, 1, none⟩ = false := by
  refine ⟨?_, ?_, Lib.frozen_of_heap h 0, Lib.frozen_of_heap h 1⟩ <;> (rw [Lib.cell_of_heap h]; rfl)
theorem thrs_slice {lo B m n : Nat} {w : World} {v : Value} {ts : List (List Stm)} (h : Thrs lo B m n w v ts) : ∃ ao cap, v = .slice ao ts.length cap := by obtain ⟨ao, cap, e, _⟩ := h; exact ⟨ao, cap, e⟩
theorem dcls_slice {lo B : Nat} {w : World} {v : Value} {ds : List Dcl} (h : Dcls lo B w v ds) : ∃ ao cap, v = .slice ao ds.length cap := by obtain ⟨ao, cap, e, _⟩ := h; exact ⟨ao, cap, e⟩
theorem lx_alloc {w : World} (h : Lx.Vars w) (o : Obj) : Lx.Vars (w.alloc o) := h.grown ((Below.refl w.heap.size w).alloc (Nat.le_refl _) o) h.lt
set_option maxHeartbeats 4000000 in
set_option maxRecDepth 100000 in
/-- parse.Program, where there is a program. -/
theorem program_ok (s : ByteArray) (p : Prg) (w : World) (hm : s.size ≤ maxLen) (hV : Lx.Vars w) (h : Hid (parseP (bys s) = .ok p)) :
    Calls Tryz.prog 12 #[.string s] w fun e w' => ∃ dv tv, e = .returned (.tuple #[.agg #[dv, tv], .nilIface]) ∧ Dcls w.heap.size w'.heap.size w' dv p.decls ∧ Thrs w.heap.size w'.heap.size bigM 41 w' tv p.threads ∧ Below w.heap.size w w' := by
  obtain ⟨ts, hts, he, hp⟩ := parse_ok h.out
  have C1 := cut_toks s ts (w.alloc zeroP) hm (lx_alloc hV _) hts
  have HG : Hid ((⟨ts, none⟩ : Rd).good ∧ ts.length ≤ 65537) := ⟨(cut_good hts).1, (Lx.cutAll_len hts).1⟩
  obtain ⟨ds, r4, e4⟩ : ∃ a b, declsP ⟨ts, none⟩ = (a, b) := ⟨_, _, rfl⟩
  rw [e4] at he hp
  simp only at he hp
  obtain ⟨th, r5, e5⟩ : ∃ a b, threadsP r4 = (a, b) := ⟨_, _, rfl⟩
  rw [e5] at he hp
  simp only at he hp
  have D4 := fun B br w' h' => decls_any B br ⟨ts, none⟩ w' h'
  have T5 := fun B br w' h' => threads_any B br r4 w' h'
  rw [e4] at D4
  rw [e5] at T5
  simp only at D4 T5
  have HE := Lib.hid he
  subst hp
  clear h hts he e4 e5 hV
  go_enter Tryz.func12, Tryz.ntmps12
  go_wp2_with (first
    | (go_at_call 26; refine (T5 _ _ _ h4.out).mono ?_; rintro e w5 ⟨tv, rfl, T', h5', g5'⟩; obtain ⟨tao, tcap, rfl⟩ := thrs_slice T'; have T6 := Lib.hid T'; have h5 := Lib.hid h5'; have g5 := Lib.hid (grownBy_trans g4.out g5'); have dd5 := Lib.hid (Dcls.tsame dd.out (h4.out.tsame g5' (by decide)) (Nat.le_refl _) (Nat.le_refl _)); have s5 := Lib.hid g5'.size; obtain ⟨ev, hev, hee⟩ := h5'.err; rw [HE.out] at hee; obtain rfl : ev = .nilIface := hee; have hlt5 := h5'.lt; have z5 : w5.heap[w.heap.size]? = some zeroP := ((g5.out.block w.heap.size (by rw [alloc_size]; omega) (by have := hb2.out.size; rw [alloc_size] at this; simp; omega)).trans (by rw [alloc_at, if_pos rfl])); have hz5 := heap_lt z5; obtain ⟨x0, x1, f0, f1⟩ := two_cells z5; clear T' h5' g5')
    | (go_at_call 25; refine (D4 _ _ _ h3.out).mono ?_; rintro e w4 ⟨dv, rfl, D', h4', g4'⟩; obtain ⟨dao, dcap, rfl⟩ := dcls_slice D'; have dd := Lib.hid D'; have h4 := Lib.hid h4'; have g4 := Lib.hid (grownBy_trans g3.out g4'); have s4 := Lib.hid g4'.size; clear D' h4' g4')
    | (go_at_call 24; refine (newReader_any w.heap.size ts g cap w2 hT2 hc2 HG (by have := hb2.out.size; rw [alloc_size] at this; omega)).mono ?_; rintro e w3 ⟨rfl, h3', hb3⟩; have h3 := Lib.hid h3'; have s3 := Lib.hid hb3.size; have g3 := Lib.hid (grownBy_trans (below_grown hb2.out (some (w2.heap.size + 1))) (below_grown hb3 (some (w2.heap.size + 1)))); clear h3' hb3)
    | (go_at_call 18; refine C1.mono ?_; rintro e w2 ⟨g, cap, rfl, hT2, hgl, hc2, hb2'⟩; have hb2 := Lib.hid hb2'; clear hb2'))
  have z6 := set_heap (set_heap z5 0 (.slice dao ds.length dcap)) 1 (.slice tao th.length tcap)
  obtain ⟨q0, q1, _, _⟩ := two_cells (x0 := .slice dao ds.length dcap) (x1 := .slice tao th.length tcap) z6
  have t1 := fun (t : TypeId) (ht : t ≠ 27) => (TSame.of_set z5 ht 0 (.slice dao ds.length dcap)).trans (TSame.of_set (set_heap z5 0 (.slice dao ds.length dcap)) ht 1 (.slice tao th.length tcap))
  have hw2 := hb2.out.size
  rw [alloc_size] at hw2
  have s45 := s4.out
  have s55 := s5.out
  have s33 := s3.out
  refine bodyPost_ret (v := .tuple #[.agg #[.slice dao ds.length dcap, .slice tao th.length tcap], .nilIface]) (by simp [results, Tryz.results12, go_sem, q0, q1]) rfl ⟨_, _, rfl, Dcls.tsame dd5.out (t1 _ (by decide)) (by omega) ?_, Thrs.tsame T6.out (t1 _ (by decide)) (t1 _ (by decide)) (t1 _ (by decide)) (by omega) ?_, below_of (br := w2.heap.size + 1) (grown_set (grown_set (grownBy_trans (World.grownBy_alloc w _ _) g5.out) (Nat.le_refl _) _ _) (Nat.le_refl _) _ _) (by omega)⟩
  · simp [World.setCell]; omega
  · simp [World.setCell]
/-- An error of the reader's, told. -/
def Told (w w' : World) (e : Ending) (n a : Nat) : Prop := ∃ fb, e = .returned (.tuple #[.agg #[.slice none 0 0, .slice none 0 0], .iface 96 (.pointer (some ⟨fb, 0, none⟩))]) ∧ w'.heap[fb]? = some (.cells #[.int .i64 (a : Int), .iface 38 (.int .i64 (n : Int))] 100 (0, 0)) ∧ Below w.heap.size w w'
set_option maxHeartbeats 4000000 in
set_option maxRecDepth 100000 in
/-- parse.Program, where lex finds what is wrong. -/
theorem program_lex (s : ByteArray) (n a : Nat) (w : World) (hm : s.size ≤ maxLen) (hV : Lx.Vars w) (h : Hid (Lx.cutAll (bys s) = .err n a)) :
    Calls Tryz.prog 12 #[.string s] w fun e w' => Told w w' e n a := by
  have C1 := Lx.cut_err s n a (w.alloc zeroP) hm (lx_alloc hV _) h
  clear h hV
  go_enter Tryz.func12, Tryz.ntmps12
  go_wp2_with (go_at_call 18; refine C1.mono ?_; rintro e w2 ⟨fb, rfl, hfb, hf2, hb2'⟩; have hb2 := Lib.hid hb2'; have z5 : w2.heap[w.heap.size]? = some zeroP := ((hb2'.block w.heap.size (by rw [alloc_size]; omega)).trans (by rw [alloc_at, if_pos rfl])); have hz5 := heap_lt z5; obtain ⟨x0, x1, f0, f1⟩ := two_cells z5; have HF2 := Lib.hid hf2; have HFB := Lib.hid hfb; clear hb2' hf2 hfb)
  have z6 := set_heap (set_heap z5 0 (.slice none 0 0)) 1 (.slice none 0 0)
  obtain ⟨q0, q1, _, _⟩ := two_cells (x0 := .slice none 0 0) (x1 := .slice none 0 0) z6
  have hfb := HFB.out
  rw [alloc_size] at hfb
  refine bodyPost_ret (v := .tuple #[.agg #[.slice none 0 0, .slice none 0 0], .iface 96 (.pointer (some ⟨fb, 0, none⟩))]) (by simp [results, Tryz.results12, go_sem, q0, q1]) rfl ⟨fb, rfl, ?_, below_of (br := w.heap.size) (grown_set (grown_set (grownBy_trans (World.grownBy_alloc w _ _) (below_grown hb2.out _)) (Nat.le_refl _) _ _) (Nat.le_refl _) _ _) (Nat.le_refl _)⟩
  rw [Below.heap_setCell _ _ _ _ (show fb ≠ w.heap.size by omega), Below.heap_setCell _ _ _ _ (show fb ≠ w.heap.size by omega)]
  exact HF2.out
end Go.Proofs.YtfginegegaokbaaGreatDoor.Pr
