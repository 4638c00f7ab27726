/- What parse.Program answers: the plain reader's program, or its error. Conditions: the text is not longer than a slice may be; lex's variables are as they are laid. -/
import Derived.Test.YtfginegegaokbaaGreatDoorPThreads
namespace Go.Proofs.YtfginegegaokbaaGreatDoor.Pr
open Go.ChangeShapes Go.WideShapes Go.ChangeAt Go.RowKit
open Lx (Tok)
set_option linter.unusedVariables false
set_option linter.unusedSimpArgs false

theorem num_lt : ∀ (l : List UInt8) (acc v : Nat), acc < 18446744073709551616 → Lx.numFrom acc l = some v → v < 18446744073709551616
  | [], acc, v, h, e => by simp [Lx.numFrom] at e; omega
  | c :: r, acc, v, h, e => by
    unfold Lx.numFrom at e
    split at e
    · exact num_lt r _ v (by assumption) e
    · cases e
theorem readTok_fit {l : List UInt8} {k : Nat} {t : Tok} (h : Lx.readTok l k = some t) : t.kind ≠ 0 ∧ t.kind ≤ 4 ∧ t.value < 18446744073709551616 := by
  unfold Lx.readTok at h
  match l, h with
  | [], h => simp at h
  | c :: r, h =>
    simp only at h
    split at h
    · simp only [Option.some.injEq] at h
      subst h
      refine ⟨?_, ?_, by simp⟩
      · show (if _ then 2 else 1) ≠ 0
        split <;> simp
      · show (if _ then 2 else 1) ≤ 4
        split <;> simp
    · split at h
      · unfold Lx.digitTok at h
        split at h
        · cases h
        · split at h
          · rename_i v hv
            simp only [Option.some.injEq] at h
            subst h
            exact ⟨by simp, by simp, num_lt _ 0 v (by omega) hv⟩
          · cases h
      · split at h
        · cases h
        · simp only [Option.some.injEq] at h
          subst h
          exact ⟨by simp, by simp, by simp⟩
theorem goTok_good : ∀ (f : Nat) (l : List UInt8) (k : Nat) (ts : List Tok), Lx.goTok f l k = .ok ts → k + l.length ≤ 65536 → (∃ us e, ts = us ++ [endT e] ∧ ∀ t ∈ us, t.kind ≠ 0 ∧ t.text ≠ []) ∧ ∀ t ∈ ts, fitT t
  | 0, _, _, _, h, _ => by simp [Lx.goTok] at h
  | f + 1, [], k, ts, h, hk => by
    rw [Lx.goTok_nil] at h
    cases h
    refine ⟨⟨[], k, rfl, fun t ht => by simp at ht⟩, fun t ht => ?_⟩
    simp at ht
    subst ht
    simp at hk
    exact ⟨by simp, by simp, by simp, hk⟩
  | f + 1, c :: r, k, ts, h, hk => by
    cases hr : Lx.readTok (c :: r) k with
    | none => rw [Lx.goTok_none (by simp) hr] at h; cases h
    | some t =>
      obtain ⟨n, h0, h1, h2, h3, h4⟩ := Lx.readTok_some hr
      obtain ⟨p1, p2, p3⟩ := readTok_fit hr
      rw [Lx.goTok_some hr] at h
      generalize hq : Lx.goTok f _ _ = q at h
      cases q with
      | ok us =>
        have hdl : (((c :: r).drop t.text.length).drop (Lx.blanks false ((c :: r).drop t.text.length))).length = (c :: r).length - t.text.length - Lx.blanks false ((c :: r).drop t.text.length) := by rw [List.length_drop, List.length_drop]
        have hbl : Lx.blanks false ((c :: r).drop t.text.length) ≤ (c :: r).length - t.text.length ∨ (c :: r).length - t.text.length < Lx.blanks false ((c :: r).drop t.text.length) := by omega
        have hble : Lx.blanks false ((c :: r).drop t.text.length) ≤ ((c :: r).drop t.text.length).length := Lx.blanks_le _ _
        rw [List.length_drop] at hble
        obtain ⟨⟨us', e, q1, q2⟩, q3⟩ := goTok_good f _ _ us hq (by rw [hdl]; omega)
        simp only [Lx.Res.pre] at h
        cases h
        refine ⟨⟨t :: us', e, by rw [q1]; rfl, fun x hx => ?_⟩, fun x hx => ?_⟩
        · rcases List.mem_cons.1 hx with rfl | hx
          · exact ⟨p1, fun e => by rw [e] at h3; simp at h3; omega⟩
          · exact q2 x hx
        · rcases List.mem_cons.1 hx with rfl | hx
          · exact ⟨p2, by omega, p3, by omega⟩
          · exact q3 x hx
      | error p => simp only [Lx.Res.pre] at h; cases h
theorem cut_good {l : List UInt8} {ts : List Tok} (h : Lx.cutAll l = .ok ts) : (⟨ts, none⟩ : Rd).good ∧ ∀ t ∈ ts, fitT t := by
  unfold Lx.cutAll at h
  split at h
  · cases h
  · have hb := Lx.blanks_le false l
    exact goTok_good _ _ _ _ h (by rw [List.length_drop]; omega)
/-- lex.Cut, where there are tokens, as the reader wants them. -/
theorem cut_toks (s : ByteArray) (ts : List Tok) (w : World) (hm : s.size ≤ maxLen) (hV : Lx.Vars w) (h : Hid (Lx.cutAll (bys s) = .ok ts)) :
    Calls Tryz.prog 18 #[.string s] w fun e w' => ∃ g cap, e = .returned (.tuple #[.slice (some ⟨g, 0, none⟩) ts.length cap, .nilIface]) ∧ Hid (ToksAt w' g 0 ts) ∧ g < w'.heap.size ∧ Hid (ts.length ≤ cap ∧ cap ≤ 9223372036854775807) ∧ Below w.heap.size w w' := by
  have hc := Lx.cut_any s w hm hV
  have hh' : Lx.cutAll (Lx.bys s) = .ok ts := h.out
  rw [hh'] at hc
  refine hc.mono ?_
  rintro e w' ⟨⟨v, rfl, hown⟩, hb⟩
  have hown0 := hown
  obtain ⟨_, h2⟩ := hown
  rcases h2 with ⟨_, h0⟩ | ⟨g, cap, cur, rfl, hg, hh, hn, hcap, hsz, htake⟩
  · exact absurd (List.length_eq_zero_iff.1 h0) (Lx.cutAll_ne h.out)
  · refine ⟨g, cap, rfl, ⟨⟨_, _, hh⟩, fun i t ht => ⟨(cut_good h.out).2 t (List.mem_of_getElem? ht), ?_⟩⟩, heap_lt hh, ⟨hn, by unfold maxLen at hcap; omega⟩, hb⟩
    have hi : i < ts.length := by
      rcases Nat.lt_or_ge i ts.length with h' | h'
      · exact h'
      · rw [List.getElem?_eq_none h'] at ht; cases ht
    have key : ∀ j, j < 4 → w'.cell? ⟨g, 0 + i * 4 + j, none⟩ = t.cells[j]? := fun j hj => by
      rw [Nat.zero_add, hown0.cellAt (i * 4 + j) (by omega), Lx.rowOf_get ts i t ht j hj]
    exact ⟨key 0 (by omega), key 1 (by omega), key 2 (by omega), key 3 (by omega)⟩
set_option maxHeartbeats 2000000 in
set_option maxRecDepth 100000 in
theorem signs_all (w : World) : Calls Tryz.prog 41 #[] w fun e w' => e = .returned (.slice (some ⟨w.heap.size, 0, none⟩) 10 10) ∧ w' = w.alloc (.cells signCells 9) := by
  go_enter Tryz.func41, Tryz.ntmps41
  go_wp2
  go_ret
  exact ⟨rfl, rfl⟩
set_option maxHeartbeats 2000000 in
set_option maxRecDepth 100000 in
/-- newReader -/
theorem newReader_any (B : Nat) (ts : List Tok) (g cap : Nat) (w : World) (hT : Hid (ToksAt w g 0 ts)) (hc : Hid (ts.length ≤ cap ∧ cap ≤ 9223372036854775807)) (hg : Hid ((⟨ts, none⟩ : Rd).good ∧ ts.length ≤ 65537)) (hB : B ≤ w.heap.size) :
    Calls Tryz.prog 24 #[.slice (some ⟨g, 0, none⟩) ts.length cap] w fun e w' => e = .returned (.pointer (some ⟨w.heap.size + 1, 0, none⟩)) ∧ RdAt B (w.heap.size + 1) ⟨ts, none⟩ w' ∧ Below w.heap.size w w' := by
  have S := signs_all w
  go_enter Tryz.func24, Tryz.ntmps24
  go_wp2_with (go_at_call 41; refine S.mono ?_; rintro e w1 ⟨rfl, rfl⟩)
  go_ret
  refine ⟨by simp, ⟨by omega, hg.out.1, hg.out.2, g, 0, cap, w.heap.size, .nilIface, ?_, hc.out.1, hc.out.2, ?_, ?_, rfl⟩, ((Below.refl _ _).alloc (Nat.le_refl _) _).alloc (by rw [alloc_size]; omega) _⟩
  · rw [alloc_at, if_pos (by simp)]
  · obtain ⟨⟨cs, fr, hgg⟩, _⟩ := id hT.out
    exact hT.out.same ((alloc_keep (alloc_keep hgg _) _).trans hgg.symm)
  · rw [alloc_at, if_neg (by simp), alloc_at, if_pos rfl]
end Go.Proofs.YtfginegegaokbaaGreatDoor.Pr
