/- What page.expr writes, and what tree.Expr answers, when they are called. Conditions: as in TreePart. -/
import Derived.Test.YtfginegegaokbaaGreatDoorTreeBin
namespace Go.Proofs.YtfginegegaokbaaGreatDoor
open Go.ChangeShapes Go.WideShapes Go.ChangeAt Go.RowKit
set_option linter.unusedVariables false
set_option linter.unusedSimpArgs false

theorem kind_cases (k : Int) : k = 0 ∨ k = 1 ∨ k = 2 ∨ k = 3 ∨ k = 4 ∨ k = 5 ∨ (k ≠ 0 ∧ k ≠ 1 ∧ k ≠ 2 ∧ k ≠ 3 ∧ k ≠ 4 ∧ k ≠ 5) := by omega

set_option maxHeartbeats 4000000 in
set_option maxRecDepth 100000 in
theorem expr_step {n : Nat} (ih : ExprC n) : ExprC (n + 1) := by
  intro B b l d t v p w hP hE hV hp hlen
  have hE0 := hE
  obtain ⟨hv64, kv, rfl, hK⟩ := hE
  have hBw := hP.base
  have hlt := hP.lt
  have HB : Hid (w.heap.size ≠ b) := by show _ ≠ _; omega
  have hA : Stay B b w (w.alloc (.cells #[.int .i64 t.kind, .int .i64 t.op, .string t.name, .int .u64 t.value, kv, .int .i64 t.at_] 57)) := (Stay.refl _ _ _).alloc hBw _
  have HBox := Lib.hid (show (w.alloc (.cells #[.int .i64 t.kind, .int .i64 t.op, .string t.name, .int .u64 t.value, kv, .int .i64 t.at_] 57)).heap[w.heap.size]? = some (.cells #[.int .i64 t.kind, .int .i64 t.op, .string t.name, .int .u64 t.value, kv, .int .i64 t.at_] 57 (0, 0)) from heap_alloc_new w _)
  have hPA := hP.alloc (.cells #[.int .i64 t.kind, .int .i64 t.op, .string t.name, .int .u64 t.value, kv, .int .i64 t.at_] 57)
  rcases kind_cases t.kind with hk | hk | hk | hk | hk | hk | ⟨k0, k1, k2, k3, k4, k5⟩
  · rw [etext_lit n t p hk] at hlen ⊢
    have hdl := decDigits_len t.value hv64
    obtain ⟨ds, hds⟩ : ∃ ds, ds = Lib.decDigits t.value := ⟨_, rfl⟩
    have Hfmt := formatUint_any t.value hv64
    rw [← hds] at hlen hdl Hfmt ⊢
    clear hds
    rw [hk] at hA hPA HBox ⊢
    go_enter Tryz.func102, Tryz.ntmps102
    go_wp2
    go_region_with (first
      | (go_at_call 115; refine (Hfmt B _ (hV.on hA.drew.1)).mono ?_; rintro e w1 ⟨rfl, hb1⟩; have hP1 := hPA.drew.below hb1)
      | (go_at_call 48; refine (writeString_any B b l d (bstr ds) _ hP1 (by rw [bstr_size]; omega)).mono ?_; rintro e w2 ⟨rfl, hP2, hb2⟩))
    all_goals (
      go_wp2
      go_end0
      exact ⟨rfl, hP2.page, (hA.trans (Stay.of_drew hb1 (Nat.le_trans hBw (by simp)))).trans hb2⟩)
  · rw [etext_name n t p hk] at hlen ⊢
    rw [bys_length] at hlen
    rw [hk] at hA hPA HBox ⊢
    go_enter Tryz.func102, Tryz.ntmps102
    go_wp2
    go_region_with (go_at_call 48; refine (writeString_any B b l d t.name _ hPA.drew (by omega)).mono ?_; rintro e w2 ⟨rfl, hP2, hb2⟩)
    all_goals (
      go_wp2
      go_end0
      exact ⟨rfl, hP2.page, hA.drew.trans hb2⟩)
  · rw [etext_cell n t p hk] at hlen ⊢
    rw [hk] at hA hPA HBox ⊢
    go_enter Tryz.func102, Tryz.ntmps102
    go_wp2_with (go_at_call 80; refine (cell_of ih B b l d t.name t.kids kv _ hPA (hK.on hA.1) (hV.on hA.1) hlen).mono ?_; rintro e w2 ⟨rfl, hP2, hb2⟩)
    go_end0
    exact ⟨rfl, hP2, hA.trans hb2⟩
  · rw [etext_bin n t p hk] at hlen ⊢
    have Hb := binary_of ih B b l d t _ p _ hPA (hE0.mono (Nat.le_refl _) hA.1) (hV.on hA.1) hp hlen
    rw [hk] at hA hPA HBox Hb ⊢
    go_enter Tryz.func102, Tryz.ntmps102
    go_wp2_with (go_at_call 116; refine Hb.mono ?_; rintro e w2 ⟨rfl, hP2, hb2⟩)
    go_end0
    exact ⟨rfl, hP2, hA.trans hb2⟩
  · rw [etext_not n t p hk] at hlen ⊢
    simp only [List.length_append, List.length_cons, List.length_nil] at hlen
    rw [hk] at hA hPA HBox ⊢
    go_enter Tryz.func102, Tryz.ntmps102
    go_wp2_with (go_at_call 51; refine (writeByte_any B b l d 126 _ hPA (by omega)).mono ?_; rintro e w1 ⟨rfl, hP1, hb1⟩; have hbx1 := hb1.2 _ _ _ _ HB.out (by decide) HBox.out; obtain ⟨a0, a1, a2, a3, a4, a5⟩ := box_cells hbx1)
    have hb01 := hA.trans hb1
    go_wp2_with (go_at_call 81; refine (part_of ih B b _ d t.kids kv 0 9 _ hP1.page (hK.on hb01.1) (hV.on hb01.1) (by omega) (by omega) (by simp only [List.length_append, List.length_cons, List.length_nil]; omega)).mono ?_; rintro e w2 ⟨rfl, hP2, hb2⟩)
    go_end0
    exact ⟨rfl, by simpa using hP2, hb01.trans hb2⟩
  · rw [etext_pick n t p hk] at hlen ⊢
    rw [hk] at hA hPA HBox ⊢
    go_enter Tryz.func102, Tryz.ntmps102
    go_wp2_with (go_at_call 117; refine (pick_of ih B b l d t.kids kv _ hPA (hK.on hA.1) (hV.on hA.1) hlen).mono ?_; rintro e w2 ⟨rfl, hP2, hb2⟩)
    go_end0
    exact ⟨rfl, hP2, hA.trans hb2⟩
  · rw [etext_else n t p k0 k1 k2 k3 k4 k5] at hlen ⊢
    simp only [List.length_cons, List.length_nil] at hlen
    go_enter Tryz.func102, Tryz.ntmps102
    go_wp2_with (go_at_call 48; refine (writeString_any B b l d ⟨#[63]⟩ _ hPA (by simp [ByteArray.size]; omega)).mono ?_; rintro e w1 ⟨rfl, hP1, hb1⟩)
    go_end0
    exact ⟨rfl, hP1.page, hA.trans hb1⟩

theorem expr_all : ∀ n, ExprC n
  | 0 => fun B b l d t v p w _ hE => hE.elim
  | n + 1 => expr_step (expr_all n)

theorem etext_ne : ∀ (n : Nat) (t : Tree) (p : Nat), t.kind ≠ 1 → etext (n + 1) t p ≠ [] := by
  intro n t p h1
  rcases kind_cases t.kind with hk | hk | hk | hk | hk | hk | ⟨k0, k1, k2, k3, k4, k5⟩
  · rw [etext_lit n t p hk]
    intro e
    have := Lib.decDigits_length t.value
    have := Lib.nDigits_pos t.value
    rw [e] at *
    simp at *
    omega
  · exact absurd hk h1
  · rw [etext_cell n t p hk]; simp [cellText]
  · rw [etext_bin n t p hk]; unfold binTextAt; split
    · simp
    · split <;> simp [binText]
  · rw [etext_not n t p hk]; simp
  · rw [etext_pick n t p hk]; simp [pickText]
  · rw [etext_else n t p k0 k1 k2 k3 k4 k5]; simp
end Go.Proofs.YtfginegegaokbaaGreatDoor
