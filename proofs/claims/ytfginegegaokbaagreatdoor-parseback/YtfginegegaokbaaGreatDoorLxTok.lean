/- What lies in memory behind lex.Cut, token by token. Conditions: as each theorem says. -/
import Derived.Test.YtfginegegaokbaaGreatDoorLxCutC
namespace Go.Proofs.YtfginegegaokbaaGreatDoor.Lx
open Go.ChangeShapes Go.WideShapes Go.ChangeAt Go.RowKit

/-! tokens in memory -/
/-- Block g holds these tokens, from its head on. -/
def Row (w : World) (g : Nat) (ts : List Tok) : Prop :=
  ∀ i t, ts[i]? = some t → w.cell? ⟨g, i * 4, none⟩ = some (.int .i64 t.kind) ∧ w.cell? ⟨g, i * 4 + 1, none⟩ = some (.string (bstr t.text)) ∧ w.cell? ⟨g, i * 4 + 2, none⟩ = some (.int .u64 t.value) ∧ w.cell? ⟨g, i * 4 + 3, none⟩ = some (.int .i64 t.at_)
theorem Row.below {w w' : World} {B g : Nat} {ts : List Tok} (h : Row w g ts) (hb : Below B w w') (hg : g < B) : Row w' g ts := fun i t ht => by
  obtain ⟨a, b, c, d⟩ := h i t ht
  exact ⟨(hb.cell (p := ⟨g, _, none⟩) hg).trans a, (hb.cell (p := ⟨g, _, none⟩) hg).trans b, (hb.cell (p := ⟨g, _, none⟩) hg).trans c, (hb.cell (p := ⟨g, _, none⟩) hg).trans d⟩
theorem rowOf_get : ∀ (ts : List Tok) (i : Nat) (t : Tok), ts[i]? = some t → ∀ j, j < 4 → (rowOf ts)[i * 4 + j]? = t.cells[j]?
  | [], i, t, h, j, hj => by simp at h
  | a :: ts, 0, t, h, j, hj => by
    simp at h; subst h
    have : j < a.cells.length := by simpa [Tok.cells] using hj
    simp [rowOf, List.getElem?_append_left this]
  | a :: ts, i + 1, t, h, j, hj => by
    have h' : ts[i]? = some t := by simpa using h
    have e : (rowOf (a :: ts))[(i + 1) * 4 + j]? = (rowOf ts)[i * 4 + j]? := by
      have : rowOf (a :: ts) = a.cells ++ rowOf ts := by simp [rowOf]
      rw [this, List.getElem?_append_right (by simp [Tok.cells]; omega)]
      congr 1
      simp [Tok.cells]; omega
    rw [e]
    exact rowOf_get ts i t h' j hj
theorem goTok_ne : ∀ (f : Nat) (l : List UInt8) (k : Nat) (ts : List Tok), goTok f l k = .ok ts → ts ≠ []
  | 0, _, _, _, h => by simp [goTok] at h
  | f + 1, [], k, ts, h => by rw [goTok_nil] at h; cases h; simp
  | f + 1, c :: r, k, ts, h => by
    cases hr : readTok (c :: r) k with
    | none => rw [goTok_none (by simp) hr] at h; cases h
    | some t =>
      rw [goTok_some hr] at h
      generalize goTok f _ _ = q at h
      cases q with
      | ok us => simp only [Res.pre] at h; cases h; simp
      | error p => simp only [Res.pre] at h; cases h
theorem cutAll_ne {l : List UInt8} {ts : List Tok} (h : cutAll l = .ok ts) : ts ≠ [] := by
  unfold cutAll at h
  split at h
  · cases h
  · exact goTok_ne _ _ _ _ h
theorem goTok_len : ∀ (f : Nat) (l : List UInt8) (k : Nat) (ts : List Tok), goTok f l k = .ok ts → ts.length ≤ l.length + 1
  | 0, _, _, _, h => by simp [goTok] at h
  | f + 1, [], k, ts, h => by rw [goTok_nil] at h; cases h; simp
  | f + 1, c :: r, k, ts, h => by
    cases hr : readTok (c :: r) k with
    | none => rw [goTok_none (by simp) hr] at h; cases h
    | some t =>
      obtain ⟨n, _, h1, h2, h3, _⟩ := readTok_some hr
      rw [goTok_some hr] at h
      generalize hq : goTok f _ _ = q at h
      cases q with
      | ok us =>
        have := goTok_len f _ _ us hq
        simp only [Res.pre] at h; cases h
        simp only [List.length_drop, List.length_cons, List.length_append, List.length_nil] at *
        omega
      | error p => simp only [Res.pre] at h; cases h
theorem cutAll_len {l : List UInt8} {ts : List Tok} (h : cutAll l = .ok ts) : ts.length ≤ 65537 ∧ ts.length ≤ l.length + 1 := by
  unfold cutAll at h
  split at h
  · cases h
  · have := goTok_len _ _ _ _ h
    simp only [List.length_drop] at this
    omega

/-- lex.Cut, where there are tokens. -/
theorem cut_ok (s : ByteArray) (ts : List Tok) (w : World) (hm : s.size ≤ maxLen) (hV : Vars w) (h : Hid (cutAll (bys s) = .ok ts)) :
    Calls Tryz.prog 18 #[.string s] w fun e w' => ∃ g cap, e = .returned (.tuple #[.slice (some ⟨g, 0, none⟩) ts.length cap, .nilIface]) ∧ Row w' g ts ∧ w.heap.size ≤ g ∧ g < w'.heap.size ∧ ts.length ≤ cap ∧ (∀ j, w'.frozen? ⟨g, j, none⟩ = false) ∧ Below w.heap.size w w' := by
  have hc := cut_any s w hm hV
  rw [h.out] at hc
  refine hc.mono ?_
  rintro e w' ⟨⟨v, rfl, hown⟩, hb⟩
  have hown0 := hown
  obtain ⟨_, h2⟩ := hown
  rcases h2 with ⟨_, h0⟩ | ⟨g, cap, cur, rfl, hg, hh, hn, hcap, hsz, htake⟩
  · exact absurd (List.length_eq_zero_iff.1 h0) (cutAll_ne h.out)
  · refine ⟨g, cap, rfl, fun i t ht => ?_, hg, lt_of_block hh, hn, fun j => by simp [World.frozen?, hh], hb⟩
    have hi : i < ts.length := by
      rcases Nat.lt_or_ge i ts.length with h' | h'
      · exact h'
      · rw [List.getElem?_eq_none h'] at ht; cases ht
    have key : ∀ j, j < 4 → w'.cell? ⟨g, i * 4 + j, none⟩ = t.cells[j]? := fun j hj => by
      rw [hown0.cellAt (i * 4 + j) (by omega), rowOf_get ts i t ht j hj]
    exact ⟨key 0 (by omega), key 1 (by omega), key 2 (by omega), key 3 (by omega)⟩
/-- lex.Cut, where something is wrong. -/
theorem cut_err (s : ByteArray) (n p : Nat) (w : World) (hm : s.size ≤ maxLen) (hV : Vars w) (h : Hid (cutAll (bys s) = .err n p)) :
    Calls Tryz.prog 18 #[.string s] w fun e w' => ∃ fb, e = .returned (.tuple #[.slice none 0 0, .iface 96 (.pointer (some ⟨fb, 0, none⟩))]) ∧ w.heap.size ≤ fb ∧ w'.heap[fb]? = some (.cells #[.int .i64 (p : Int), .iface 38 (.int .i64 (n : Int))] 100 (0, 0)) ∧ Below w.heap.size w w' := by
  have hc := cut_any s w hm hV
  rw [h.out] at hc
  refine hc.mono ?_
  rintro e w' ⟨⟨fb, rfl, h1, h2⟩, hb⟩
  exact ⟨fb, rfl, h1, h2, hb⟩
end Go.Proofs.YtfginegegaokbaaGreatDoor.Lx
