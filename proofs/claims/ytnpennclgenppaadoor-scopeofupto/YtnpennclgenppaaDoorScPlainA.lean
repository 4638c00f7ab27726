/- What Of makes of good declarations is the document's answer. Conditions: none. -/
import Derived.Test.YtnpennclgenppaaDoorScFind
namespace Go.Proofs.YtnpennclgenppaaDoor
open Go.ChangeShapes Go.WideShapes Go.RowKit
set_option linter.unusedVariables false
set_option linter.unusedSimpArgs false

theorem declM_kind (d : Dc) : (declM d).kind ≠ 0 := by
  unfold declM
  split
  · simp
  · split <;> simp
theorem localM_kind (l c : Int) : (localM l c).kind ≠ 0 := by unfold localM; split <;> simp
theorem findP_zero {ds : List Dc} {ls : List Ent} {s : ByteArray} : (findP ds ls s).kind = 0 ↔ lastE ls s = none ∧ firstD ds s = none := by
  unfold findP
  constructor
  · intro h
    cases h1 : lastE ls s with
    | some e => rw [h1] at h; exact absurd h (localM_kind _ _)
    | none =>
      rw [h1] at h
      cases h2 : firstD ds s with
      | some d => rw [h2] at h; exact absurd h (declM_kind _)
      | none => exact ⟨rfl, rfl⟩
  · rintro ⟨h1, h2⟩; rw [h1, h2]; rfl
theorem firstBad_take {f : ByteArray → Mng} {ds : List Dc} (h : firstBad f ds = none) (k : Nat) : firstBad f (ds.take k) = none := by
  induction ds generalizing f k with
  | nil => simp [firstBad]
  | cons d ds ih =>
    cases k with
    | zero => rfl
    | succ k =>
      simp only [firstBad] at h
      by_cases hb : bad f d = true
      · rw [if_pos hb] at h; cases h
      · rw [if_neg hb] at h
        simp only [List.take_succ_cons, firstBad, if_neg hb]
        exact ih h k
theorem firstD_snoc (ds : List Dc) (d : Dc) (s : ByteArray) : firstD (ds ++ [d]) s = match firstD ds s with | some x => some x | none => if d.name = s then some d else none := by
  unfold firstD
  rw [List.find?_append]
  cases ds.find? fun d => decide (d.name = s) with
  | some x => rfl
  | none => by_cases h : d.name = s <;> simp [h]
/-- What Of makes of good declarations. -/
theorem means_find {ds : List Dc} (h : firstBad none0 ds = none) : (∀ s, meansOf none0 ds s = findP ds [] s) ∧ (ds.map (·.name)).Nodup := by
  have key : ∀ k, k ≤ ds.length → (∀ s, meansOf none0 (ds.take k) s = findP (ds.take k) [] s) ∧ ((ds.take k).map (·.name)).Nodup := by
    intro k
    induction k with
    | zero => intro _; exact ⟨fun s => rfl, by simp⟩
    | succ k ih =>
      intro hk
      obtain ⟨i1, i2⟩ := ih (by omega)
      obtain ⟨d, hd⟩ : ∃ d, ds[k]? = some d := ⟨ds[k], by simp⟩
      have hb : bad (meansOf none0 (ds.take k)) d = false := by
        cases hb : bad (meansOf none0 (ds.take k)) d with
        | false => rfl
        | true => rw [firstBad_at (firstBad_take h k) hd hb] at h; cases h
      have h0 : (findP (ds.take k) [] d.name).kind = 0 := by
        rw [← i1 d.name]
        simp only [bad, Bool.or_eq_false_iff] at hb
        simpa using hb.1
      have hno := (findP_zero.1 h0).2
      have e : ds.take (k + 1) = ds.take k ++ [d] := by rw [List.take_add_one, hd]; rfl
      rw [e]
      refine ⟨fun s => ?_, ?_⟩
      · have : meansOf none0 (ds.take k ++ [d]) = put (meansOf none0 (ds.take k)) d.name (declM d) := by simp [meansOf]
        rw [this]
        by_cases es : s = d.name
        · subst es
          rw [put_same]
          unfold findP
          rw [firstD_snoc, hno]
          simp [lastE]
        · rw [put_ne _ _ _ _ es, i1 s]
          unfold findP
          rw [firstD_snoc]
          cases firstD (ds.take k) s with
          | some x => rfl
          | none => simp only [if_neg (fun x => es (Eq.symm x))]
      · rw [List.map_append, List.nodup_append]
        refine ⟨i2, by simp, fun a ha b hb' => ?_⟩
        simp only [List.map_cons, List.map_nil, List.mem_singleton] at hb'
        subst hb'
        obtain ⟨x, hx, rfl⟩ := List.mem_map.1 ha
        intro en
        have := List.find?_eq_none.1 hno x hx
        simp [en] at this
  have := key ds.length (Nat.le_refl _)
  rwa [List.take_length] at this
end Go.Proofs.YtnpennclgenppaaDoor
