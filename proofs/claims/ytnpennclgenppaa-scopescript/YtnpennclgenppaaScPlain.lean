/- What the statements of scope reckon, plain: the document's answer follows what is entered and left. Conditions: none. -/
import Derived.Test.YtnpennclgenppaaScCopy2
namespace Go.Proofs.Ytnpennclgenppaa
open Go.ChangeShapes Go.WideShapes Go.RowKit
set_option linter.unusedVariables false
set_option linter.unusedSimpArgs false

theorem declM_kind (d : Dc) : (declM d).kind ≠ 0 := by
  unfold declM
  split
  · simp
  · split <;> simp
theorem localM_kind (l c : Int) : (localM l c).kind ≠ 0 := by unfold localM; split <;> simp
theorem localM_max (l c : Int) : localM l (max 0 c) = localM l c := by
  by_cases h : 0 < c
  · rw [show max 0 c = c by omega]
  · rw [localM_not h, localM_not (by omega)]
theorem findP_zero {ds : List Dc} {ls : List Ent} {s : ByteArray} : (findP ds ls s).kind = 0 ↔ lastE ls s = none ∧ firstD ds s = none := by
  unfold findP
  constructor
  · intro h
    cases h1 : lastE ls s with
    | some e => rw [h1] at h; exact absurd h (localM_kind _ _)
    | none =>
      rw [h1] at h
      cases h2 : firstD ds s with
      | some d => rw [h2] at h; exact absurd h (declM_kind _)
      | none => exact ⟨rfl, rfl⟩
  · rintro ⟨h1, h2⟩; rw [h1, h2]; rfl
theorem lastE_from (s : ByteArray) : ∀ (ls : List Ent) (a : Option Ent), ls.foldl (fun acc e => if e.name = s then some e else acc) a = match lastE ls s with | some e => some e | none => a := by
  intro ls
  induction ls with
  | nil => intro a; rfl
  | cons e ls ih =>
    intro a
    have e1 := ih (if e.name = s then some e else a)
    have e2 := ih (if e.name = s then some e else none)
    simp only [lastE, List.foldl_cons] at e1 e2 ⊢
    rw [e1, e2]
    cases h : ls.foldl (fun acc e => if e.name = s then some e else acc) none with
    | some x => rfl
    | none => by_cases hn : e.name = s <;> simp [hn]
theorem lastE_append (a b : List Ent) (s : ByteArray) : lastE (a ++ b) s = match lastE b s with | some e => some e | none => lastE a s := by
  rw [lastE, List.foldl_append]; exact lastE_from s b _
theorem lastE_none {ls : List Ent} {s : ByteArray} : lastE ls s = none ↔ ∀ e ∈ ls, e.name ≠ s := by
  induction ls with
  | nil => simp [lastE]
  | cons x ls ih =>
    have : lastE (x :: ls) s = match lastE ls s with | some e => some e | none => if x.name = s then some x else none := by
      rw [show x :: ls = [x] ++ ls from rfl, lastE_append]; rfl
    rw [this]
    cases h : lastE ls s with
    | some e =>
      simp only [reduceCtorEq, List.mem_cons, forall_eq_or_imp, false_iff, not_and]
      intro _ hh
      rw [ih.2 hh] at h; cases h
    | none =>
      rw [h] at ih
      simp only [List.mem_cons, forall_eq_or_imp]
      by_cases hn : x.name = s
      · simp [hn]
      · simp only [hn, if_false, true_iff]; exact ⟨hn, ih.1 rfl⟩
theorem nodup_len {l m : List ByteArray} (hd : l.Nodup) (hs : ∀ x ∈ l, x ∈ m) : l.length ≤ m.length := by
  induction l generalizing m with
  | nil => simp
  | cons x l ih =>
    obtain ⟨h1, h2⟩ := List.nodup_cons.1 hd
    obtain ⟨a, b, rfl⟩ := List.append_of_mem (hs x List.mem_cons_self)
    have := ih (m := a ++ b) h2 (fun y hy => by
      have hm := hs y (List.mem_cons_of_mem _ hy)
      rcases List.mem_append.1 hm with hm | hm
      · exact List.mem_append_left _ hm
      · rcases List.mem_cons.1 hm with e | hm
        · subst e; exact absurd hy h1
        · exact List.mem_append_right _ hm)
    simp only [List.length_append, List.length_cons] at this ⊢
    omega
/-- What is known of the locals. -/
def SInv (ds : List Dc) (ls : List Ent) (f : ByteArray → Mng) : Prop :=
  (∀ s, f s = findP ds ls s) ∧ (ls.map (·.name)).Nodup ∧ (∀ e ∈ ls, firstD ds e.name = none) ∧ ∀ e ∈ ls, ∃ i, i < 8 ∧ e.name = nmN i
theorem SInv.enter {ds : List Dc} {ls : List Ent} {f : ByteArray → Mng} (h : SInv ds ls f) {i : Nat} (hi : i < 8) (l c : Int) (hk : (findP ds ls (nmN i)).kind = 0) : SInv ds (ls ++ [⟨nmN i, l, max 0 c⟩]) (put f (nmN i) (localM l c)) := by
  obtain ⟨h1, h2, h3, h4⟩ := h
  obtain ⟨k1, k2⟩ := findP_zero.1 hk
  refine ⟨fun s => ?_, ?_, ?_, ?_⟩
  · by_cases e : s = nmN i
    · subst e
      rw [put_same]
      unfold findP
      rw [lastE_snoc, if_pos rfl]
      exact (localM_max l c).symm
    · rw [put_ne _ _ _ _ e, h1 s]
      unfold findP
      rw [lastE_snoc, if_neg (fun x => e x.symm)]
  · rw [List.map_append, List.nodup_append]
    refine ⟨h2, by simp, fun a ha b hb => ?_⟩
    simp only [List.map_cons, List.map_nil, List.mem_singleton] at hb
    subst hb
    obtain ⟨e, he, rfl⟩ := List.mem_map.1 ha
    exact lastE_none.1 k1 e he
  · intro e he
    rcases List.mem_append.1 he with he | he
    · exact h3 e he
    · simp at he; subst he; exact k2
  · intro e he
    rcases List.mem_append.1 he with he | he
    · exact h4 e he
    · simp at he; subst he; exact ⟨i, hi, rfl⟩
theorem putAll_notS (t : ByteArray) : ∀ (ss : List ByteArray) (f : ByteArray → Mng), t ∉ ss → ss.foldl (fun g s => put g s mnone) f t = f t := by
  intro ss
  induction ss with
  | nil => intro f _; rfl
  | cons s ss ih =>
    intro f h
    rw [List.foldl_cons, ih _ (fun hm => h (List.mem_cons_of_mem _ hm)), put_ne _ _ _ _ (fun e => h (by rw [e]; exact List.mem_cons_self))]
theorem putAll_inS (t : ByteArray) : ∀ (ss : List ByteArray) (f : ByteArray → Mng), t ∈ ss ∨ f t = mnone → ss.foldl (fun g s => put g s mnone) f t = mnone := by
  intro ss
  induction ss with
  | nil => intro f h; exact h.elim (fun h => by cases h) (fun h => h)
  | cons s ss ih =>
    intro f h
    rw [List.foldl_cons]
    apply ih
    by_cases e : t = s
    · exact .inr (by rw [e, put_same])
    · rw [put_ne _ _ _ _ e]
      exact h.elim (fun h => .inl ((List.mem_cons.1 h).resolve_left e)) .inr
theorem SInv.leave {ds : List Dc} {ls : List Ent} {f : ByteArray → Mng} (h : SInv ds ls f) (mark : Nat) : SInv ds (ls.take mark) (((ls.map (·.name)).drop mark).foldl (fun g s => put g s mnone) f) := by
  obtain ⟨h1, h2, h3, h4⟩ := h
  have hsplit : ls = ls.take mark ++ ls.drop mark := (List.take_append_drop mark ls).symm
  refine ⟨fun s => ?_, ?_, fun e he => h3 e (List.mem_of_mem_take he), fun e he => h4 e (List.mem_of_mem_take he)⟩
  · rw [← List.map_drop]
    by_cases hs : s ∈ (ls.drop mark).map (·.name)
    · rw [putAll_inS _ _ _ (.inl hs)]
      obtain ⟨e, he, rfl⟩ := List.mem_map.1 hs
      have hL : lastE (ls.take mark) e.name = none := by
        rw [lastE_none]
        intro x hx hxe
        rw [hsplit, List.map_append, List.nodup_append] at h2
        exact h2.2.2 x.name (List.mem_map.2 ⟨x, hx, rfl⟩) e.name (List.mem_map.2 ⟨e, he, rfl⟩) hxe
      unfold findP
      rw [hL, h3 e (List.mem_of_mem_drop he)]
    · rw [putAll_notS _ _ _ hs, h1 s]
      have hL : lastE ls s = lastE (ls.take mark) s := by
        conv => lhs; rw [hsplit, lastE_append]
        rw [lastE_none.2 (fun e he hn => hs (List.mem_map.2 ⟨e, he, hn⟩))]
      unfold findP
      rw [hL]
  · rw [List.map_take]; exact h2.sublist (List.take_sublist _ _)
def names8 : List ByteArray := [nmN 0, nmN 1, nmN 2, nmN 3, nmN 4, nmN 5, nmN 6, nmN 7]
theorem mem8 {i : Nat} (h : i < 8) : nmN i ∈ names8 := by
  match i, h with
  | 0, _ => simp [names8]
  | 1, _ => simp [names8]
  | 2, _ => simp [names8]
  | 3, _ => simp [names8]
  | 4, _ => simp [names8]
  | 5, _ => simp [names8]
  | 6, _ => simp [names8]
  | 7, _ => simp [names8]
theorem SInv.few {ds : List Dc} {ls : List Ent} {f : ByteArray → Mng} (h : SInv ds ls f) : ls.length ≤ 8 := by
  have := nodup_len (m := names8) h.2.1 (fun x hx => by
    obtain ⟨e, he, rfl⟩ := List.mem_map.1 hx
    obtain ⟨i, hi, hn⟩ := h.2.2.2 e he
    rw [hn]; exact mem8 hi)
  simpa [names8] using this
theorem firstBad_take {f : ByteArray → Mng} {ds : List Dc} (h : firstBad f ds = none) (k : Nat) : firstBad f (ds.take k) = none := by
  induction ds generalizing f k with
  | nil => simp [firstBad]
  | cons d ds ih =>
    cases k with
    | zero => rfl
    | succ k =>
      simp only [firstBad] at h
      by_cases hb : bad f d = true
      · rw [if_pos hb] at h; cases h
      · rw [if_neg hb] at h
        simp only [List.take_succ_cons, firstBad, if_neg hb]
        exact ih h k
theorem firstD_snoc (ds : List Dc) (d : Dc) (s : ByteArray) : firstD (ds ++ [d]) s = match firstD ds s with | some x => some x | none => if d.name = s then some d else none := by
  unfold firstD
  rw [List.find?_append]
  cases ds.find? fun d => decide (d.name = s) with
  | some x => rfl
  | none => by_cases h : d.name = s <;> simp [h]
/-- What Of makes of good declarations. -/
theorem means_find {ds : List Dc} (h : firstBad none0 ds = none) : (∀ s, meansOf none0 ds s = findP ds [] s) ∧ (ds.map (·.name)).Nodup := by
  have key : ∀ k, k ≤ ds.length → (∀ s, meansOf none0 (ds.take k) s = findP (ds.take k) [] s) ∧ ((ds.take k).map (·.name)).Nodup := by
    intro k
    induction k with
    | zero => intro _; exact ⟨fun s => rfl, by simp⟩
    | succ k ih =>
      intro hk
      obtain ⟨i1, i2⟩ := ih (by omega)
      obtain ⟨d, hd⟩ : ∃ d, ds[k]? = some d := ⟨ds[k], by simp⟩
      have hb : bad (meansOf none0 (ds.take k)) d = false := by
        cases hb : bad (meansOf none0 (ds.take k)) d with
        | false => rfl
        | true => rw [firstBad_at (firstBad_take h k) hd hb] at h; cases h
      have h0 : (findP (ds.take k) [] d.name).kind = 0 := by
        rw [← i1 d.name]
        simp only [bad, Bool.or_eq_false_iff] at hb
        simpa using hb.1
      have hno := (findP_zero.1 h0).2
      have e : ds.take (k + 1) = ds.take k ++ [d] := by rw [List.take_add_one, hd]; rfl
      rw [e]
      refine ⟨fun s => ?_, ?_⟩
      · have : meansOf none0 (ds.take k ++ [d]) = put (meansOf none0 (ds.take k)) d.name (declM d) := by simp [meansOf]
        rw [this]
        by_cases es : s = d.name
        · subst es
          rw [put_same]
          unfold findP
          rw [firstD_snoc, hno]
          simp [lastE]
        · rw [put_ne _ _ _ _ es, i1 s]
          unfold findP
          rw [firstD_snoc]
          cases firstD (ds.take k) s with
          | some x => rfl
          | none => simp only [if_neg (fun x => es (Eq.symm x))]
      · rw [List.map_append, List.nodup_append]
        refine ⟨i2, by simp, fun a ha b hb' => ?_⟩
        simp only [List.map_cons, List.map_nil, List.mem_singleton] at hb'
        subst hb'
        obtain ⟨x, hx, rfl⟩ := List.mem_map.1 ha
        intro en
        have := List.find?_eq_none.1 hno x hx
        simp [en] at this
  have := key ds.length (Nat.le_refl _)
  rwa [List.take_length] at this
theorem ds_few {ds : List Dc} (h : firstBad none0 ds = none) (hn : ∀ d ∈ ds, ∃ i, i < 8 ∧ d.name = nmN i) : ds.length ≤ 8 := by
  have := nodup_len (m := names8) (means_find h).2 (fun x hx => by
    obtain ⟨e, he, rfl⟩ := List.mem_map.1 hx
    obtain ⟨i, hi, hn⟩ := hn e he
    rw [hn]; exact mem8 hi)
  simpa [names8] using this
theorem SInv.start {ds : List Dc} (h : firstBad none0 ds = none) : SInv ds [] (meansOf none0 ds) := ⟨(means_find h).1, by simp, fun e he => (by cases he), fun e he => by cases he⟩
end Go.Proofs.Ytnpennclgenppaa
