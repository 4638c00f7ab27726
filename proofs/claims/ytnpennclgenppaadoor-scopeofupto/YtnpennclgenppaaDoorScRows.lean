/- A row of declarations that a call owns. Conditions: none. -/
import Derived.Test.YtnpennclgenppaaDoorScPlainA
import Derived.Test.YtnpennclgenppaaDoorScDecl
import Derived.Test.YtnpennclgenppaaDoorScAwake
import Derived.Deep.AppendLies
namespace Go.Proofs.YtnpennclgenppaaDoor
open Go.ChangeShapes Go.WideShapes Go.RowKit
set_option linter.unusedVariables false
set_option linter.unusedSimpArgs false

@[reducible] def dcell (d : Dc) : List Value := [.bool d.lock, .int .i64 d.label, .string d.name, .int .i64 d.size, .string d.by_, .int .i64 d.at_]
theorem Tryd.infoD : (Tryd.prog.info? 29).map (fun i => (i.zero, i.size, i.bytes)) = some (some (.agg #[.bool false, .int .i64 0, .string ⟨#[]⟩, .int .i64 0, .string ⟨#[]⟩, .int .i64 0]), 6, 64) := by kernel_rfl
def dflat (ds : List Dc) : List Value := (ds.map dcell).flatten
theorem dflat_len (ds : List Dc) : (dflat ds).length = ds.length * 6 := by
  induction ds with
  | nil => rfl
  | cons d ds ih =>
    have : dflat (d :: ds) = dcell d ++ dflat ds := rfl
    rw [this, List.length_append, ih, List.length_cons]; simp; omega
theorem dflat_at : ∀ (ds : List Dc) (i : Nat) (d : Dc) (r : Nat), ds[i]? = some d → r < 6 → (dflat ds)[i * 6 + r]? = (dcell d)[r]?
  | [], i, d, r, h, _ => by simp at h
  | x :: ds, 0, d, r, h, hr => by
    simp at h; subst h
    rw [show dflat (x :: ds) = dcell x ++ dflat ds from rfl, List.getElem?_append_left (by simp; omega)]
    simp
  | x :: ds, i + 1, d, r, h, hr => by
    have ih := dflat_at ds i d r (by simpa using h) hr
    rw [show dflat (x :: ds) = dcell x ++ dflat ds from rfl, List.getElem?_append_right (by simp; omega), ← ih]
    congr 1
    simp; omega
theorem dflat_one (ds : List Dc) : ∀ u ∈ dflat ds, u.oneCell' = true := fun u hu => by
  obtain ⟨l, hl, hul⟩ := List.mem_flatten.1 hu
  obtain ⟨d, _, rfl⟩ := List.mem_map.1 hl
  simp at hul
  rcases hul with rfl | rfl | rfl | rfl | rfl | rfl <;> rfl
theorem dflat_snoc (ds : List Dc) (d : Dc) : dflat (ds ++ [d]) = dflat ds ++ dcell d := by simp [dflat]
theorem declP_name (n b s l p : Int) (hn : 0 ≤ n) : ((declP n b s l p).name.size ≤ maxLen ∧ (declP n b s l p).by_.size ≤ maxLen) ∧ ∃ i, i < 8 ∧ (declP n b s l p).name = nmN i := by
  have e0 : (⟨#[]⟩ : ByteArray).size ≤ maxLen := by simp [ByteArray.size]
  unfold declP
  split
  · exact ⟨⟨nmN_size _, e0⟩, _, by omega, rfl⟩
  · refine ⟨⟨nmN_size _, ?_⟩, _, by omega, rfl⟩
    show (if b % 3 = 0 then nmN (b / 3 % 6).toNat else ⟨#[]⟩).size ≤ maxLen
    split
    · exact nmN_size _
    · exact e0
theorem own_keepR {w w' : World} {B : Nat} {e : TypeId} {sz n : Nat} {v : Value} {xs : List Value} (h : w.ownsRow B e sz v n xs) (hb : Below w.heap.size w w') : w'.ownsRow B e sz v n xs := by
  refine ⟨h.1, ?_⟩
  rcases h.2 with hn | ⟨g, cap, cur, rfl, h0, hgg, rest⟩
  · exact .inl hn
  · exact .inr ⟨g, cap, cur, rfl, h0, (hb.block g (heap_lt hgg)).trans hgg, rest⟩
theorem ds_of_own {w : World} {B : Nat} {v : Value} {ds : List Dc} (h : w.ownsRow B 29 6 v ds.length (dflat ds)) (hl : ds.length ≤ 70368744177664) (hn : ∀ d ∈ ds, d.name.size ≤ maxLen ∧ d.by_.size ≤ maxLen) : DsAt w v ds := by
  rcases h.2 with ⟨rfl, h0⟩ | ⟨g, cap, cur, rfl, hb, hgg, rest⟩
  · rw [List.length_eq_zero_iff.1 h0]; exact DsAt.nil w
  · refine ⟨_, cap, rfl, hl, fun i d hd => ?_⟩
    obtain ⟨n1, n2⟩ := hn d (List.mem_of_getElem? hd)
    have key : ∀ r u, r < 6 → (dcell d)[r]? = some u → w.cell? ⟨g, 0 + i * 6 + r, none⟩ = some u := fun r u hr hu => by
      have := World.ownsRow.cells h (g := g) rfl (i * 6 + r) u (by rw [dflat_at ds i d r hd hr]; exact hu)
      rw [Nat.add_assoc]
      first | (rw [Addr.add_lit] at this; exact this) | (rw [add_plain] at this; exact this)
    exact ⟨n1, n2, g, 0, rfl, heap_lt hgg, key 0 _ (by omega) rfl, key 1 _ (by omega) rfl, key 2 _ (by omega) rfl, key 3 _ (by omega) rfl, key 4 _ (by omega) rfl, key 5 _ (by omega) rfl⟩
/-- The place that is told: -1 where none is wrong. -/
def wrongP (ds : List Dc) : Int := match firstBad none0 ds with | none => -1 | some d => d.at_
theorem firstBad_some {f : ByteArray → Mng} {d0 : Dc} : ∀ {ds : List Dc} (x : List Dc), firstBad f ds = some d0 → firstBad f (ds ++ x) = some d0 := by
  intro ds
  induction ds generalizing f with
  | nil => intro x h; cases h
  | cons d ds ih =>
    intro x h
    simp only [firstBad] at h
    simp only [List.cons_append, firstBad]
    by_cases hb : bad f d = true
    · rw [if_pos hb] at h ⊢; exact h
    · rw [if_neg hb] at h ⊢; exact ih x h
theorem wrong_snoc_none {ds : List Dc} (d : Dc) (h : firstBad none0 ds = none) : firstBad none0 (ds ++ [d]) = if bad (findP ds []) d = true then some d else none := by
  rw [firstBad_append _ _ _ h, show meansOf none0 ds = findP ds [] from funext (means_find h).1]
  rfl
theorem firstBad_mem {f : ByteArray → Mng} {ds : List Dc} {d : Dc} (h : firstBad f ds = some d) : d ∈ ds := by
  induction ds generalizing f with
  | nil => cases h
  | cons x ds ih =>
    simp only [firstBad] at h
    by_cases hb : bad f x = true
    · rw [if_pos hb] at h; cases h; exact List.mem_cons_self
    · rw [if_neg hb] at h; exact List.mem_cons_of_mem _ (ih h)
end Go.Proofs.YtnpennclgenppaaDoor
