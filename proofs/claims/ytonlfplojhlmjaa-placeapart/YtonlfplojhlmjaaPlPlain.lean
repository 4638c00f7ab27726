/- Layer 10 in plain words: how many cells a declaration has, where names begin, what labels cells have; and the declarations that the statements make. Plain. -/
import Derived.Test.YtonlfplojhlmjaaRows
namespace Go.Proofs.Ytonlfplojhlmjaa.Pl
set_option linter.unusedVariables false
set_option linter.unusedSimpArgs false

structure Pd where
  lock : Bool
  label : Int
  name : ByteArray
  size : Int
  by_ : ByteArray
  at_ : Int

def cellsP (d : Pd) : Int := if d.lock = true then 1 else min (max d.size 1) 64
theorem cells_pos (d : Pd) : 1 ≤ cellsP d ∧ cellsP d ≤ 64 := by unfold cellsP; split <;> omega
def none0 : ByteArray → Option Int := fun _ => none
def putP (f : ByteArray → Option Int) (s : ByteArray) (v : Int) : ByteArray → Option Int := fun t => if t = s then some v else f t
theorem put_same (f : ByteArray → Option Int) (s : ByteArray) (v : Int) : putP f s v s = some v := by simp [putP]
theorem put_ne (f : ByteArray → Option Int) (s : ByteArray) (v : Int) (t : ByteArray) (h : t ≠ s) : putP f s v t = f t := by simp [putP, h]
def stepF (f : ByteArray → Option Int) (n : Int) (d : Pd) : ByteArray → Option Int := if (f d.name).isSome = true then f else putP f d.name n
def startsP : List Pd → (ByteArray → Option Int) → Int → (ByteArray → Option Int)
  | [], f, _ => f
  | d :: ds, f, n => startsP ds (stepF f n d) (n + cellsP d)
def sizeP : List Pd → Int
  | [] => 0
  | d :: ds => cellsP d + sizeP ds
def labelP (d : Pd) : Int := if d.lock = true then 0 else d.label
def labelsP : List Pd → List Int
  | [] => []
  | d :: ds => List.replicate (cellsP d).toNat (labelP d) ++ labelsP ds
theorem size_nonneg (ds : List Pd) : 0 ≤ sizeP ds ∧ sizeP ds ≤ 64 * ds.length := by
  induction ds with
  | nil => simp [sizeP]
  | cons d ds ih => have := cells_pos d; simp only [sizeP, List.length_cons]; omega
theorem labels_len (ds : List Pd) : ((labelsP ds).length : Int) = sizeP ds := by
  induction ds with
  | nil => rfl
  | cons d ds ih => have := cells_pos d; simp only [sizeP, labelsP, List.length_append, List.length_replicate]; omega
theorem size_snoc (ds : List Pd) (d : Pd) : sizeP (ds ++ [d]) = sizeP ds + cellsP d := by
  induction ds with
  | nil => simp [sizeP]
  | cons x ds ih => simp only [sizeP, List.cons_append, ih]; omega
theorem starts_snoc : ∀ (ds : List Pd) (d : Pd) (f : ByteArray → Option Int) (n : Int), startsP (ds ++ [d]) f n = stepF (startsP ds f n) (n + sizeP ds) d
  | [], d, f, n => by simp [startsP, sizeP]
  | x :: ds, d, f, n => by simp only [startsP, List.cons_append, sizeP, starts_snoc ds]; rw [show n + (cellsP x + sizeP ds) = n + cellsP x + sizeP ds by omega]
theorem labels_snoc (ds : List Pd) (d : Pd) : labelsP (ds ++ [d]) = labelsP ds ++ List.replicate (cellsP d).toNat (labelP d) := by
  induction ds with
  | nil => simp [labelsP]
  | cons x ds ih => simp only [labelsP, List.cons_append, ih, List.append_assoc]
/-- Of unlike names each begins where the cells ahead of it end. -/
theorem starts_at : ∀ (ds : List Pd) (f : ByteArray → Option Int) (n : Int) (i : Nat) (d : Pd), (∀ (a b : Nat) x y, ds[a]? = some x → ds[b]? = some y → x.name = y.name → a = b) → (∀ x ∈ ds, f x.name = none) → ds[i]? = some d → startsP ds f n d.name = some (n + sizeP (ds.take i))
  | [], f, n, i, d, _, _, h => by simp at h
  | x :: ds, f, n, i, d, hu, hf, h => by
    have hx : f x.name = none := hf x (by simp)
    have hst : stepF f n x = putP f x.name n := by simp [stepF, hx]
    have hne : ∀ y ∈ ds, y.name ≠ x.name := fun y hy e => by
      obtain ⟨j, hj⟩ := List.getElem?_of_mem hy
      have := hu (j + 1) 0 y x (by simpa using hj) (by simp) e
      omega
    have hkeep : ∀ (l : List Pd) (g : ByteArray → Option Int) (m : Int) (s : ByteArray), (∀ y ∈ l, y.name ≠ s) → startsP l g m s = g s := by
      intro l
      induction l with
      | nil => intro g m s _; rfl
      | cons y l ih =>
        intro g m s hl
        simp only [startsP]
        rw [ih _ _ _ (fun z hz => hl z (by simp [hz]))]
        unfold stepF
        split
        · rfl
        · exact put_ne _ _ _ _ (fun e => hl y (by simp) e.symm)
    match i with
    | 0 =>
      simp at h; subst h
      simp only [startsP, hst, List.take_zero, sizeP, Int.add_zero]
      rw [hkeep ds _ _ _ hne, put_same]
    | i + 1 =>
      simp only [startsP, hst, List.take_succ_cons, sizeP]
      rw [starts_at ds _ _ i d (fun a b p q ha hb e => by
        have := hu (a + 1) (b + 1) p q (by simpa using ha) (by simpa using hb) e
        omega) (fun y hy => by rw [put_ne _ _ _ _ (hne y hy)]; exact hf y (by simp [hy])) (by simpa using h)]
      congr 1
      omega
theorem starts_none (s : ByteArray) : ∀ (ds : List Pd) (f : ByteArray → Option Int) (n : Int), (∀ x ∈ ds, x.name ≠ s) → startsP ds f n s = f s
  | [], f, n, _ => rfl
  | x :: ds, f, n, h => by
    simp only [startsP]
    rw [starts_none s ds _ _ (fun y hy => h y (by simp [hy]))]
    unfold stepF
    split
    · rfl
    · exact put_ne _ _ _ _ (fun e => h x (by simp) e.symm)
theorem labels_at : ∀ (ds : List Pd) (i : Nat) (d : Pd) (k : Nat), ds[i]? = some d → (k : Int) < cellsP d → (labelsP ds)[(sizeP (ds.take i)).toNat + k]? = some (labelP d)
  | [], i, d, k, h, _ => by simp at h
  | x :: ds, 0, d, k, h, hk => by
    simp at h; subst h
    simp only [labelsP, List.take_zero, sizeP, Int.toNat_zero, Nat.zero_add]
    rw [List.getElem?_append_left (by rw [List.length_replicate]; omega), List.getElem?_replicate, if_pos (by omega)]
  | x :: ds, i + 1, d, k, h, hk => by
    have ih := labels_at ds i d k (by simpa using h) hk
    have hc := cells_pos x
    have hs := size_nonneg (ds.take i)
    simp only [labelsP, List.take_succ_cons, sizeP]
    rw [List.getElem?_append_right (by simp; omega), ← ih]
    congr 1
    simp; omega

/-- What the statements' declarations are called. -/
def nameP (k : Nat) : ByteArray := ⟨#[110, UInt8.ofNat (97 + k / 26 % 26), UInt8.ofNat (97 + k % 26)]⟩
theorem name_size (k : Nat) : (nameP k).size = 3 := rfl
theorem name_inj {i j : Nat} (hi : i < 676) (hj : j < 676) (h : nameP i = nameP j) : i = j := by
  simp only [nameP, ByteArray.mk.injEq, Array.mk.injEq, List.cons.injEq, and_true, true_and] at h
  obtain ⟨h1, h2⟩ := h
  have e1 := congrArg UInt8.toNat h1
  have e2 := congrArg UInt8.toNat h2
  simp at e1 e2
  omega
def lockP (n : Int) : Bool := decide (n.tmod 7 = 6)
def declP (k : Nat) (n : Int) (b : Bool) : Pd := ⟨lockP n, if b = true then 1 else 0, nameP k, if lockP n = true then 0 else n, ⟨#[]⟩, 0⟩
def declsP (zs : List Int) (bs : List Bool) : List Pd := (List.range (min zs.length 600)).map fun k => declP k (zs.getD k 0) (bs.getD k false)
theorem decls_len (zs : List Int) (bs : List Bool) : (declsP zs bs).length = min zs.length 600 := by simp [declsP]
theorem decls_at {zs : List Int} {bs : List Bool} {k : Nat} {d : Pd} (h : (declsP zs bs)[k]? = some d) : k < zs.length ∧ k < 600 ∧ d = declP k (zs.getD k 0) (bs.getD k false) := by
  have hk : k < min zs.length 600 := by rw [← decls_len zs bs]; exact (List.getElem?_eq_some_iff.1 h).1
  simp only [declsP, List.getElem?_map, List.getElem?_range hk, Option.map_some, Option.some.injEq] at h
  exact ⟨by omega, by omega, h.symm⟩
theorem decls_unlike (zs : List Int) (bs : List Bool) (a b : Nat) (x y : Pd) (ha : (declsP zs bs)[a]? = some x) (hb : (declsP zs bs)[b]? = some y) (h : x.name = y.name) : a = b := by
  obtain ⟨_, h1, rfl⟩ := decls_at ha
  obtain ⟨_, h2, rfl⟩ := decls_at hb
  exact name_inj (by omega) (by omega) h
theorem decls_next {zs : List Int} {bs : List Bool} {k : Nat} (h : k < zs.length) (h6 : k < 600) : (declsP zs bs).take (k + 1) = (declsP zs bs).take k ++ [declP k (zs.getD k 0) (bs.getD k false)] := by
  have hk : k < (declsP zs bs).length := by rw [decls_len]; omega
  rw [List.take_add_one, List.getElem?_eq_getElem hk]
  simp only [Option.toList_some]
  congr 2
  simp [declsP]
theorem decls_name {zs : List Int} {bs : List Bool} {d : Pd} (h : d ∈ declsP zs bs) : d.name.size = 3 ∧ d.by_ = ⟨#[]⟩ ∧ -9223372036854775808 ≤ d.at_ ∧ (d.lock = true → d.size = 0) := by
  simp only [declsP, List.mem_map] at h
  obtain ⟨k, _, rfl⟩ := h
  refine ⟨rfl, rfl, by simp [declP], fun hl => ?_⟩
  simp only [declP] at hl ⊢
  rw [if_pos hl]
end Go.Proofs.Ytonlfplojhlmjaa.Pl
