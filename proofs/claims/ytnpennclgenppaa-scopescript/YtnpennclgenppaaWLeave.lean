/- The walk of ScopeLeave: on every input it returns true. Conditions: none. -/
import Derived.Test.YtnpennclgenppaaWHides
namespace Go.Proofs.Ytnpennclgenppaa
open Go.ChangeShapes Go.WideShapes Go.RowKit Go.Maps
set_option linter.unusedVariables false
set_option linter.unusedSimpArgs false

@[reducible] def abc : ByteArray := ⟨#[97, 98, 99, 100, 101, 102, 103, 104, 105, 106, 107, 108, 109, 110, 111, 112, 113, 114, 115, 116, 117, 118, 119, 120, 121, 122]⟩
def nm (i : Nat) : ByteArray := abc.extract i (i + 1)
theorem nm_is : ∀ i, i < 26 → nm i = ⟨#[UInt8.ofNat (97 + i)]⟩ := by
  intro i hi
  have : ∀ i : Fin 26, nm i.val = ⟨#[UInt8.ofNat (97 + i.val)]⟩ := by decide
  exact this ⟨i, hi⟩
theorem nm_size {i : Nat} (hi : i < 26) : (nm i).size ≤ maxLen := by rw [nm_is i hi]; exact sz1
theorem nm_inj {i j : Nat} (hi : i < 26) (hj : j < 26) (h : nm i = nm j) : i = j := by
  rw [nm_is i hi, nm_is j hj] at h
  simp only [ByteArray.mk.injEq, Array.mk.injEq, List.cons.injEq, and_true] at h
  have := congrArg UInt8.toNat h
  simp only [UInt8.toNat_ofNat'] at this
  omega
theorem nm13 : nm 13 = ⟨#[110]⟩ := nm_is 13 (by omega)
theorem cut_nm {i : Nat} (hi : i < 26) (W : World) (a b : Int) (ha : a = i) (hb : b = (i : Int) + 1) :
    (Instr.slice 9 (.string abc) (some (.int .i64 a)) (some (.int .i64 b)) none).run Try.prog W = .ok (.string (nm i)) W := by
  subst ha hb
  rw [run_slice_string W 9 abc .i64 .i64 (i : Int) ((i : Int) + 1) Try.underlying9 (by omega) (by omega) (by have : abc.size = 26 := rfl; omega)]
  simp [nm]

/-- Names entered one behind the other. -/
def ents (l c : Int) (f : ByteArray → Mng) (ss : List ByteArray) : ByteArray → Mng := ss.foldl (fun g s => put g s (localM l c)) f
theorem ents_snoc (l c : Int) (f : ByteArray → Mng) (ss : List ByteArray) (s : ByteArray) : ents l c f (ss ++ [s]) = put (ents l c f ss) s (localM l c) := by simp [ents]
theorem ents_not (l c : Int) (t : ByteArray) : ∀ (ss : List ByteArray) (f : ByteArray → Mng), t ∉ ss → ents l c f ss t = f t := by
  intro ss
  induction ss with
  | nil => intro f _; rfl
  | cons s ss ih =>
    intro f h
    show ents l c (put f s (localM l c)) ss t = f t
    rw [ih _ (fun hm => h (List.mem_cons_of_mem _ hm)), put_ne _ _ _ _ (fun e => h (by rw [e]; exact List.mem_cons_self))]
theorem ents_in (l c : Int) (t : ByteArray) : ∀ (ss : List ByteArray) (f : ByteArray → Mng), t ∈ ss ∨ f t = localM l c → ents l c f ss t = localM l c := by
  intro ss
  induction ss with
  | nil => intro f h; exact h.elim (fun h => by cases h) (fun h => h)
  | cons s ss ih =>
    intro f h
    show ents l c (put f s (localM l c)) ss t = _
    apply ih
    by_cases e : t = s
    · exact .inr (by rw [e, put_same])
    · rw [put_ne _ _ _ _ e]
      exact h.elim (fun h => .inl ((List.mem_cons.1 h).resolve_left e)) .inr
theorem putAll_not (t : ByteArray) : ∀ (ss : List ByteArray) (f : ByteArray → Mng), t ∉ ss → putAll f ss t = f t := by
  intro ss
  induction ss with
  | nil => intro f _; rfl
  | cons s ss ih =>
    intro f h
    show putAll (put f s mnone) ss t = f t
    rw [ih _ (fun hm => h (List.mem_cons_of_mem _ hm)), put_ne _ _ _ _ (fun e => h (by rw [e]; exact List.mem_cons_self))]
theorem putAll_in (t : ByteArray) : ∀ (ss : List ByteArray) (f : ByteArray → Mng), t ∈ ss ∨ f t = mnone → putAll f ss t = mnone := by
  intro ss
  induction ss with
  | nil => intro f h; exact h.elim (fun h => by cases h) (fun h => h)
  | cons s ss ih =>
    intro f h
    show putAll (put f s mnone) ss t = _
    apply ih
    by_cases e : t = s
    · exact .inr (by rw [e, put_same])
    · rw [put_ne _ _ _ _ e]
      exact h.elim (fun h => .inl ((List.mem_cons.1 h).resolve_left e)) .inr
def nmsA (i : Nat) : List ByteArray := (List.range i).map nm
def nmsB (i : Nat) : List ByteArray := (List.range i).map fun j => nm (13 + j)
theorem nmsA_succ (i : Nat) : nmsA (i + 1) = nmsA i ++ [nm i] := by simp [nmsA, List.range_succ]
theorem nmsB_succ (i : Nat) : nmsB (i + 1) = nmsB i ++ [nm (13 + i)] := by simp [nmsB, List.range_succ]
theorem nmsA_len (i : Nat) : (nmsA i).length = i := by simp [nmsA]
theorem nmsB_len (i : Nat) : (nmsB i).length = i := by simp [nmsB]
theorem mem_A {i k : Nat} (hi : i < 26) (hk : k ≤ 26) : nm i ∈ nmsA k ↔ i < k := by
  simp only [nmsA, List.mem_map, List.mem_range]
  exact ⟨fun ⟨j, hj, e⟩ => by have := nm_inj (by omega) hi e; omega, fun h => ⟨i, h, rfl⟩⟩
theorem mem_B {i j : Nat} (hi : i < 26) (hj : j ≤ 13) : nm i ∈ nmsB j ↔ 13 ≤ i ∧ i < 13 + j := by
  simp only [nmsB, List.mem_map, List.mem_range]
  exact ⟨fun ⟨q, hq, e⟩ => by have := nm_inj (by omega) hi e; omega, fun h => ⟨i - 13, by omega, by congr 1; omega⟩⟩
def fA (k : Nat) : ByteArray → Mng := ents 0 0 none0 (nmsA k)
def fB (k j : Nat) : ByteArray → Mng := ents 1 3 (fA k) (nmsB j)
theorem fA_free {k : Nat} (hk : k < 13) : (fA k (nm k)).kind = 0 := by
  rw [fA, ents_not _ _ _ _ _ (by rw [mem_A (by omega) (by omega)]; omega)]; rfl
theorem fA_succ (k : Nat) : fA (k + 1) = put (fA k) (nm k) (localM 0 0) := by rw [fA, nmsA_succ, ents_snoc]; rfl
theorem fB_free {k j : Nat} (hk : k ≤ 13) (hj : j < 13) : (fB k j (nm (13 + j))).kind = 0 := by
  rw [fB, ents_not _ _ _ _ _ (by rw [mem_B (by omega) (by omega)]; omega), fA, ents_not _ _ _ _ _ (by rw [mem_A (by omega) (by omega)]; omega)]; rfl
theorem fB_succ (k j : Nat) : fB k (j + 1) = put (fB k j) (nm (13 + j)) (localM 1 3) := by rw [fB, nmsB_succ, ents_snoc]; rfl
/-- What is left. -/
theorem left_is {k j i : Nat} (hk : k ≤ 12) (hj : j ≤ 12) (hi : i < 26) : putAll (fB k j) (nmsB j) (nm i) = if i < k then ⟨4, 0, 0, ⟨#[]⟩⟩ else mnone := by
  by_cases hB : nm i ∈ nmsB j
  · rw [putAll_in _ _ _ (.inl hB), if_neg]
    rw [mem_B hi (by omega)] at hB; omega
  · rw [putAll_not _ _ _ hB, fB, ents_not _ _ _ _ _ hB, fA]
    by_cases hA : i < k
    · rw [if_pos hA, ents_in _ _ _ _ _ (.inl ((mem_A hi (by omega)).2 hA))]; rfl
    · rw [if_neg hA, ents_not _ _ _ _ _ (fun h => hA ((mem_A hi (by omega)).1 h))]; rfl
theorem leave_le {X : Nat → Prop} {bs n : Nat} {f : ByteArray → Mng} {ls : List ByteArray} {w : World} (h : ScAt X bs n f ls w) (hlen : ls.length < 1000000) (mark : Nat) (hm : mark ≤ ls.length) :
    Calls Try.prog 9 #[.pointer (some ⟨bs, 0, none⟩), .int .i64 mark] w fun e w' => e = .returned (.tuple #[]) ∧ ScAt X bs n (putAll f (ls.drop mark)) (ls.take mark) w' ∧ KeepX X w w' := by
  by_cases hlt : mark < ls.length
  · exact leave_yes h hlen mark hlt
  · refine (leave_no h (mark : Int) (.inr (by omega))).mono ?_
    rintro e w' ⟨rfl, rfl⟩
    refine ⟨rfl, ?_, KeepX.refl _ _⟩
    rw [List.drop_eq_nil_iff.2 (by omega), List.take_of_length_le (by omega)]
    exact h
theorem of_nil (w : World) : Calls Try.prog 8 #[.slice none 0 0] w fun e w' => ∃ bs, e = .returned (.tuple #[.pointer (some ⟨bs, 0, none⟩), .nilIface]) ∧ ScAt (· < w.heap.size) bs 0 none0 [] w' ∧ Below w.heap.size w w' := by
  refine (of_any [] _ _ (DsAt.nil w) (by decide)).mono ?_
  rintro e w' ⟨hb, ⟨_, bs, rfl, hS⟩ | ⟨d, b, h, _⟩⟩
  · exact ⟨bs, rfl, hS, hb⟩
  · cases h
end Go.Proofs.Ytnpennclgenppaa
