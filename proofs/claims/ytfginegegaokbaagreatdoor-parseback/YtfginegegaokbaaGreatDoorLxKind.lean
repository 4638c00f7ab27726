/- What the table of keys answers when it is asked: its first asking fills it, later ones do not; a word is a key just if it is one of the fifteen. Conditions: one goroutine; the table lies in memory as package lex makes it. -/
import Derived.Test.YtfginegegaokbaaGreatDoorLxOnce
import Derived.Maps.Range
import Derived.Maps.AppendAt
namespace Go.Proofs.YtfginegegaokbaaGreatDoor.Lx
open Go.ChangeShapes Go.WideShapes Go.ChangeAt Go.RowKit Go.Maps Go.WideMaps

/-! what lies in a block of four cells -/
section
variable {w : World} {b : Nat} {x0 x1 x2 x3 : Value} {t : TypeId}
theorem four_cell0 (h : w.heap[b]? = some (.cells #[x0, x1, x2, x3] t (0, 0))) : w.cell? ⟨b, 0, none⟩ = some x0 := by simp [World.cell?, h]
theorem four_cell1 (h : w.heap[b]? = some (.cells #[x0, x1, x2, x3] t (0, 0))) : w.cell? ⟨b, 1, none⟩ = some x1 := by simp [World.cell?, h]
theorem four_cell3 (h : w.heap[b]? = some (.cells #[x0, x1, x2, x3] t (0, 0))) : w.cell? ⟨b, 3, none⟩ = some x3 := by simp [World.cell?, h]
theorem four_free (h : w.heap[b]? = some (.cells #[x0, x1, x2, x3] t (0, 0))) (j : Nat) : w.frozen? ⟨b, j, none⟩ = false := by simp [World.frozen?, h]
theorem four_set0 (h : w.heap[b]? = some (.cells #[x0, x1, x2, x3] t (0, 0))) (u : Value) : (w.setCell ⟨b, 0, none⟩ u).heap[b]? = some (.cells #[u, x1, x2, x3] t (0, 0)) := by
  have hlt := lt_of_block h
  have h' : w.heap[b] = .cells #[x0, x1, x2, x3] t (0, 0) := by simpa [Array.getElem?_eq_getElem hlt] using h
  show (w.heap.modify b _)[b]? = _
  rw [Array.getElem?_eq_getElem (by simpa using hlt), Array.getElem_modify_self, h']
  rfl
theorem four_set1 (h : w.heap[b]? = some (.cells #[x0, x1, x2, x3] t (0, 0))) (u : Value) : (w.setCell ⟨b, 1, none⟩ u).heap[b]? = some (.cells #[x0, u, x2, x3] t (0, 0)) := by
  have hlt := lt_of_block h
  have h' : w.heap[b] = .cells #[x0, x1, x2, x3] t (0, 0) := by simpa [Array.getElem?_eq_getElem hlt] using h
  show (w.heap.modify b _)[b]? = _
  rw [Array.getElem?_eq_getElem (by simpa using hlt), Array.getElem_modify_self, h']
  rfl
theorem four_set3 (h : w.heap[b]? = some (.cells #[x0, x1, x2, x3] t (0, 0))) (u : Value) : (w.setCell ⟨b, 3, none⟩ u).heap[b]? = some (.cells #[x0, x1, x2, u] t (0, 0)) := by
  have hlt := lt_of_block h
  have h' : w.heap[b] = .cells #[x0, x1, x2, x3] t (0, 0) := by simpa [Array.getElem?_eq_getElem hlt] using h
  show (w.heap.modify b _)[b]? = _
  rw [Array.getElem?_eq_getElem (by simpa using hlt), Array.getElem_modify_self, h']
  rfl
end
theorem grown_setCell (w : World) (b j : Nat) (u : Value) : w.grownBy (w.setCell ⟨b, j, none⟩ u) (some b) :=
  ⟨rfl, rfl, rfl, by simp [World.setCell], fun k _ hne => Below.heap_setCell _ _ _ _ (fun e => hne (by rw [e]))⟩
theorem grown_drew {a w : World} {row : Option Nat} (h : a.grownBy w row) : a.grownBy w.drew row := ⟨h.os, h.tape, h.output, h.size, h.block⟩

/-! the table as data -/
def keyLits (n : Nat) : List Lit := (keyWords.take n).map Lit.string
def keyData (n : Nat) : DataW Unit := setOf (.lit (.int .i64 2)) (keyLits n)
theorem keyLits_key (n : Nat) : ∀ x ∈ keyLits n, WideAt.IsKeyLit x := by
  intro x hx
  obtain ⟨l, _, rfl⟩ := List.mem_map.1 hx
  trivial
theorem atKey_fold (u z : DataW Unit) (k : Lit) : ∀ (acc : List Lit) (m : DataW Unit), IsMap m → (∀ x ∈ acc, WideAt.IsKeyLit x) →
    (acc.foldl (fun m x => m.put x u) m).atKey k z = if acc.any (fun x => x.sameKey k) then u else m.atKey k z
  | [], m, _, _ => by simp
  | x :: r, m, hm, h => by
    rw [List.foldl_cons, atKey_fold u z k r (m.put x u) (hm.put x u) (fun y hy => h y (by simp [hy])), List.any_cons]
    by_cases e : k = x
    · subst e
      rw [atKey_put_same hm (h k (by simp)), WideAt.sameKey_self (h k (by simp))]
      simp
    · rw [atKey_put_other e, sameKey_ne (fun e' => e e'.symm)]
      simp
theorem any_keys (t : List UInt8) : ∀ l : List (List UInt8), (l.map Lit.string).any (fun x => x.sameKey (.string t)) = l.contains t
  | [] => rfl
  | a :: l => by
    rw [List.map_cons, List.any_cons, any_keys t l, List.contains_cons]
    congr 1
    by_cases e : a = t
    · subst e; rw [WideAt.sameKey_self (a := .string a) trivial]; simp
    · rw [sameKey_ne (by simpa using e)]
      exact (beq_eq_false_iff_ne.2 (fun h => e h.symm)).symm
theorem keyData_has (t : List UInt8) : Maps.has (keyData 15) (.string t) = keyB t := by
  rw [keyData, has_setOf _ _ _ (keyLits_key 15)]
  exact any_keys t keyWords
theorem keyData_at (t : List UInt8) (h : keyB t = true) (z : DataW Unit) : (keyData 15).atKey (.string t) z = .lit (.int .i64 2) := by
  rw [keyData, setOf, atKey_fold _ _ _ _ _ isMap_empty (keyLits_key 15)]
  rw [show (keyLits 15).any (fun x => x.sameKey (.string t)) = keyB t from any_keys t keyWords, h]
  rfl
theorem keyData_step (k : Nat) (h : k < 15) : keyData (k + 1) = (keyData k).put (.string (keyWords.getD k [])) (.lit (.int .i64 2)) := by
  have h' : k < keyWords.length := h
  have e : keyLits (k + 1) = keyLits k ++ [.string (keyWords.getD k [])] := by
    unfold keyLits
    rw [List.take_succ_eq_append_getElem h', List.map_append]
    simp [List.getD, h']
  rw [keyData, e, setOf_snoc]; rfl

/-- The cells of the list of keys. -/
def keyCells : Array Value := (keyWords.map fun l => Value.string (bstr l)).toArray
theorem keyCells_is : keyCells = #[.string ⟨#[112, 117, 98, 108, 105, 99]⟩, .string ⟨#[115, 101, 99, 114, 101, 116]⟩, .string ⟨#[108, 111, 99, 107]⟩, .string ⟨#[98, 121]⟩, .string ⟨#[116, 104, 114, 101, 97, 100]⟩, .string ⟨#[105, 102]⟩, .string ⟨#[101, 108, 115, 101]⟩, .string ⟨#[108, 111, 111, 112]⟩, .string ⟨#[116, 97, 107, 101]⟩, .string ⟨#[103, 105, 118, 101]⟩, .string ⟨#[97, 100, 100]⟩, .string ⟨#[102, 101, 110, 99, 101]⟩, .string ⟨#[111, 117, 116, 112, 117, 116]⟩, .string ⟨#[108, 111, 99, 97, 108]⟩, .string ⟨#[112, 105, 99, 107]⟩] := rfl
theorem keyCells_at {w : World} {b : Nat} (h : w.heap[b]? = some (.cells keyCells 9 (0, 0))) (k : Nat) (hk : k < 15) : w.cell? ⟨b, k, none⟩ = some (.string (bstr (keyWords.getD k []))) := by
  have hs : k < keyCells.size := hk
  have e : keyCells[k]? = some (.string (bstr (keyWords.getD k []))) := by
    have h' : k < keyWords.length := hk
    simp [keyCells, List.getD, h']
  simp [World.cell?, h, e]
theorem keys_any (w : World) : Calls Tryz.prog 105 #[] w fun e w' => e = .returned (.slice (some ⟨w.heap.size, 0, none⟩) 15 15) ∧ w' = w.alloc (.cells keyCells 9) := by
  rw [keyCells_is]
  go_enter Tryz.func105, Tryz.ntmps105
  go_wp2
  go_ret
  exact ⟨rfl, rfl⟩
theorem keyLaw : Keyed Tryz.prog 9 := string_keyed Tryz.underlying9
theorem zero29 (w : World) : (zeroValue 45).run Tryz.prog w = .ok (.int .i64 0) w := by kernel_rfl
theorem keyWord_len (k : Nat) (hk : k < 15) : (bstr (keyWords.getD k [])).size ≤ maxLen := by
  rw [bstr_size]
  have : ∀ i : Fin 15, (keyWords.getD i.val []).length ≤ 6 := by decide
  have := this ⟨k, hk⟩
  unfold maxLen
  simp only at this
  omega

set_option maxRecDepth 100000 in
set_option maxHeartbeats 1000000 in
/-- The table is filled. -/
theorem fill_any (kb : Nat) (x0 x1 x2 x3 : Value) (w : World) (hk : w.heap[kb]? = some (.cells #[x0, x1, x2, x3] 119 (0, 0))) :
    Calls Tryz.prog 89 #[.pointer (some ⟨kb, 0, none⟩)] w fun e w' => e = .returned (.tuple #[]) ∧
      w'.heap[kb]? = some (.cells #[x0, x1, x2, .map (some w.heap.size)] 119 (0, 0)) ∧ w'.ownsMap (H := Unit) Tryz.prog 9 (plainElem Tryz.prog 45) w.heap.size 15 (keyData 15) ∧ w.grownBy w' (some kb) := by
  have hlt := lt_of_block hk
  have hc3 := four_cell3 hk
  have hf3 := four_free hk 3
  have hmm := @run_makeMap Tryz.prog
  obtain ⟨W1, hW1⟩ : ∃ W1, W1 = (((w.setCell ⟨kb, 3, none⟩ (.map (some w.heap.size))).alloc (.map #[] 0)).alloc (.cells keyCells 9)) := ⟨_, rfl⟩
  have s1 : (w.setCell ⟨kb, 3, none⟩ (.map (some w.heap.size))).heap.size = w.heap.size := by simp [World.setCell]
  have r1 : W1.heap[kb]? = some (.cells #[x0, x1, x2, .map (some w.heap.size)] 119 (0, 0)) := by
    rw [hW1, Below.heap_alloc _ _ _ (by simp; omega), Below.heap_alloc _ _ _ (by rw [s1]; exact hlt)]
    exact four_set3 hk _
  have r2 : W1.heap[w.heap.size + 1]? = some (.cells keyCells 9 (0, 0)) := by
    rw [hW1]
    have := heap_alloc_new ((w.setCell ⟨kb, 3, none⟩ (.map (some w.heap.size))).alloc (.map #[] 0)) (.cells keyCells 9)
    simpa [s1] using this
  have r3 : W1.ownsMap (H := Unit) Tryz.prog 9 (plainElem Tryz.prog 45) w.heap.size 0 (keyData 0) := by
    rw [hW1]
    have := World.ownsMap_made (H := Unit) (w.setCell ⟨kb, 3, none⟩ (.map (some w.heap.size))) Tryz.prog 9 (plainElem Tryz.prog 45)
    rw [s1] at this
    exact this.alloc _
  have r4 : w.grownBy W1 (some kb) := by
    rw [hW1]
    exact ((grown_setCell w kb 3 _).trans (World.grownBy_alloc _ _ _)).trans (World.grownBy_alloc _ _ _)
  go_enter Tryz.func89, Tryz.ntmps89
  go_wp2_with (go_at_call 105; refine (keys_any _).mono ?_; rintro e w' ⟨rfl, rfl⟩)
  rw [← hW1]
  clear hW1 s1
  go_loopw [10] (fun i wr => ∃ k : Nat, k ≤ 15 ∧ i = .int .i64 k ∧ wr.heap[kb]? = some (.cells #[x0, x1, x2, .map (some w.heap.size)] 119 (0, 0)) ∧ wr.heap[w.heap.size + 1]? = some (.cells keyCells 9 (0, 0)) ∧ wr.ownsMap (H := Unit) Tryz.prog 9 (plainElem Tryz.prog 45) w.heap.size k (keyData k) ∧ w.grownBy wr (some kb))
    (fun i _ => 15 - (intOf i).toNat)
  case atStart => exact ⟨0, by omega, rfl, r1, r2, r3, r4⟩
  case round =>
    obtain ⟨k, hk15, rfl, q1, q2, q3, q4⟩ := hrel
    clear r1 r2 r3 r4 hc3 hf3
    by_cases hkl : k < 15
    · have c1 := keyCells_at q2 k hkl
      have c2 := four_cell3 q1
      obtain ⟨s, hs⟩ : ∃ s, s = bstr (keyWords.getD k []) := ⟨_, rfl⟩
      have hkey : keyOf Tryz.prog 9 (.string s) = some (.string (keyWords.getD k [])) := by
        rw [hs, keyOf_string_mk Tryz.underlying9 (keyWord_len k hkl)]; exact congrArg _ (congrArg _ (bys_bstr _))
      rw [← hs] at c1
      clear hs
      go_wp2_with (at_mapUpdate; refine wpList_mapUpdate_own _ rfl _ _ _ 117 rfl 9 45 keyLaw Tryz.underlying117 _ w.heap.size k _ rfl q3 (by unfold maxLen; omega) _ _ _ rfl rfl hkey _ [] (plainElem_int Tryz.underlying45 (by decide)) ?_; intro w1 hown1 hgrow1)
      have R1 : w1.ownsMap (H := Unit) Tryz.prog 9 (plainElem Tryz.prog 45) w.heap.size (k + 1) (keyData (k + 1)) := by rw [keyData_step k hkl]; exact hown1
      have R2 : w.grownBy w1 (some kb) := q4.andThen hgrow1 (fun j hj => by cases hj; exact Or.inl (Nat.le_refl _))
      have R3 : w1.heap[kb]? = some (.cells #[x0, x1, x2, .map (some w.heap.size)] 119 (0, 0)) := by rw [hgrow1.block kb (lt_of_block q1) (by simp; omega)]; exact q1
      have R4 : w1.heap[w.heap.size + 1]? = some (.cells keyCells 9 (0, 0)) := by rw [hgrow1.block _ (lt_of_block q2) (by simp)]; exact q2
      clear hown1 hgrow1 q1 q2 q3 q4 c1 c2
      go_wp2
      go_roundw
      case rel => exact ⟨k + 1, by omega, by go_num, R3, R4, R1, R2⟩
      case measure => simp [intOf]; omega
    · obtain rfl : k = 15 := by omega
      go_wp2
      go_end0
      exact ⟨rfl, q1, q3, q4⟩

end Go.Proofs.YtfginegegaokbaaGreatDoor.Lx
