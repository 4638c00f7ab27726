/- What name, value and counts of package code answer, and word.Signs. Conditions: the table of powers holds what its initialiser lays. -/
import Derived.Test.YtjiecfagblijhaaDoorCdStr
import Derived.Test.YtjiecfagblijhaaDoorCdNum
namespace Go.Proofs.YtjiecfagblijhaaDoor.Cd
open Go.ChangeShapes Go.WideShapes Go.ChangeAt Go.RowKit
set_option linter.unusedVariables false
set_option linter.unusedSimpArgs false

theorem cons_str (c : UInt8) (l : List UInt8) : (⟨#[c]⟩ : ByteArray) ++ bstr l = bstr (c :: l) := bys_inj (by simp [bys, bstr])
theorem ret_str {a b : ByteArray} (h : a = b) : Ending.returned (.string a) = .returned (.string b) := by rw [h]

set_option maxHeartbeats 2000000 in
set_option maxRecDepth 100000 in
theorem name_any (op : Int) (w : World) : Calls Tryd.prog 25 #[.int .i64 op] w fun e w' => e = .returned (.string (bstr (nameL op))) ∧ Below w.heap.size w w' := by
  have hb1 := fun o => (Below.refl w.heap.size w).alloc (Nat.le_refl _) o
  rcases kinds op with rfl | rfl | rfl | rfl | rfl | rfl | rfl | rfl | rfl | rfl | rfl | rfl | rfl | rfl | h
  case inr.inr.inr.inr.inr.inr.inr.inr.inr.inr.inr.inr.inr.inr =>
    have e : nameL op = [] := by simp [nameL, h]
    rw [e]
    have e2 : op < 0 ∨ (¬ op < 0 ∧ 13 < op) := by omega
    clear h e
    rcases e2 with e2 | ⟨e2, e3⟩
    · go_enter Tryd.func25, Tryd.ntmps25
      go_wp2
      go_ret
      exact ⟨rfl, hb1 _⟩
    · go_enter Tryd.func25, Tryd.ntmps25
      go_wp2
      go_ret
      exact ⟨rfl, hb1 _⟩
  all_goals
    go_enter Tryd.func25, Tryd.ntmps25
    go_wp2
    go_ret
    exact ⟨rfl, hb1 _⟩

set_option maxHeartbeats 2000000 in
set_option maxRecDepth 100000 in
theorem value_any (u : Int) (h0 : -9223372036854775808 ≤ u) (h1 : u ≤ 9223372036854775807) (B : Nat) (w : World) (hV : Vars B w) : Calls Tryd.prog 26 #[.int .i64 u] w fun e w' => e = .returned (.string (bstr (vtext u))) ∧ Below w.heap.size w w' := by
  have hz : (bstr (Lib.itoa u)).size ≤ 21 := by rw [bstr_size]; exact Lib.itoa_length_le u h0 h1
  go_enter Tryd.func26, Tryd.ntmps26
  go_wp2_with (go_at_call 30; refine (itoa_any u h0 h1 B _ hV).mono ?_; rintro ed w2 ⟨rfl, hb2⟩)
  go_ret
  exact ⟨ret_str (cons_str _ _), hb2⟩

set_option maxHeartbeats 2000000 in
set_option maxRecDepth 100000 in
theorem counts_any (op : Int) (w : World) : Calls Tryd.prog 28 #[.int .i64 op] w fun e w' => e = .returned (.bool (countsB op)) ∧ w' = w := by
  rcases (show op = 0 ∨ op = 4 ∨ op = 5 ∨ op = 8 ∨ op = 9 ∨ op = 10 ∨ (op ≠ 0 ∧ op ≠ 4 ∧ op ≠ 5 ∧ op ≠ 8 ∧ op ≠ 9 ∧ op ≠ 10) by omega) with rfl | rfl | rfl | rfl | rfl | rfl | ⟨e0, e1, e2, e3, e4, e5⟩
  case inr.inr.inr.inr.inr.inr =>
    have e : countsB op = false := by simp [countsB, *]
    rw [e]
    go_enter Tryd.func28, Tryd.ntmps28
    go_wp2
    go_ret
    exact ⟨rfl, rfl⟩
  all_goals
    go_enter Tryd.func28, Tryd.ntmps28
    go_wp2
    go_ret
    exact ⟨rfl, rfl⟩

/-- The signs lie in a row of ten. -/
def SignsAt (w : World) (g : Nat) : Prop := ∃ cs fr, w.heap[g]? = some (.cells cs 9 fr) ∧ ∀ n, n ≤ 9 → cs[n]? = some (.string (bstr (signL n)))
theorem SignsAt.cell {w : World} {g n : Nat} (h : SignsAt w g) (hn : n ≤ 9) : w.cell? ⟨g, n, none⟩ = some (.string (bstr (signL n))) := by
  obtain ⟨cs, fr, h1, h2⟩ := h
  rw [Lib.cell_of_heap h1]
  exact h2 n hn
theorem SignsAt.on {w w' : World} {g : Nat} (h : SignsAt w g) (hb : Below w.heap.size w w') : SignsAt w' g := by
  obtain ⟨cs, fr, h1, h2⟩ := h
  exact ⟨cs, fr, (hb.block g (heap_lt h1)).trans h1, h2⟩
set_option maxHeartbeats 2000000 in
set_option maxRecDepth 100000 in
theorem signs_any (w : World) : Calls Tryd.prog 20 #[] w fun e w' => ∃ g, e = .returned (.slice (some ⟨g, 0, none⟩) 10 10) ∧ SignsAt w' g ∧ Below w.heap.size w w' := by
  go_enter Tryd.func20, Tryd.ntmps20
  go_wp2
  go_ret
  refine ⟨_, rfl, ⟨_, _, by rw [alloc_at, if_pos rfl], fun n hn => ?_⟩, (Below.refl _ _).alloc (Nat.le_refl _) _⟩
  rcases (show n = 0 ∨ n = 1 ∨ n = 2 ∨ n = 3 ∨ n = 4 ∨ n = 5 ∨ n = 6 ∨ n = 7 ∨ n = 8 ∨ n = 9 by omega) with rfl | rfl | rfl | rfl | rfl | rfl | rfl | rfl | rfl | rfl <;> rfl
end Go.Proofs.YtjiecfagblijhaaDoor.Cd
