/- What stmtKind answers, and what the reader's simple does. Conditions: as in PRead. -/
import Derived.Test.YtfginegegaokbaaGreatDoorPValue
namespace Go.Proofs.YtfginegegaokbaaGreatDoor.Pr
open Go.ChangeShapes Go.WideShapes Go.ChangeAt Go.RowKit
open Lx (Tok)
set_option linter.unusedVariables false
set_option linter.unusedSimpArgs false

theorem notRdS : ¬ rdType 60 := by unfold rdType; decide
theorem StV.on {B br sb : Nat} {w0 w w' : World} {s : Stm} {rr rr' : Rd} (h : StV B br w0 sb s rr w) (h' : RdAt B br rr' w') (hg : w.grownBy w' (some br)) : StV B br w0 sb s rr' w' := by
  obtain ⟨h1, h2, eao, ecap, h3, h4⟩ := h
  exact ⟨h', grownBy_trans h2 hg, eao, ecap, h1.heap hg h3 (by decide), h4.same hg.size fun k cs fr hk => h1.heap hg hk (by decide)⟩
theorem StV.alloc {B br sb : Nat} {w0 w : World} {s : Stm} {rr : Rd} (h : StV B br w0 sb s rr w) (o : Obj) : StV B br w0 sb s rr (w.alloc o) := h.on (h.1.alloc o) (World.grownBy_alloc _ _ _)
theorem StV.cells {B br sb : Nat} {w0 w : World} {s : Stm} {rr : Rd} (h : StV B br w0 sb s rr w) : w.cell? ⟨sb, 0, none⟩ = some (.int .i64 s.kind) ∧ w.cell? ⟨sb, 1, none⟩ = some (.string s.name) ∧ w.frozen? ⟨sb, 0, none⟩ = false ∧ w.frozen? ⟨sb, 1, none⟩ = false ∧ sb < w.heap.size := by
  obtain ⟨h1, h2, eao, ecap, h3, h4⟩ := h
  obtain ⟨c0, c1, c2, c3, c4, c5, c6⟩ := stmt_cells h3
  exact ⟨c0, c1, Lib.frozen_of_heap h3 0, Lib.frozen_of_heap h3 1, heap_lt h3⟩
theorem StV.set {B br sb : Nat} {w0 w : World} {s : Stm} {rr : Rd} (h : StV B br w0 sb s rr w) (hsb : w0.heap.size ≤ sb) (j : Nat) (u : Value) {cs : Array Value} (s' : Stm) (hs' : s'.exprs = s.exprs) (hc : ∀ eao ecap, (#[.int .i64 s.kind, .string s.name, .slice eao s.exprs.length ecap, .int .i64 s.count, .slice none 0 0, .slice none 0 0, .int .i64 s.at_] : Array Value).setIfInBounds j u = #[.int .i64 s'.kind, .string s'.name, .slice eao s'.exprs.length ecap, .int .i64 s'.count, .slice none 0 0, .slice none 0 0, .int .i64 s'.at_]) : StV B br w0 sb s' rr (w.setCell ⟨sb, j, none⟩ u) := by
  obtain ⟨h1, h2, eao, ecap, h3, h4⟩ := h
  have ht6 : TSame 57 w (w.setCell ⟨sb, j, none⟩ u) := TSame.of_set h3 (by decide) _ _
  refine ⟨h1.set h3 notRdS _ _, grown_set h2 hsb _ _, eao, ecap, ?_, ?_⟩
  · rw [← hc]; exact set_heap h3 j u
  · rw [hs']; exact h4.same (by simp [World.setCell]) ht6
theorem StV.size {B br sb : Nat} {w0 w : World} {s : Stm} {rr : Rd} (h : StV B br w0 sb s rr w) : w0.heap.size ≤ w.heap.size := h.2.1.size
theorem kindP_some (t : Tok) : kindP t = if t.kind = 1 then some 1 else if t.text = kLocal then some 0 else if t.text = kIf then some 3 else if t.text = kLoop then some 4 else if t.text = kTake then some 5
  else if t.text = kGive then some 6 else if t.text = kAdd then some 7 else if t.text = kFence then some 8 else if t.text = kOutput then some 9 else none := rfl
set_option maxHeartbeats 4000000 in
set_option maxRecDepth 100000 in
/-- stmtKind -/
theorem stmtKind_any (t : Tok) (w : World) :
    Calls Tryz.prog 97 #[.agg #[.int .i64 (t.kind : Int), .string (bstr t.text), .int .u64 (t.value : Int), .int .i64 (t.at_ : Int)]] w fun e w' => e = .returned (.tuple #[.int .i64 ((kindP t).getD 0), .bool (kindP t).isSome]) ∧ Below w.heap.size w w' := by
  rw [kindP_some]
  by_cases hk : t.kind = 1
  · rw [if_pos hk]
    have k1 : 1 ≤ ((t.kind : Nat) : Int) := by omega
    have k2 : ((t.kind : Nat) : Int) ≤ 1 := by omega
    clear hk
    go_enter Tryz.func97, Tryz.ntmps97
    go_wp2
    go_ret2
    exact ⟨rfl, (Below.refl _ _).alloc (Nat.le_refl _) _⟩
  rw [if_neg hk]
  have k1 : ¬ ((t.kind : Nat) : Int) = 1 := by omega
  clear hk
  by_cases h0 : t.text = kLocal
  · rw [if_pos h0]
    have x0 : ((bstr t.text).toList == [108, 111, 99, 97, 108]) = true := eq_text h0
    clear h0
    go_enter Tryz.func97, Tryz.ntmps97
    go_wp2
    go_ret2
    exact ⟨rfl, (Below.refl _ _).alloc (Nat.le_refl _) _⟩
  rw [if_neg h0]
  have x0 : ((bstr t.text).toList == [108, 111, 99, 97, 108]) = false := ne_text h0
  clear h0
  by_cases h1 : t.text = kIf
  · rw [if_pos h1]
    have x1 : ((bstr t.text).toList == [105, 102]) = true := eq_text h1
    clear h1
    go_enter Tryz.func97, Tryz.ntmps97
    go_wp2
    go_ret2
    exact ⟨rfl, (Below.refl _ _).alloc (Nat.le_refl _) _⟩
  rw [if_neg h1]
  have x1 : ((bstr t.text).toList == [105, 102]) = false := ne_text h1
  clear h1
  by_cases h2 : t.text = kLoop
  · rw [if_pos h2]
    have x2 : ((bstr t.text).toList == [108, 111, 111, 112]) = true := eq_text h2
    clear h2
    go_enter Tryz.func97, Tryz.ntmps97
    go_wp2
    go_ret2
    exact ⟨rfl, (Below.refl _ _).alloc (Nat.le_refl _) _⟩
  rw [if_neg h2]
  have x2 : ((bstr t.text).toList == [108, 111, 111, 112]) = false := ne_text h2
  clear h2
  by_cases h3 : t.text = kTake
  · rw [if_pos h3]
    have x3 : ((bstr t.text).toList == [116, 97, 107, 101]) = true := eq_text h3
    clear h3
    go_enter Tryz.func97, Tryz.ntmps97
    go_wp2
    go_ret2
    exact ⟨rfl, (Below.refl _ _).alloc (Nat.le_refl _) _⟩
  rw [if_neg h3]
  have x3 : ((bstr t.text).toList == [116, 97, 107, 101]) = false := ne_text h3
  clear h3
  by_cases h4 : t.text = kGive
  · rw [if_pos h4]
    have x4 : ((bstr t.text).toList == [103, 105, 118, 101]) = true := eq_text h4
    clear h4
    go_enter Tryz.func97, Tryz.ntmps97
    go_wp2
    go_ret2
    exact ⟨rfl, (Below.refl _ _).alloc (Nat.le_refl _) _⟩
  rw [if_neg h4]
  have x4 : ((bstr t.text).toList == [103, 105, 118, 101]) = false := ne_text h4
  clear h4
  by_cases h5 : t.text = kAdd
  · rw [if_pos h5]
    have x5 : ((bstr t.text).toList == [97, 100, 100]) = true := eq_text h5
    clear h5
    go_enter Tryz.func97, Tryz.ntmps97
    go_wp2
    go_ret2
    exact ⟨rfl, (Below.refl _ _).alloc (Nat.le_refl _) _⟩
  rw [if_neg h5]
  have x5 : ((bstr t.text).toList == [97, 100, 100]) = false := ne_text h5
  clear h5
  by_cases h6 : t.text = kFence
  · rw [if_pos h6]
    have x6 : ((bstr t.text).toList == [102, 101, 110, 99, 101]) = true := eq_text h6
    clear h6
    go_enter Tryz.func97, Tryz.ntmps97
    go_wp2
    go_ret2
    exact ⟨rfl, (Below.refl _ _).alloc (Nat.le_refl _) _⟩
  rw [if_neg h6]
  have x6 : ((bstr t.text).toList == [102, 101, 110, 99, 101]) = false := ne_text h6
  clear h6
  by_cases h7 : t.text = kOutput
  · rw [if_pos h7]
    have x7 : ((bstr t.text).toList == [111, 117, 116, 112, 117, 116]) = true := eq_text h7
    clear h7
    go_enter Tryz.func97, Tryz.ntmps97
    go_wp2
    go_ret2
    exact ⟨rfl, (Below.refl _ _).alloc (Nat.le_refl _) _⟩
  rw [if_neg h7]
  have x7 : ((bstr t.text).toList == [111, 117, 116, 112, 117, 116]) = false := ne_text h7
  clear h7
  go_enter Tryz.func97, Tryz.ntmps97
  go_wp2
  go_ret2
  exact ⟨rfl, (Below.refl _ _).alloc (Nat.le_refl _) _⟩
theorem StV.name {B br sb : Nat} {w0 w : World} {s : Stm} {rr : Rd} (h : StV B br w0 sb s rr w) (hsb : w0.heap.size ≤ sb) (x : ByteArray) : StV B br w0 sb { s with name := x } rr (w.setCell ⟨sb, 1, none⟩ (.string x)) := h.set hsb 1 _ (cs := #[]) _ rfl fun _ _ => rfl
theorem StV.kind {B br sb : Nat} {w0 w : World} {s : Stm} {rr : Rd} (h : StV B br w0 sb s rr w) (hsb : w0.heap.size ≤ sb) (x : Int) : StV B br w0 sb { s with kind := x } rr (w.setCell ⟨sb, 0, none⟩ (.int .i64 x)) := h.set hsb 0 _ (cs := #[]) _ rfl fun _ _ => rfl
end Go.Proofs.YtfginegegaokbaaGreatDoor.Pr
