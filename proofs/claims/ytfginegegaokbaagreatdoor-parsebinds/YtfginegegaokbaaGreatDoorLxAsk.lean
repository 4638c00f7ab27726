/- What the table of keys answers when it is asked: its first asking fills it, later ones do not; a word is a key just if it is one of the fifteen. Conditions: one goroutine; the table lies in memory as package lex makes it. -/
import Derived.Test.YtfginegegaokbaaGreatDoorLxKind
namespace Go.Proofs.YtfginegegaokbaaGreatDoor.Lx
open Go.ChangeShapes Go.WideShapes Go.ChangeAt Go.RowKit Go.Maps Go.WideMaps

/-- The table as package lex makes it, asked or not. -/
def Filled (w : World) (kb : Nat) : Prop :=
  ∃ mb, w.heap[kb]? = some (.cells #[.int .u32 1, .int .i32 0, .int .u32 0, .map (some mb)] 119 (0, 0)) ∧ w.ownsMap (H := Unit) Tryz.prog 9 (plainElem Tryz.prog 45) mb 15 (keyData 15)
def Table (w : World) (kb : Nat) : Prop :=
  w.heap[kb]? = some (.cells #[.int .u32 0, .int .i32 0, .int .u32 0, .map none] 119 (0, 0)) ∨ Filled w kb

set_option maxRecDepth 100000 in
set_option maxHeartbeats 1600000 in
theorem slow_any (kb : Nat) (w : World) (hk : w.heap[kb]? = some (.cells #[.int .u32 0, .int .i32 0, .int .u32 0, .map none] 119 (0, 0))) :
    Calls Tryz.prog 104 #[.pointer (some ⟨kb, 0, none⟩), .func (.func 89) #[.pointer (some ⟨kb, 0, none⟩)] #[]] w fun e w' => e = .returned (.tuple #[]) ∧ Filled w' kb ∧ w.grownBy w' (some kb) := by
  have h1 := four_cell1 hk
  have f1 := four_free hk 1
  have k1 := four_set1 hk (.int .i32 1)
  have g1 := grown_setCell w kb 1 (.int .i32 1)
  have hl := run_call_load (P := Tryz.prog) Tryz.func118 (by kernel_rfl) (by kernel_rfl) (by kernel_rfl) .u32 (by kernel_rfl) (w := w.setCell ⟨kb, 1, none⟩ (.int .i32 1)) (a := ⟨kb, 0, none⟩) (x := 0) (four_cell0 k1)
  have hnot : ∀ (x : Bool) (w : World), (Op.unary .not (.bool x)).run Tryz.prog w = .ok (.bool (!x)) w := fun _ _ => rfl
  go_enter_defers Tryz.func104, Tryz.ntmps104
  go_wp2_with (first | (go_at_call 119; refine (lock_free ⟨kb, 1, none⟩ _ h1 f1).mono ?_; rintro e w' ⟨rfl, rfl⟩) | (go_at_call 89; refine (fill_any kb _ _ _ _ _ k1).mono ?_; rintro e w2 ⟨rfl, k2, m2, g2⟩) | (go_at_call 103; go_in))
  refine leaves_cons (f := 121) (args := #[.pointer (some ⟨kb, 0, none⟩), .bool true]) (by simp) (by simp [go_sem]) ?_
  refine (store_deferred ⟨kb, 0, none⟩ (.int .u32 0) .returning _ (four_cell0 k2) (four_free k2 0)).mono ?_
  rintro e u' w'' ⟨rfl, rfl, rfl⟩
  have k3 := four_set0 (w := w2.drew) k2 (.int .u32 1)
  refine leaves_cons (f := 120) (args := #[.pointer (some ⟨kb, 1, none⟩)]) (by simp [settle]) (by simp [go_sem]) ?_
  refine (unlock_deferred ⟨kb, 1, none⟩ _ _ (four_cell1 k3) (four_free k3 1)).mono ?_
  rintro e u' w'' ⟨rfl, rfl, rfl⟩
  have k4 := four_set1 k3 (.int .i32 0)
  have hne : (w.setCell ⟨kb, 1, none⟩ (.int .i32 1)).heap.size ≠ kb := by
    have := lt_of_block k1
    omega
  have m4 := ((m2.drew).setCell (a := ⟨kb, 0, none⟩) hne (.int .u32 1)).setCell (a := ⟨kb, 1, none⟩) hne (.int .i32 0)
  have g4 := (((g1.trans g2).trans (grown_drew (World.grownBy.refl _ _))).trans (grown_setCell w2.drew kb 0 (.int .u32 1))).trans (grown_setCell _ kb 1 (.int .i32 0))
  have fin : Filled ((w2.drew.setCell ⟨kb, 0, none⟩ (.int .u32 1)).setCell ⟨kb, 1, none⟩ (.int .i32 0)) kb := ⟨_, k4, m4⟩
  simp [Leaves, settle, results, Tryz.results104]
  exact ⟨fin, g4⟩

set_option maxRecDepth 100000 in
set_option maxHeartbeats 1600000 in
theorem do_first (kb : Nat) (w : World) (hk : w.heap[kb]? = some (.cells #[.int .u32 0, .int .i32 0, .int .u32 0, .map none] 119 (0, 0))) :
    Calls Tryz.prog 88 #[.pointer (some ⟨kb, 0, none⟩), .func (.func 89) #[.pointer (some ⟨kb, 0, none⟩)] #[]] w fun e w' => e = .returned (.tuple #[]) ∧ Filled w' kb ∧ w.grownBy w' (some kb) := by
  have hl := run_call_load (P := Tryz.prog) Tryz.func118 (by kernel_rfl) (by kernel_rfl) (by kernel_rfl) .u32 (by kernel_rfl) (four_cell0 hk)
  have hnot : ∀ (x : Bool) (w : World), (Op.unary .not (.bool x)).run Tryz.prog w = .ok (.bool (!x)) w := fun _ _ => rfl
  go_enter Tryz.func88, Tryz.ntmps88
  go_wp2_with (first | (go_at_call 104; refine (slow_any kb _ hk).mono ?_; rintro e w' ⟨rfl, h1, h2⟩) | (go_at_call 103; go_in))
  go_end0
  exact ⟨rfl, h1, h2⟩
set_option maxRecDepth 100000 in
theorem do_done (kb : Nat) (fv : Value) (w : World) (hk : Filled w kb) :
    Calls Tryz.prog 88 #[.pointer (some ⟨kb, 0, none⟩), fv] w fun e w' => e = .returned (.tuple #[]) ∧ Filled w' kb ∧ w.grownBy w' (some kb) := by
  have hk0 := hk
  obtain ⟨mb, hk1, _⟩ := hk
  have hl := run_call_load (P := Tryz.prog) Tryz.func118 (by kernel_rfl) (by kernel_rfl) (by kernel_rfl) .u32 (by kernel_rfl) (four_cell0 hk1)
  have hnot : ∀ (x : Bool) (w : World), (Op.unary .not (.bool x)).run Tryz.prog w = .ok (.bool (!x)) w := fun _ _ => rfl
  clear hk1
  go_enter Tryz.func88, Tryz.ntmps88
  go_wp2
  go_end0
  exact ⟨rfl, hk0, World.grownBy.refl _ _⟩
theorem do_any (kb : Nat) (w : World) (hk : Table w kb) :
    Calls Tryz.prog 88 #[.pointer (some ⟨kb, 0, none⟩), .func (.func 89) #[.pointer (some ⟨kb, 0, none⟩)] #[]] w fun e w' => e = .returned (.tuple #[]) ∧ Filled w' kb ∧ w.grownBy w' (some kb) := by
  rcases hk with h | h
  · exact do_first kb w h
  · exact do_done kb _ w h

/-- Which kind a word is of. -/
def kindOf (t : List UInt8) : Int := if keyB t then 2 else 1
set_option maxRecDepth 100000 in
set_option maxHeartbeats 1600000 in
/-- The table is asked. -/
theorem kind_any (kb : Nat) (t : ByteArray) (w : World) (ht : t.size ≤ maxLen) (hk : Table w kb) :
    Calls Tryz.prog 64 #[.pointer (some ⟨kb, 0, none⟩), .string t] w fun e w' => e = .returned (.int .i64 (kindOf (bys t))) ∧ Table w' kb ∧ w.grownBy w' (some kb) := by
  have hmf : ∀ (fn : Fn) (first cap : Array Value) (w : World), (Instr.makeFunc fn first cap).run Tryz.prog w = .ok (.func fn first cap) w := fun _ _ _ _ => rfl
  have hkey : keyOf Tryz.prog 9 (.string t) = some (.string (bys t)) := keyOf_string_mk Tryz.underlying9 ht
  have hkh := keyData_has (bys t)
  cases hkb : keyB (bys t)
  all_goals (
    rw [hkb] at hkh
    go_enter Tryz.func64, Tryz.ntmps64
    go_wp2_with (first | (go_at_call 88; refine (do_any kb _ hk).mono ?_; rintro e w' ⟨rfl, h1, h2⟩; have h1' := h1; obtain ⟨mb, q1, q2⟩ := h1; have c3 := four_cell3 q1) | (at_lookup; refine wpList_lookup_own_ok_int _ rfl _ _ 117 rfl 9 45 .i64 keyLaw Tryz.underlying117 Tryz.underlying45 (zero29 _) mb 15 (keyData 15) rfl q2 _ _ rfl hkey ?_; intro c hat hwc))
    go_ret)
  · exact ⟨ret_int (by simp [kindOf, hkb]), Or.inr h1', h2⟩
  · refine ⟨ret_int ?_, Or.inr h1', h2⟩
    rw [keyData_at _ hkb] at hat
    simp at hat
    simp [kindOf, hkb, ← hat]
end Go.Proofs.YtfginegegaokbaaGreatDoor.Lx
