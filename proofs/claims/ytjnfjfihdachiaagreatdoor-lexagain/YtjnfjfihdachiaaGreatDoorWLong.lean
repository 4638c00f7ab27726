/- The walk of the statement LexLong. Conditions: the package variables hold what their initialisers lay. -/
import Derived.Test.YtjnfjfihdachiaaGreatDoorLexAwake
import Derived.Laws.IdiomStrings
import Derived.Laws.OwnMore
namespace Go.Proofs.YtjnfjfihdachiaaGreatDoor
open Go.ChangeShapes Go.WideShapes Go.ChangeAt Go.RowKit
set_option linter.unusedVariables false

/-- A row of as many noughts, as a string. -/
def noughts (n : Nat) : ByteArray := ⟨(List.replicate n (0 : UInt8)).toArray⟩
theorem noughts_size (n : Nat) : (noughts n).size = n := by show (List.replicate n (0 : UInt8)).toArray.size = n; simp
theorem u8_bounds {a : Int} (h : (Lit.int .u8 a).wf = true) : 0 ≤ a ∧ a ≤ 255 := by
  simp [Lit.wf] at h
  exact h
theorem made_cell (W : World) (n j : Nat) (hj : j < n) : (W.alloc (.cells (madeCells #[.int .u8 0] n) 5)).cell? ⟨W.heap.size, j, none⟩ = some (.int .u8 0) := by
  have h := heap_alloc_new W (.cells (madeCells #[.int .u8 0] n) 5)
  have e : (madeCells #[Value.int .u8 0] n)[j]? = some (.int .u8 0) := by
    rw [← Array.getElem?_toList, toList_madeCells_one, List.getElem?_replicate, if_pos hj]
  simp only [World.cell?, h]
  simp [e]

set_option maxRecDepth 100000 in
set_option maxHeartbeats 2000000 in
theorem long_walk (a0 : Int) (w : World) (w0 : (Lit.int .u8 a0).wf = true) (hV : Vars w) :
    Calls Tryz.prog 6 #[.int .u8 a0] w fun e w' => e = .returned (.bool true) ∧ Below w.heap.size w w' := by
  obtain ⟨h00, h01⟩ := u8_bounds w0
  obtain ⟨n, hn⟩ : ∃ n : Nat, (n : Int) = 65537 + a0 := ⟨(65537 + a0).toNat, by omega⟩
  obtain ⟨i0, hi, hz0, hz1, hz2⟩ := info_parts Tryz.info5
  obtain ⟨O, hO⟩ : ∃ O : Obj, O = .cells (madeCells #[.int .u8 0] n) 5 := ⟨_, rfl⟩
  have hmk : ∀ W : World, (Instr.makeSlice 41 (.int .i64 (65537 + a0)) (.int .i64 (65537 + a0))).run Tryz.prog W = .ok (.slice (some ⟨W.heap.size, 0, none⟩) n n) (W.alloc O) := fun W => by
    have h := run_make (P := Tryz.prog) W 41 5 i0 (.int .u8 0) Tryz.underlying41 hi hz0 .i64 .i64 (n : Int) (n : Int) (by omega) (by omega) (by rw [hz2]; omega) (by omega)
    rw [← hn, hO]
    simpa [hz1, Value.cells] using h
  have hcv : ∀ W : World, (convert 41 9 (.slice (some ⟨W.heap.size, 0, none⟩) n n)).run Tryz.prog (W.alloc O) = .ok (.string (noughts n)) (W.alloc O) := fun W => by
    have h := run_convert_bytes_back (P := Tryz.prog) (W.alloc O) 41 9 5 ⟨W.heap.size, 0, none⟩ n (List.replicate n (0 : UInt8)) Tryz.underlying41 Tryz.underlying5 Tryz.underlying9 (fun j hj => by
      rw [hO, Addr.add_lit, Nat.zero_add, made_cell W n j (by simpa using hj)]
      simp)
    rw [List.length_replicate] at h
    exact h
  have HN : Hid (65536 < (noughts n).size ∧ (noughts n).size ≤ maxLen) := by
    show _ ∧ _
    rw [noughts_size]; unfold maxLen; omega
  clear hO hn hi hz0 hz1 hz2
  go_enter Tryz.func6, Tryz.ntmps6
  go_wp2_with (first
    | (go_at_call 10; refine (awake_any _ hV).mono ?_; rintro e w1 ⟨rfl, hb1⟩; have hV1 := hV.grown hb1 hV.lt; have hVO := hV1.alloc O)
    | (go_at_call 11; refine (cut_long (noughts n) _ HN.out.1 HN.out.2).mono ?_; rintro e w2 ⟨⟨fb, rfl, hf0, hf1⟩, hb2⟩; have hV2 := hVO.grown hb2 hVO.lt)
    | (go_at_call 14; refine (number_any fb _ _ _ hV2.1 hf1).mono ?_; rintro e w3 ⟨rfl, hb3⟩; have hV3 := hV2.grown hb3 hV2.lt; have hf3 := (hb3.block fb (lt_of_block hf1)).trans hf1)
    | (go_at_call 15; refine (place_any fb _ _ _ hV3.1 hf3).mono ?_; rintro e w4 ⟨rfl, hb4⟩))
  go_ret
  have b2 := (hb1.alloc hb1.size O).trans (hb2.mono (by simp; have := hb1.size; omega))
  exact ⟨rfl, (b2.trans (hb3.mono b2.size)).trans (hb4.mono (Nat.le_trans b2.size hb3.size))⟩
end Go.Proofs.YtjnfjfihdachiaaGreatDoor
