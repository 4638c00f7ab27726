/- The walk of TreeText: where its two texts have at most 1048576 bytes it returns true. Conditions: the table of powers holds what its initialiser lays. -/
import Derived.Test.YtbeflkadmehdlaaDoorTextLaw
namespace Go.Proofs.YtbeflkadmehdlaaDoor
open Go.ChangeShapes Go.WideShapes Go.ChangeAt Go.RowKit
set_option linter.unusedVariables false
set_option linter.unusedSimpArgs false

theorem line_cell (w : World) (wA : World) (lab : Int) (a1 : ByteArray) (zi : Int) (by_ : ByteArray) (K C : Nat) (hK : K ≤ 10) : (textW wA lab a1 zi by_ K C).cell? ⟨wA.heap.size + 1 + 1 + 1 + 1 + 1 + 1 + 1 + 1 + 1, K, none⟩ = some (.string (lineS C K)) := by
  rw [Lib.cell_of_heap (textW_9 wA lab a1 zi by_ K C)]
  match K, hK with
  | 0, _ | 1, _ | 2, _ | 3, _ | 4, _ | 5, _ | 6, _ | 7, _ | 8, _ | 9, _ | 10, _ => rfl

set_option maxHeartbeats 2000000 in
set_option maxRecDepth 100000 in
theorem text_way0 (a1 : ByteArray) (z c k K C : Nat) (h1 : (z : Int) % 3 = 0) (w : World) (n1 : a1.size ≤ 1048576) (hz : z < 256) (hc : c < 256) (hk : k < 256) (hK : K ≤ 10) (hC : C ≤ 9) (hKI : (k : Int) % 11 = (K : Int)) (hCI : (c : Int) % 10 = (C : Int)) (hKI2 : (K : Int) < 11) (hV : Vars w.heap.size w) :
    Calls Tryd.prog 4 #[.int .i64 0, .string a1, .string ⟨#[]⟩, .int .u8 z, .int .u8 c, .int .u8 k] w fun e w' => e = .returned (.bool true) ∧ Below w.heap.size w w' := by
  go_enter Tryd.func4, Tryd.ntmps4
  go_wp2_with (first
    | (go_at_call 8; refine (awake_any w hV).mono ?_; rintro e wA ⟨rfl, hbA⟩)
    | (go_at_call 11; refine (digit_any C (by omega) _).mono ?_; rintro e w' ⟨rfl, rfl⟩))
  have hT := text_at w wA 0 a1 0 ⟨#[]⟩ K C n1 (Nat.zero_le _) ⟨by omega, by omega⟩ hK hC hbA hV
  have hH : headS 0 a1 0 ⟨#[]⟩ = (⟨#[112, 117, 98, 108, 105, 99, 32]⟩ : ByteArray) ++ a1 := by
    rw [headS, if_pos rfl, if_neg (by omega), if_pos (show (⟨#[]⟩ : ByteArray).size = 0 from rfl)]
    apply bys_inj
    simp [bys_cat, bys]
  rw [hH] at hT
  have hl := line_len K C
  have hbW := textW_below wA 0 a1 0 ⟨#[]⟩ K C
  have hW8 := textW_8 wA 0 a1 0 ⟨#[]⟩ K C
  have hWl := line_cell w wA 0 a1 0 ⟨#[]⟩ K C hK
  skip
  show Code.wp _ _ _ _ (textW wA 0 a1 0 ⟨#[]⟩ K C)
  obtain ⟨W, hW⟩ : ∃ W, W = textW wA 0 a1 0 ⟨#[]⟩ K C := ⟨_, rfl⟩
  rw [← hW] at hT hbW hW8 hWl
  rw [← hW]
  clear hW
  have hbw : Below w.heap.size w W := hbA.trans (hbW.mono hbA.size)
  have cT := fun d os => Calls.regrown_of (hT _ (below_regrown W d os))
  have p0 : W.cell? ⟨wA.heap.size + 1 + 1 + 1 + 1 + 1 + 1 + 1 + 1, 0, none⟩ = some (.slice (some ⟨wA.heap.size + 1 + 1 + 1 + 1 + 1, 0, none⟩) 2 2) := by rw [Lib.cell_of_heap hW8]; rfl
  have p1 : W.cell? ⟨wA.heap.size + 1 + 1 + 1 + 1 + 1 + 1 + 1 + 1, 1, none⟩ = some (.slice (some ⟨wA.heap.size + 1 + 1 + 1 + 1 + 1 + 1 + 1, 0, none⟩) 1 1) := by rw [Lib.cell_of_heap hW8]; rfl
  have P0 := cell_regrown p0
  have P1 := cell_regrown p1
  have S0 := cell_regrown hWl
  clear hW8
  refine wp_region_quiet_below (by kernel_rfl) (by kernel_rfl) ?_
  repeat (go_big_quiet_step (first | with_reducible exact cT _ _))
  refine wpQuiet_nil ?_
  intro _ hw'
  obtain ⟨⟨dq, osq⟩, hw''⟩ := hw'
  subst hw''
  obtain ⟨W2, hW2⟩ : ∃ W2, W2 = Sort.grow (redrawn W dq) osq := ⟨_, rfl⟩
  have hB2 : Below W.heap.size W W2 := by rw [hW2]; exact below_regrown W dq osq
  rw [← hW2]
  clear hW2 P0 P1 S0 cT p0 p1 hT
  have hfin : Below w.heap.size w W2 := hbw.trans (hB2.mono hbw.size)
  go_wp2
  go_ret
  exact ⟨rfl, hfin⟩
end Go.Proofs.YtbeflkadmehdlaaDoor
