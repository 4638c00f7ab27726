/- What each function of package word, and the statements' own awake, answers when it is called: by contracts over the plain functions of the text Plain. Conditions: words are from 0 to 2^64 - 1. -/
import Derived.Test.YtaljadbeopjahaaRows
import Derived.Test.YtaljadbeopjahaaPlain
import Derived.WalkKit
import Derived.ProofKit
import Derived.OpenShut
import Derived.Laws.Externs
namespace Go.Proofs.Ytaljadbeopjahaa
open Go.ChangeShapes Go.WideShapes Go.ChangeAt Go.RowKit

theorem ret_int {k : IntKind} {a b : Int} (h : a = b) : Ending.returned (.int k a) = .returned (.int k b) := by rw [h]
theorem ret_bool {a b : Bool} (h : a = b) : Ending.returned (.bool a) = .returned (.bool b) := by rw [h]

theorem some_any (a : Int) (w : World) (h0 : 0 ≤ a) (h1 : a < 18446744073709551616) :
    Calls Try.prog 19 #[.int .u64 a] w fun e w' => e = .returned (.int .u64 (someI a)) ∧ w' = w := by
  go_enter Try.func19, Try.ntmps19
  go_wp2
  go_ret
  exact ⟨ret_int (some_eq a h0 h1), rfl⟩

theorem sub64 (a b : Int) (w : World) (h0 : 0 ≤ a) (h1 : a < 18446744073709551616) (h2 : 0 ≤ b) (h3 : b < 18446744073709551616) :
    (callFunc 21 #[.int .u64 a, .int .u64 b, .int .u64 0]).run Try.prog w =
      .ok (.value (.tuple #[.int .u64 (IntKind.u64.wrap (a - b)), .int .u64 (lessI a b)])) w := by
  obtain ⟨x, rfl⟩ : ∃ x : Nat, a = (x : Int) := ⟨a.toNat, by omega⟩
  obtain ⟨y, rfl⟩ : ∃ y : Nat, b = (y : Int) := ⟨b.toNat, by omega⟩
  have hr : ((Extern.MathBitsCarry.rows[1]'(by decide)).2 #[.int .u64 x, .int .u64 y, .int .u64 0]).run Try.prog w =
      .ok (.tuple #[.int .u64 (((x + 18446744073709551616 - y) % 18446744073709551616 : Nat) : Int), .int .u64 ((if x < y then 1 else 0 : Nat) : Int)]) w := rfl
  rw [run_callFunc_extern Try.func21 (by kernel_rfl) (by kernel_rfl) (by kernel_rfl) (e := (Extern.MathBitsCarry.rows[1]'(by decide)).2) (by kernel_rfl), hr]
  have e1 : (((x + 18446744073709551616 - y) % 18446744073709551616 : Nat) : Int) = IntKind.u64.wrap ((x : Int) - y) := by
    rw [IntKind.wrap_u64]; omega
  have e2 : ((if x < y then 1 else 0 : Nat) : Int) = lessI x y := by unfold lessI; split <;> split <;> omega
  rw [e1, e2]; rfl

theorem less_any (a b : Int) (w : World) (h0 : 0 ≤ a) (h1 : a < 18446744073709551616) (h2 : 0 ≤ b) (h3 : b < 18446744073709551616) :
    Calls Try.prog 20 #[.int .u64 a, .int .u64 b] w fun e w' => e = .returned (.int .u64 (lessI a b)) ∧ w' = w := by
  have hs := fun w => sub64 a b w h0 h1 h2 h3
  go_enter Try.func20, Try.ntmps20
  go_wp2
  go_ret
  exact ⟨rfl, rfl⟩

theorem pick_any (c a b : Int) (w : World) (hc0 : 0 ≤ c) (hc1 : c < 18446744073709551616) (h0 : 0 ≤ a) (h1 : a < 18446744073709551616) (h2 : 0 ≤ b) (h3 : b < 18446744073709551616) :
    Calls Try.prog 13 #[.int .u64 c, .int .u64 a, .int .u64 b] w fun e w' => e = .returned (.int .u64 (pickI c a b)) ∧ w' = w := by
  go_enter Try.func13, Try.ntmps13
  go_wp2_with (go_at_call 19; refine (some_any _ _ hc0 hc1).mono ?_; rintro e w' ⟨rfl, rfl⟩)
  go_ret
  exact ⟨ret_int (pick_eq c a b h0 h1 h2 h3), rfl⟩

theorem op_cases (o : Int) : o = 0 ∨ o = 1 ∨ o = 2 ∨ o = 3 ∨ o = 4 ∨ o = 5 ∨ o = 6 ∨ o = 7 ∨ o = 8 ∨ o = 9 ∨
    ((o == 0) = false ∧ (o == 1) = false ∧ (o == 2) = false ∧ (o == 3) = false ∧ (o == 4) = false ∧ (o == 5) = false ∧ (o == 6) = false ∧ (o == 7) = false ∧ (o == 8) = false ∧ (o == 9) = false) := by
  simp; omega

theorem apply_none {o : Int} (a b : Int) (h0 : (o == 0) = false) (h1 : (o == 1) = false) (h2 : (o == 2) = false) (h3 : (o == 3) = false) (h4 : (o == 4) = false) (h5 : (o == 5) = false) (h6 : (o == 6) = false) (h7 : (o == 7) = false) (h8 : (o == 8) = false) (h9 : (o == 9) = false) : applyI o a b = 0 := by
  simp at *; simp [applyI, *]

theorem apply_any (o a b : Int) (w : World) (h0 : 0 ≤ a) (h1 : a < 18446744073709551616) (h2 : 0 ≤ b) (h3 : b < 18446744073709551616) :
    Calls Try.prog 12 #[.int .i64 o, .int .u64 a, .int .u64 b] w fun e w' => e = .returned (.int .u64 (applyI o a b)) ∧ w' = w := by
  have hx := xor_bounds a b h0 h1 h2 h3
  have hxl := hx.1
  have hxr := hx.2
  clear hx
  rcases op_cases o with rfl | rfl | rfl | rfl | rfl | rfl | rfl | rfl | rfl | rfl | ⟨e0, e1, e2, e3, e4, e5, e6, e7, e8, e9⟩
  case inr.inr.inr.inr.inr.inr.inr.inr.inr.inr =>
    go_enter Try.func12, Try.ntmps12
    go_wp2
    go_ret
    exact ⟨ret_int (apply_none a b e0 e1 e2 e3 e4 e5 e6 e7 e8 e9).symm, rfl⟩
  case inr.inr.inr.inr.inr.inr.inr.inr.inl =>
    go_enter Try.func12, Try.ntmps12
    go_wp2_with (go_at_call 19; refine (some_any _ _ hxl hxr).mono ?_; rintro e w' ⟨rfl, rfl⟩)
    go_ret
    exact ⟨ret_int (same_eq a b h0 h1 h2 h3), rfl⟩
  case inr.inr.inr.inr.inr.inr.inr.inr.inr.inl =>
    go_enter Try.func12, Try.ntmps12
    go_wp2_with (go_at_call 20; refine (less_any _ _ _ h0 h1 h2 h3).mono ?_; rintro e w' ⟨rfl, rfl⟩)
    go_ret
    exact ⟨rfl, rfl⟩
  all_goals
    go_enter Try.func12, Try.ntmps12
    go_wp2
    go_ret
    exact ⟨rfl, rfl⟩

theorem turns_any (o : Int) (w : World) :
    Calls Try.prog 14 #[.int .i64 o] w fun e w' => e = .returned (.bool (turnsB o)) ∧ w' = w := by
  rcases op_cases o with rfl | rfl | rfl | rfl | rfl | rfl | rfl | rfl | rfl | rfl | ⟨e0, e1, e2, e3, e4, e5, e6, e7, e8, e9⟩
  case inr.inr.inr.inr.inr.inr.inr.inr.inr.inr =>
    go_enter Try.func14, Try.ntmps14
    go_wp2
    go_ret
    exact ⟨ret_bool (by simp at *; simp [turnsB, *]), rfl⟩
  all_goals
    go_enter Try.func14, Try.ntmps14
    go_wp2
    go_ret
    exact ⟨rfl, rfl⟩

theorem tight_any (o : Int) (w : World) :
    Calls Try.prog 16 #[.int .i64 o] w fun e w' => e = .returned (.int .i64 (tightI o)) ∧ w' = w := by
  rcases op_cases o with rfl | rfl | rfl | rfl | rfl | rfl | rfl | rfl | rfl | rfl | ⟨e0, e1, e2, e3, e4, e5, e6, e7, e8, e9⟩
  case inr.inr.inr.inr.inr.inr.inr.inr.inr.inr =>
    go_enter Try.func16, Try.ntmps16
    go_wp2
    go_ret
    exact ⟨ret_int (by simp at *; simp [tightI, *]), rfl⟩
  all_goals
    go_enter Try.func16, Try.ntmps16
    go_wp2
    go_ret
    exact ⟨rfl, rfl⟩

/-- The ten signs, as cells. -/
def signCells : Array Value := #[.string ⟨#[43]⟩, .string ⟨#[45]⟩, .string ⟨#[42]⟩, .string ⟨#[38]⟩, .string ⟨#[124]⟩, .string ⟨#[94]⟩, .string ⟨#[60, 60]⟩, .string ⟨#[62, 62]⟩, .string ⟨#[61, 61]⟩, .string ⟨#[60]⟩]

theorem signs_any (w : World) :
    Calls Try.prog 15 #[] w fun e w' => e = .returned (.slice (some ⟨w.heap.size, 0, none⟩) 10 10) ∧ w' = w.alloc (.cells signCells 9) := by
  go_enter Try.func15, Try.ntmps15
  go_wp2
  go_ret
  exact ⟨rfl, rfl⟩

theorem awake_any (w : World) :
    Calls Try.prog 11 #[] w fun e w' => e = .returned (.bool true) ∧ w' = w.alloc (.cells signCells 9) := by
  have a1 : applyI 6 1 65 = 2 := by decide
  have a2 : applyI 9 2 3 = 1 := by decide
  have a3 : pickI 8 1 2 = 1 := by decide
  go_enter Try.func11, Try.ntmps11
  go_wp2_with (first | (go_at_call 12; refine (apply_any _ _ _ _ (by omega) (by omega) (by omega) (by omega)).mono ?_; rintro e w' ⟨rfl, rfl⟩) | (go_at_call 13; refine (pick_any _ _ _ _ (by omega) (by omega) (by omega) (by omega) (by omega) (by omega)).mono ?_; rintro e w' ⟨rfl, rfl⟩) | (go_at_call 15; refine (signs_any _).mono ?_; rintro e w' ⟨rfl, rfl⟩))
  go_ret
  exact ⟨rfl, rfl⟩
end Go.Proofs.Ytaljadbeopjahaa
