/- All of it: what Text of package code answers. Conditions: the table of powers holds what its initialiser lays; the fields are within their types. -/
import Derived.Test.YtjiecfagblijhaaDoorCdTextW
namespace Go.Proofs.YtjiecfagblijhaaDoor.Cd
open Go.ChangeShapes Go.WideShapes Go.ChangeAt Go.RowKit
set_option linter.unusedVariables false
set_option linter.unusedSimpArgs false

set_option maxHeartbeats 4000000 in
set_option maxRecDepth 100000 in
theorem text_none (op dop to a b c v t : Int) (w : World) (h : op < 0 ∨ 13 < op) :
    Calls Tryd.prog 18 #[.agg #[.int .i64 op, .int .i64 dop, .int .i64 to, .int .i64 a, .int .i64 b, .int .i64 c, .int .u64 v, .int .i64 t]] w fun e w' => e = .returned (.string (bstr [63])) ∧ Below w.heap.size w w' := by
  have hbx := (Below.refl w.heap.size w).alloc (Nat.le_refl _) (.cells #[.int .i64 op, .int .i64 dop, .int .i64 to, .int .i64 a, .int .i64 b, .int .i64 c, .int .u64 v, .int .i64 t] 26)
  have PN := fun w1 => name_any op w1
  have e : nameL op = [] := by
    rcases kinds op with rfl | rfl | rfl | rfl | rfl | rfl | rfl | rfl | rfl | rfl | rfl | rfl | rfl | rfl | k
    all_goals first | omega | simp [nameL, k]
  rw [e] at PN
  go_enter Tryd.func18, Tryd.ntmps18
  go_wp2_with (go_at_call 25; refine (PN _).mono ?_; rintro ed w2 ⟨rfl, hb2⟩; rw [show bstr [] = ⟨#[]⟩ from rfl])
  go_ret
  exact ⟨rfl, hbx.trans (hb2.mono (by simp))⟩
theorem text_any (x : Cd) (hx : x.fits) (w : World) (hV : Vars w.heap.size w) :
    Calls Tryd.prog 18 #[.agg #[.int .i64 x.op, .int .i64 x.dop, .int .i64 x.to, .int .i64 x.a, .int .i64 x.b, .int .i64 x.c, .int .u64 x.v, .int .i64 x.t]] w fun e w' => e = .returned (.string (bstr (textP x))) ∧ Below w.heap.size w w' := by
  obtain ⟨op, dop, to, a, b, c, v, t⟩ := x
  by_cases h : op < 0 ∨ 13 < op
  · have e : textP ⟨op, dop, to, a, b, c, v, t⟩ = [63] := by unfold textP; rw [if_pos h]
    rw [e]
    exact text_none op dop to a b c v t w h
  have h0 : 0 ≤ op := by omega
  have h13 : op ≤ 13 := by omega
  by_cases e2 : op = 2
  · subst e2
    by_cases hs : opB dop = true
    · have hd : 0 ≤ dop ∧ dop ≤ 9 := by simpa [opB] using hs
      obtain ⟨n, rfl⟩ : ∃ n : Nat, dop = n := ⟨dop.toNat, by omega⟩
      exact text_sign n to a b c v t w hV hx (by omega) hs
    · exact text_no dop to a b c v t w hV hx (by simpa using hs)
  · rcases (show (op = 0 ∨ op = 4) ∨ (op = 1 ∨ op = 3) ∨ (op = 5 ∨ op = 8 ∨ op = 9 ∨ op = 10) ∨ (op = 6 ∨ op = 7) ∨ (op = 11 ∨ op = 12 ∨ op = 13) by omega) with k | k | k | k | k
    · exact text_tt op dop to a b c v t w hV hx h0 h13 e2 (by rcases k with rfl | rfl <;> rfl) (by rcases k with rfl | rfl <;> rfl) (by rcases k with rfl | rfl <;> rfl)
    · exact text_tf op dop to a b c v t w hV hx h0 h13 e2 (by rcases k with rfl | rfl <;> rfl) (by rcases k with rfl | rfl <;> rfl) (by rcases k with rfl | rfl <;> rfl)
    · exact text_ft op dop to a b c v t w hV hx h0 h13 e2 (by rcases k with rfl | rfl | rfl | rfl <;> rfl) (by rcases k with rfl | rfl | rfl | rfl <;> rfl) (by rcases k with rfl | rfl | rfl | rfl <;> rfl)
    · exact text_fj op dop to a b c v t w hV hx h0 h13 e2 (by rcases k with rfl | rfl <;> rfl) (by rcases k with rfl | rfl <;> rfl) (by rcases k with rfl | rfl <;> rfl)
    · exact text_ff op dop to a b c v t w hV hx h0 h13 e2 (by rcases k with rfl | rfl | rfl <;> rfl) (by rcases k with rfl | rfl | rfl <;> rfl) (by rcases k with rfl | rfl | rfl <;> rfl)
end Go.Proofs.YtjiecfagblijhaaDoor.Cd
