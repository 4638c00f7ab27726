/- The small functions of law05: number and is; parse.Program where it is asked alone whether there is an error. Conditions: numbers below 1000; lex's variables are as they are laid. -/
import Derived.Test.YtfginegegaokbaaGreatDoorGPProgA
import Derived.Test.YtfginegegaokbaaGreatDoorGMakeE
import Derived.Test.YtfginegegaokbaaGreatDoorHPLim
namespace Go.Proofs.YtfginegegaokbaaGreatDoor.Pr
open Go.ChangeShapes Go.WideShapes Go.ChangeAt Go.RowKit
open Go.Lib (decDigits)
set_option linter.unusedVariables false
set_option linter.unusedSimpArgs false

theorem enc_one (n : Nat) (h : n < 10) : Utf8.encode (48 + (n : Int)) = bstr (decDigits n) := by
  rw [Go.Lib.decDigits_one h]; exact enc_digit ⟨n, h⟩
theorem dec_cat (n : Nat) (h : ¬ n < 10) : bstr (decDigits (n / 10)) ++ bstr (decDigits (n % 10)) = bstr (decDigits n) := by
  rw [bstr_cat]
  have e : decDigits n = decDigits (n / 10) ++ [UInt8.ofNat (48 + n % 10)] := by rw [decDigits, dif_neg h]
  rw [e, Go.Lib.decDigits_one (show n % 10 < 10 by omega)]
theorem div_cast (n : Nat) : ((n / 10 : Nat) : Int) = (n : Int) / 10 := by omega
theorem mod_cast' (n : Nat) : ((n % 10 : Nat) : Int) = (n : Int) % 10 := by omega
set_option maxHeartbeats 2000000 in
theorem num_1 (n : Nat) (h : n < 10) (w : World) : Calls Tryz.prog 19 #[.int .i64 (n : Int)] w fun e w' => e = .returned (.string (bstr (decDigits n))) ∧ w' = w := by
  have hl : (n : Int) < 10 := by omega
  go_enter Tryz.func19, Tryz.ntmps19
  go_wp2
  go_ret
  exact ⟨by rw [enc_one n h]; rfl, rfl⟩
set_option maxHeartbeats 2000000 in
theorem num_2 (n : Nat) (h : n < 100) (w : World) : Calls Tryz.prog 19 #[.int .i64 (n : Int)] w fun e w' => e = .returned (.string (bstr (decDigits n))) ∧ w' = w := by
  by_cases h1 : n < 10
  · exact num_1 n h1 w
  have hl : ¬ (n : Int) < 10 := by omega
  have C1 := num_1 (n / 10) (by omega) w
  have C2 := num_1 (n % 10) (by omega) w
  have s1 : (bstr (decDigits (n / 10))).size ≤ 3 := by rw [bstr_size]; exact dig_few _ (by omega)
  have s2 : (bstr (decDigits (n % 10))).size ≤ 3 := by rw [bstr_size]; exact dig_few _ (by omega)
  rw [div_cast] at C1
  rw [mod_cast'] at C2
  go_enter Tryz.func19, Tryz.ntmps19
  go_wp2_with fail
  go_at_call 19
  refine C1.mono ?_
  rintro e w' ⟨rfl, rfl⟩
  go_wp2_with fail
  go_at_call 19
  refine C2.mono ?_
  rintro e w' ⟨rfl, rfl⟩
  go_wp2
  go_ret
  exact ⟨by rw [dec_cat n h1]; rfl, rfl⟩
set_option maxHeartbeats 2000000 in
theorem num_any (n : Nat) (h : n < 1000) (w : World) : Calls Tryz.prog 19 #[.int .i64 (n : Int)] w fun e w' => e = .returned (.string (bstr (decDigits n))) ∧ w' = w := by
  by_cases h1 : n < 10
  · exact num_1 n h1 w
  have hl : ¬ (n : Int) < 10 := by omega
  have C1 := num_2 (n / 10) (by omega) w
  have C2 := num_1 (n % 10) (by omega) w
  have s1 : (bstr (decDigits (n / 10))).size ≤ 3 := by rw [bstr_size]; exact dig_few _ (by omega)
  have s2 : (bstr (decDigits (n % 10))).size ≤ 3 := by rw [bstr_size]; exact dig_few _ (by omega)
  rw [div_cast] at C1
  rw [mod_cast'] at C2
  go_enter Tryz.func19, Tryz.ntmps19
  go_wp2_with fail
  go_at_call 19
  refine C1.mono ?_
  rintro e w' ⟨rfl, rfl⟩
  go_wp2_with fail
  go_at_call 19
  refine C2.mono ?_
  rintro e w' ⟨rfl, rfl⟩
  go_wp2
  go_ret
  exact ⟨by rw [dec_cat n h1]; rfl, rfl⟩

def ErrIs (may : Bool) (ev : Value) (w : World) : Prop := (may = true ∧ ev = .nilIface) ∨ (may = false ∧ ∃ fb a : Nat, ev = .iface 96 (.pointer (some ⟨fb, 0, none⟩)) ∧ w.heap[fb]? = some (.cells #[.int .i64 (a : Int), .iface 38 (.int .i64 6)] 100 (0, 0)))
theorem ErrIs.below {may : Bool} {ev : Value} {w w' : World} (h : ErrIs may ev w) (hb : Below w.heap.size w w') : ErrIs may ev w' := by
  rcases h with h | ⟨h, fb, a, e, hf⟩
  · exact .inl h
  · exact .inr ⟨h, fb, a, e, below_keep hb hf⟩
theorem ErrIs.alloc {may : Bool} {ev : Value} {w : World} (h : ErrIs may ev w) (o : Obj) : ErrIs may ev (w.alloc o) := h.below ((Below.refl _ _).alloc (Nat.le_refl _) o)
def Reads (may : Bool) (l : List UInt8) : Prop := (may = true ∧ ∃ q, parseP l = .ok q) ∨ (may = false ∧ ∃ a, parseP l = .error (6, a))
theorem prog_any (s : ByteArray) (may : Bool) (w : World) (hm : s.size ≤ maxLen) (hV : Lx.Vars w) (h : Hid (Reads may (bys s))) :
    Calls Tryz.prog 12 #[.string s] w fun e w' => ∃ a0 n0 c0 a1 n1 c1 ev, e = .returned (.tuple #[.agg #[.slice a0 n0 c0, .slice a1 n1 c1], ev]) ∧ ErrIs may ev w' ∧ Below w.heap.size w w' := by
  rcases h.out with ⟨hmay, q, hq⟩ | ⟨hmay, a, ha⟩
  · refine (program_ok s q w hm hV hq).mono ?_
    rintro e w' ⟨dv, tv, rfl, hD, hT, hb⟩
    obtain ⟨dao, dcap, rfl⟩ := dcls_slice hD
    obtain ⟨tao, tcap, rfl⟩ := thrs_slice hT
    exact ⟨_, _, _, _, _, _, _, rfl, .inl ⟨hmay, rfl⟩, hb⟩
  · refine (program_err s 6 a w hm hV ha).mono ?_
    rintro e w' ⟨fb, rfl, hf, hb⟩
    exact ⟨_, _, _, _, _, _, _, rfl, .inr ⟨hmay, fb, a, rfl, hf⟩, hb⟩
set_option maxHeartbeats 2000000 in
theorem errIs_any (may : Bool) (ev : Value) (w : World) (hV : Lx.Vars w) (h : ErrIs may ev w) :
    Calls Tryz.prog 20 #[ev, .bool may] w fun e w' => e = .returned (.bool true) ∧ Below w.heap.size w w' := by
  rcases h with ⟨rfl, rfl⟩ | ⟨rfl, fb, a, rfl, hf⟩
  · go_enter Tryz.func20, Tryz.ntmps20
    go_wp2
    go_ret
    exact ⟨rfl, Below.refl _ _⟩
  · go_enter Tryz.func20, Tryz.ntmps20
    go_wp2_with (go_at_call 17; refine (number_any fb _ _ _ hV.1 hf).mono ?_; rintro e w1 ⟨rfl, hb1⟩)
    go_ret
    exact ⟨rfl, hb1⟩
end Go.Proofs.YtfginegegaokbaaGreatDoor.Pr
