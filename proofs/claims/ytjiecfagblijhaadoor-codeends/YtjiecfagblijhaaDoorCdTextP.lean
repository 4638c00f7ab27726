/- The text of an instruction, as a plain function. No program. -/
import Derived.Test.YtjiecfagblijhaaDoorCdPlain
import Derived.Test.YtjiecfagblijhaaDoorTreePlain
import Derived.Lib.Join
import Derived.Lib.ItoaLen
namespace Go.Proofs.YtjiecfagblijhaaDoor.Cd

def nameL (op : Int) : List UInt8 :=
  if op = 0 then [115, 101, 116] else if op = 1 then [109, 111, 118, 101] else if op = 2 then [100, 111] else if op = 3 then [99, 104, 111, 111, 115, 101] else if op = 4 then [114, 101, 97, 100]
  else if op = 5 then [119, 114, 105, 116, 101] else if op = 6 then [106, 117, 109, 112] else if op = 7 then [122, 101, 114, 111] else if op = 8 then [108, 111, 99, 107] else if op = 9 then [117, 110, 108, 111, 99, 107]
  else if op = 10 then [105, 110, 99] else if op = 11 then [109, 101, 110, 100] else if op = 12 then [116, 101, 108, 108] else if op = 13 then [104, 97, 108, 116] else []
def countsB (op : Int) : Bool := op == 0 || op == 4 || op == 5 || op == 8 || op == 9 || op == 10
def vtext (u : Int) : List UInt8 := 118 :: Lib.itoa u
def ones (b : Bool) (l : List UInt8) : List (List UInt8) := if b then [l] else []
def partsP (x : Cd) : List (List UInt8) :=
  [nameL x.op] ++ ones (setsB x.op) (vtext x.to) ++ ones (x.op == 2 && opB x.dop) (signL x.dop.toNat) ++ (usesP x).map vtext ++ ones (countsB x.op) (Lib.decDigits x.v.toNat) ++ ones (jumpsB x.op) (64 :: Lib.itoa x.t)
def textP (x : Cd) : List UInt8 := if x.op < 0 ∨ 13 < x.op then [63] else Lib.join (partsP x) [32]

theorem vtext_len {u : Int} (h0 : -9223372036854775808 ≤ u) (h1 : u ≤ 9223372036854775807) : (vtext u).length ≤ 22 := by
  have := Lib.itoa_length_le u h0 h1
  simp [vtext]; omega
theorem name_len (op : Int) : (nameL op).length ≤ 22 := by
  rcases kinds op with rfl | rfl | rfl | rfl | rfl | rfl | rfl | rfl | rfl | rfl | rfl | rfl | rfl | rfl | h
  all_goals first | decide | (simp [nameL, h])
theorem name_ne {op : Int} (h0 : 0 ≤ op) (h1 : op ≤ 13) : nameL op ≠ [] := by
  rcases kinds op with rfl | rfl | rfl | rfl | rfl | rfl | rfl | rfl | rfl | rfl | rfl | rfl | rfl | rfl | h
  all_goals first | omega | decide
theorem sign_len (n : Nat) (h : n ≤ 9) : (signL n).length ≤ 22 := by
  rcases (show n = 0 ∨ n = 1 ∨ n = 2 ∨ n = 3 ∨ n = 4 ∨ n = 5 ∨ n = 6 ∨ n = 7 ∨ n = 8 ∨ n = 9 by omega) with rfl | rfl | rfl | rfl | rfl | rfl | rfl | rfl | rfl | rfl <;> simp [signL]
theorem join_len {xs : List (List UInt8)} (h : ∀ l ∈ xs, l.length ≤ 22) : (Lib.join xs [32]).length ≤ 23 * xs.length := by
  match xs, h with
  | [], _ => simp [Lib.join_nil]
  | x :: r, h =>
    have h1 := h x (by simp)
    have h2 : Lib.lens r ≤ 22 * r.length := by
      have h' : ∀ l ∈ r, l.length ≤ 22 := fun l hl => h l (by simp [hl])
      clear h h1
      induction r with
      | nil => simp [Lib.lens]
      | cons y s ih =>
        have := ih fun l hl => h' l (by simp [hl])
        have := h' y (by simp)
        simp only [Lib.lens, List.map_cons, List.sum_cons, List.length_cons] at *
        omega
    rw [Lib.join_cons, List.length_append, Lib.joinTail_length]
    simp only [List.length_cons, List.length_nil]
    omega
theorem uses_le3 (x : Cd) : (usesP x).length ≤ 3 := by
  unfold usesP
  repeat' split
  all_goals simp
theorem ones_len (b : Bool) (l : List UInt8) : (ones b l).length ≤ 1 := by cases b <;> simp [ones]
theorem parts_len (x : Cd) : (partsP x).length ≤ 8 := by
  have h1 := uses_le3 x
  have h2 := ones_len (setsB x.op) (vtext x.to)
  have h3 := ones_len (x.op == 2 && opB x.dop) (signL x.dop.toNat)
  have h4 := ones_len (countsB x.op) (Lib.decDigits x.v.toNat)
  have h5 := ones_len (jumpsB x.op) (64 :: Lib.itoa x.t)
  simp only [partsP, List.length_append, List.length_cons, List.length_nil, List.length_map]
  omega
end Go.Proofs.YtjiecfagblijhaaDoor.Cd
