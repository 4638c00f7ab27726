/- What CodeText lays together is the text of an instruction. No program. -/
import Derived.Test.YtjiecfagblijhaaDoorCdTextW
import Derived.Test.YtjiecfagblijhaaDoorCdDigits
namespace Go.Proofs.YtjiecfagblijhaaDoor.Cd
open Go.ChangeShapes Go.WideShapes Go.ChangeAt Go.RowKit
set_option linter.unusedVariables false
set_option linter.unusedSimpArgs false

def tx1 (x : Cd) : List UInt8 := if setsB x.op = true then nameL x.op ++ [32, 118] ++ Lib.itoa x.to else nameL x.op
def signB (x : Cd) : Bool := x.op == 2 && decide (0 ≤ x.dop) && decide (x.dop < 10)
def tx2 (x : Cd) : List UInt8 := if signB x = true then tx1 x ++ [32] ++ signL x.dop.toNat else tx1 x
def txU (U : List Int) : List UInt8 := U.flatMap fun u => [32, 118] ++ Lib.itoa u
def tx3 (x : Cd) (j : Nat) : List UInt8 := tx2 x ++ txU ((usesP x).take j)
def tx4 (x : Cd) : List UInt8 := tx2 x ++ txU (usesP x)
theorem tx3_next {x : Cd} {j : Nat} {z : Int} (h : (usesP x)[j]? = some z) : tx3 x (j + 1) = tx3 x j ++ [32, 118] ++ Lib.itoa z := by
  unfold tx3 txU
  rw [take_snoc' h, List.flatMap_append]
  simp
theorem tx3_end {x : Cd} {j : Nat} (h : (usesP x).length ≤ j) : tx3 x j = tx4 x := by
  unfold tx3 tx4
  rw [List.take_of_length_le h]
theorem tail_flat (xs : List (List UInt8)) : Lib.joinTail [32] xs = xs.flatMap fun l => 32 :: l := by
  induction xs with
  | nil => rfl
  | cons a r ih => rw [List.flatMap_cons, ← ih]; rfl
theorem txU_flat (U : List Int) : (U.map vtext).flatMap (fun l => 32 :: l) = txU U := by
  rw [List.flatMap_map]; rfl
theorem sign_same (x : Cd) : (x.op == 2 && opB x.dop) = signB x := by
  unfold signB opB
  rw [Bool.and_assoc]
  congr 2
  by_cases h : x.dop ≤ 9
  · rw [decide_eq_true h, decide_eq_true (by omega)]
  · rw [decide_eq_false h, decide_eq_false (by omega)]
theorem text_tx (x : Cd) (h0 : 0 ≤ x.op) (h1 : x.op ≤ 13) : textP x = tx4 x ++ (if countsB x.op = true then 32 :: Lib.decDigits x.v.toNat else []) ++ (if jumpsB x.op = true then 32 :: 64 :: Lib.itoa x.t else []) := by
  unfold textP
  rw [if_neg (by omega)]
  unfold partsP tx4 tx2 tx1
  rw [sign_same]
  simp only [List.append_assoc, List.cons_append, List.nil_append]
  rw [Lib.join_cons, tail_flat]
  simp only [List.flatMap_append, txU_flat]
  cases setsB x.op <;> cases signB x <;> cases countsB x.op <;> cases jumpsB x.op <;> simp [ones, vtext]
theorem bstr_app (a b : List UInt8) : bstr a ++ bstr b = bstr (a ++ b) := by
  apply ByteArray.ext
  rw [ByteArray.data_append]
  show a.toArray ++ b.toArray = (a ++ b).toArray
  simp
theorem tx1_len {x : Cd} (hx : x.fits) : (tx1 x).length ≤ 50 := by
  have h1 := name_len x.op
  have h2 := Lib.itoa_length_le x.to hx.2.2.1.1 hx.2.2.1.2
  unfold tx1
  split
  · simp; omega
  · omega
theorem tx2_len {x : Cd} (hx : x.fits) : (tx2 x).length ≤ 100 := by
  have h1 := tx1_len hx
  unfold tx2
  split
  · rename_i h
    simp only [signB, Bool.and_eq_true, decide_eq_true_eq] at h
    have h2 := sign_len x.dop.toNat (by omega)
    simp; omega
  · omega
theorem txU_len {U : List Int} (h : ∀ z ∈ U, -9223372036854775808 ≤ z ∧ z ≤ 9223372036854775807) : (txU U).length ≤ 30 * U.length := by
  induction U with
  | nil => simp [txU]
  | cons a r ih =>
    have h1 := ih fun z hz => h z (List.mem_cons_of_mem _ hz)
    have h2 := Lib.itoa_length_le a (h a (by simp)).1 (h a (by simp)).2
    unfold txU at *
    rw [List.flatMap_cons, List.length_append]
    simp only [List.length_append, List.length_cons, List.length_nil] at *
    omega
theorem tx3_len {x : Cd} (hx : x.fits) (j : Nat) : (tx3 x j).length ≤ 250 := by
  have h1 := tx2_len hx
  have h2 := txU_len (U := (usesP x).take j) fun z hz => uses_fits hx z (List.mem_of_mem_take hz)
  have h3 : ((usesP x).take j).length ≤ 3 := Nat.le_trans (by simp; omega) (uses_le3 x)
  unfold tx3
  rw [List.length_append]
  omega
theorem tx4_len {x : Cd} (hx : x.fits) : (tx4 x).length ≤ 250 := by
  rw [← tx3_end (Nat.le_refl _)]; exact tx3_len hx _
end Go.Proofs.YtjiecfagblijhaaDoor.Cd
