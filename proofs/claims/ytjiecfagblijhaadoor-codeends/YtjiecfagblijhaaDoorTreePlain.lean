/- Trees as plain data, and their texts as the document says them (P4.1): plain functions, no program. -/
import Derived.Lib.ItoaNum
import Derived.Lib.UnsafeStr
namespace Go.Proofs.YtjiecfagblijhaaDoor
open Go.Lib (decDigits)

def bys (s : ByteArray) : List UInt8 := s.data.toList
def bstr (l : List UInt8) : ByteArray := ⟨l.toArray⟩
theorem bys_bstr (l : List UInt8) : bys (bstr l) = l := rfl
theorem bstr_bys (s : ByteArray) : bstr (bys s) = s := rfl
theorem bys_length (s : ByteArray) : (bys s).length = s.size := by unfold bys; simp
theorem bstr_size (l : List UInt8) : (bstr l).size = l.length := by simp [bstr, ByteArray.size]
theorem bys_inj {s t : ByteArray} (h : bys s = bys t) : s = t := by rw [← bstr_bys s, h, bstr_bys]

structure Tree where
  kind : Int
  op : Int
  name : ByteArray
  value : Nat
  kids : List Tree
  at_ : Int

/-- How tight an operator binds; 0: there is none. -/
def tightN (op : Int) : Nat :=
  if op = 2 then 7 else if op = 0 then 6 else if op = 1 then 6 else if op = 6 then 5 else if op = 7 then 5 else if op = 3 then 4 else if op = 8 then 3 else if op = 9 then 3 else if op = 5 then 2 else if op = 4 then 1 else 0

def signL (op : Nat) : List UInt8 := [[43], [45], [42], [38], [124], [94], [60, 60], [62, 62], [61, 61], [60]].getD op []

/-- An expression's text, by a bound on how deep it is. -/
def etext : Nat → Tree → Nat → List UInt8
  | 0, _, _ => []
  | n + 1, t, p =>
    let pt : Nat → Nat → List UInt8 := fun i q => match t.kids[i]? with | some k => etext n k q | none => [63]
    let bin : List UInt8 := pt 0 (tightN t.op) ++ [32] ++ signL t.op.toNat ++ [32] ++ pt 1 (tightN t.op + 1)
    if t.kind = 0 then decDigits t.value
    else if t.kind = 1 then bys t.name
    else if t.kind = 2 then bys t.name ++ [91] ++ pt 0 0 ++ [93]
    else if t.kind = 3 then (if tightN t.op = 0 then [63] else if tightN t.op < p then [40] ++ bin ++ [41] else bin)
    else if t.kind = 4 then [126] ++ pt 0 9
    else if t.kind = 5 then [112, 105, 99, 107, 40] ++ pt 0 0 ++ [44, 32] ++ pt 1 0 ++ [44, 32] ++ pt 2 0 ++ [41]
    else [63]

/-- The text of one of several. -/
def epart (n : Nat) (ks : List Tree) (i p : Nat) : List UInt8 := match ks[i]? with | some k => etext n k p | none => [63]
theorem epart_some {n : Nat} {ks : List Tree} {i : Nat} {k : Tree} (h : ks[i]? = some k) (p : Nat) : epart n ks i p = etext n k p := by unfold epart; rw [h]
theorem epart_none {n : Nat} {ks : List Tree} {i : Nat} (h : ks[i]? = none) (p : Nat) : epart n ks i p = [63] := by unfold epart; rw [h]

/-- Two kids with a sign between them. -/
def binText (n : Nat) (t : Tree) : List UInt8 := epart n t.kids 0 (tightN t.op) ++ [32] ++ signL t.op.toNat ++ [32] ++ epart n t.kids 1 (tightN t.op + 1)
def pickText (n : Nat) (ks : List Tree) : List UInt8 := [112, 105, 99, 107, 40] ++ epart n ks 0 0 ++ [44, 32] ++ epart n ks 1 0 ++ [44, 32] ++ epart n ks 2 0 ++ [41]
def cellText (n : Nat) (s : ByteArray) (ks : List Tree) : List UInt8 := bys s ++ [91] ++ epart n ks 0 0 ++ [93]
def binTextAt (n : Nat) (t : Tree) (p : Nat) : List UInt8 := if tightN t.op = 0 then [63] else if tightN t.op < p then [40] ++ binText n t ++ [41] else binText n t

theorem etext_lit (n : Nat) (t : Tree) (p : Nat) (h : t.kind = 0) : etext (n + 1) t p = decDigits t.value := by simp [etext, h]
theorem etext_name (n : Nat) (t : Tree) (p : Nat) (h : t.kind = 1) : etext (n + 1) t p = bys t.name := by simp [etext, h]
theorem etext_cell (n : Nat) (t : Tree) (p : Nat) (h : t.kind = 2) : etext (n + 1) t p = cellText n t.name t.kids := by simp [etext, h, cellText, epart]
theorem etext_bin (n : Nat) (t : Tree) (p : Nat) (h : t.kind = 3) : etext (n + 1) t p = binTextAt n t p := by simp [etext, h, binTextAt, binText, epart]
theorem etext_not (n : Nat) (t : Tree) (p : Nat) (h : t.kind = 4) : etext (n + 1) t p = [126] ++ epart n t.kids 0 9 := by simp [etext, h, epart]
theorem etext_pick (n : Nat) (t : Tree) (p : Nat) (h : t.kind = 5) : etext (n + 1) t p = pickText n t.kids := by simp [etext, h, pickText, epart]
theorem etext_else (n : Nat) (t : Tree) (p : Nat) (h0 : t.kind ≠ 0) (h1 : t.kind ≠ 1) (h2 : t.kind ≠ 2) (h3 : t.kind ≠ 3) (h4 : t.kind ≠ 4) (h5 : t.kind ≠ 5) : etext (n + 1) t p = [63] := by simp [etext, *]

theorem tightN_le (op : Int) : tightN op ≤ 7 := by unfold tightN; (repeat' split) <;> omega
theorem tightN_pos (op : Int) (h0 : 0 ≤ op) (h1 : op ≤ 9) : tightN op ≠ 0 := by unfold tightN; (repeat' split) <;> omega
theorem tightN_none (op : Int) (h : op < 0 ∨ 9 < op) : tightN op = 0 := by unfold tightN; (repeat' split) <;> omega

/-- A tree that the numbers' maker makes: its operators are operators; so deep; no great names. -/
def wf : Nat → Tree → Prop
  | 0, _ => False
  | n + 1, t => (t.kind = 3 → 0 ≤ t.op ∧ t.op ≤ 9) ∧ t.name.size ≤ 16 ∧ t.value < 18446744073709551616 ∧ ∀ k ∈ t.kids, wf n k

theorem etext_at (n : Nat) (t : Tree) (p : Nat) : etext (n + 1) t p = if t.kind = 3 ∧ tightN t.op ≠ 0 ∧ tightN t.op < p then [40] ++ etext (n + 1) t 0 ++ [41] else etext (n + 1) t 0 := by
  by_cases h3 : t.kind = 3
  · rw [etext_bin n t p h3, etext_bin n t 0 h3]
    unfold binTextAt
    by_cases h0 : tightN t.op = 0
    · simp [h0, h3]
    · by_cases hp : tightN t.op < p
      · simp [h0, h3, hp]
      · simp [h0, h3, hp]
  · rw [if_neg (by simp [h3])]
    simp [etext, h3]
end Go.Proofs.YtjiecfagblijhaaDoor
