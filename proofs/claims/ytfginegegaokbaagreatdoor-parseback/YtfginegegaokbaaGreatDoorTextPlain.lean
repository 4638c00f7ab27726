/- Statements and programs as plain data, and their texts as the document says them (P4.2): plain functions. -/
import Derived.Test.YtfginegegaokbaaGreatDoorTreePlain
namespace Go.Proofs.YtfginegegaokbaaGreatDoor
open Go.Lib (decDigits itoa)

structure Stm where
  kind : Int
  name : ByteArray
  exprs : List Tree
  count : Int
  body : List Stm
  els : List Stm
  at_ : Int
structure Dcl where
  lock : Bool
  label : Int
  name : ByteArray
  size : Int
  by_ : ByteArray
  at_ : Int
structure Prg where
  decls : List Dcl
  threads : List (List Stm)

def tabs (d : Nat) : List UInt8 := List.replicate d 9
def lineT (d : Nat) (x : List UInt8) : List UInt8 := tabs d ++ x ++ [10]
def valueT (m : Nat) (d : Nat) (x : List UInt8) (es : List Tree) : List UInt8 := tabs d ++ x ++ epart m es 0 0 ++ [59, 10]
def sLocal : List UInt8 := [108, 111, 99, 97, 108, 32]
def sIs : List UInt8 := [32, 61, 32]
def sLoop : List UInt8 := [108, 111, 111, 112, 32]
def sTake : List UInt8 := [116, 97, 107, 101, 32]
def sGive : List UInt8 := [103, 105, 118, 101, 32]
def sAdd : List UInt8 := [97, 100, 100, 32]
def sFence : List UInt8 := [102, 101, 110, 99, 101, 59]
def sOutput : List UInt8 := [111, 117, 116, 112, 117, 116, 32]
def sIf : List UInt8 := [105, 102, 32, 40]
def sThen : List UInt8 := [41, 32, 123, 10]
def sElse : List UInt8 := [125, 32, 101, 108, 115, 101, 32, 123]

/-- A statement's text, by a bound on how deep it is; m: one on its expressions. -/
def stext (m : Nat) : Nat → Nat → Stm → List UInt8
  | 0, _, _ => []
  | n + 1, d, s =>
    let blk : Nat → List Stm → List UInt8 := fun d ss => (ss.map fun x => stext m n d x).flatten
    if s.kind = 0 then valueT m d (sLocal ++ bys s.name ++ sIs) s.exprs
    else if s.kind = 1 then valueT m d (bys s.name ++ sIs) s.exprs
    else if s.kind = 2 then tabs d ++ cellText m s.name s.exprs ++ sIs ++ epart m s.exprs 1 0 ++ [59, 10]
    else if s.kind = 3 then tabs d ++ sIf ++ epart m s.exprs 0 0 ++ sThen ++ blk (d + 1) s.body ++ (if s.els.length = 0 then [] else lineT d sElse ++ blk (d + 1) s.els) ++ lineT d [125]
    else if s.kind = 4 then lineT d (sLoop ++ bys s.name ++ [32] ++ itoa s.count ++ [32, 123]) ++ blk (d + 1) s.body ++ lineT d [125]
    else if s.kind = 5 then lineT d (sTake ++ bys s.name ++ [59])
    else if s.kind = 6 then lineT d (sGive ++ bys s.name ++ [59])
    else if s.kind = 7 then valueT m d (sAdd ++ bys s.name ++ [32]) s.exprs
    else if s.kind = 8 then lineT d sFence
    else valueT m d sOutput s.exprs

def btext (m n d : Nat) (ss : List Stm) : List UInt8 := (ss.map fun x => stext m n d x).flatten
def choiceT (m n d : Nat) (s : Stm) : List UInt8 := tabs d ++ sIf ++ epart m s.exprs 0 0 ++ sThen ++ btext m n (d + 1) s.body ++ (if s.els.length = 0 then [] else lineT d sElse ++ btext m n (d + 1) s.els) ++ lineT d [125]
theorem stext_0 (m n d : Nat) (s : Stm) (h : s.kind = 0) : stext m (n + 1) d s = valueT m d (sLocal ++ bys s.name ++ sIs) s.exprs := by simp [stext, h]
theorem stext_1 (m n d : Nat) (s : Stm) (h : s.kind = 1) : stext m (n + 1) d s = valueT m d (bys s.name ++ sIs) s.exprs := by simp [stext, h]
theorem stext_2 (m n d : Nat) (s : Stm) (h : s.kind = 2) : stext m (n + 1) d s = tabs d ++ cellText m s.name s.exprs ++ sIs ++ epart m s.exprs 1 0 ++ [59, 10] := by simp [stext, h]
theorem stext_3 (m n d : Nat) (s : Stm) (h : s.kind = 3) : stext m (n + 1) d s = choiceT m n d s := by simp [stext, h, choiceT, btext]
theorem stext_4 (m n d : Nat) (s : Stm) (h : s.kind = 4) : stext m (n + 1) d s = lineT d (sLoop ++ bys s.name ++ [32] ++ itoa s.count ++ [32, 123]) ++ btext m n (d + 1) s.body ++ lineT d [125] := by simp [stext, h, btext]
theorem stext_5 (m n d : Nat) (s : Stm) (h : s.kind = 5) : stext m (n + 1) d s = lineT d (sTake ++ bys s.name ++ [59]) := by simp [stext, h]
theorem stext_6 (m n d : Nat) (s : Stm) (h : s.kind = 6) : stext m (n + 1) d s = lineT d (sGive ++ bys s.name ++ [59]) := by simp [stext, h]
theorem stext_7 (m n d : Nat) (s : Stm) (h : s.kind = 7) : stext m (n + 1) d s = valueT m d (sAdd ++ bys s.name ++ [32]) s.exprs := by simp [stext, h]
theorem stext_8 (m n d : Nat) (s : Stm) (h : s.kind = 8) : stext m (n + 1) d s = lineT d sFence := by simp [stext, h]
theorem stext_9 (m n d : Nat) (s : Stm) (h0 : s.kind ≠ 0) (h1 : s.kind ≠ 1) (h2 : s.kind ≠ 2) (h3 : s.kind ≠ 3) (h4 : s.kind ≠ 4) (h5 : s.kind ≠ 5) (h6 : s.kind ≠ 6) (h7 : s.kind ≠ 7) (h8 : s.kind ≠ 8) : stext m (n + 1) d s = valueT m d sOutput s.exprs := by simp [stext, *]

def sLock : List UInt8 := [108, 111, 99, 107, 32]
def sPublic : List UInt8 := [112, 117, 98, 108, 105, 99, 32]
def sSecret : List UInt8 := [115, 101, 99, 114, 101, 116, 32]
def sBy : List UInt8 := [32, 98, 121, 32]
def sThread : List UInt8 := [116, 104, 114, 101, 97, 100, 32, 123]
def dtext (d : Dcl) : List UInt8 :=
  if d.lock = true then lineT 0 (sLock ++ bys d.name ++ [59])
  else (if d.label = 0 then sPublic else sSecret) ++ bys d.name ++ (if 0 < d.size then [91] ++ itoa d.size ++ [93] else []) ++ (if d.by_.size = 0 then [] else sBy ++ bys d.by_) ++ [59, 10]
def ttext (m n : Nat) (ss : List Stm) : List UInt8 := lineT 0 sThread ++ btext m n 1 ss ++ lineT 0 [125]
def ptext (m n : Nat) (p : Prg) : List UInt8 := (p.decls.map dtext).flatten ++ (p.threads.map fun ss => ttext m n ss).flatten
end Go.Proofs.YtfginegegaokbaaGreatDoor
