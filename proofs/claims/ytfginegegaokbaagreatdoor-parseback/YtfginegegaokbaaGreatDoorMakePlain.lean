/- What the statements' own maker makes of numbers: expressions. Plain functions. -/
import Derived.Test.YtfginegegaokbaaGreatDoorTreeKids
namespace Go.Proofs.YtfginegegaokbaaGreatDoor
set_option linter.unusedVariables false

/-- What a maker knows, but its numbers. -/
structure Env where
  loc : List ByteArray
  sec : List Bool
  cnt : List Int
  held : Bool
  thread : Nat
  deep : Nat

def nxV (ns : List UInt8) (k : Nat) : Nat := match ns with | [] => 0 | x :: _ => x.toNat % k
def digitB (n : Nat) : UInt8 := UInt8.ofNat (48 + n % 10)
def dig (c : UInt8) (E : Env) : ByteArray := ⟨#[c, digitB E.thread]⟩
def sharedS : ByteArray := ⟨#[115, 104, 97, 114, 101, 100]⟩
def hiddenS : ByteArray := ⟨#[104, 105, 100, 100, 101, 110]⟩

/-- The last of the first n locals that is a counter of up to 4. -/
def counterUpto (E : Env) : Nat → Option ByteArray
  | 0 => none
  | n + 1 => if 0 < E.cnt.getD n 0 ∧ E.cnt.getD n 0 ≤ 4 then some (E.loc.getD n ⟨#[]⟩) else counterUpto E n

/-- A cell's place. -/
def placeM (pub : Nat → List UInt8 → Tree × List UInt8) (E : Env) (deep : Nat) (ns : List UInt8) : Tree × List UInt8 :=
  if nxV ns 3 = 0 then
    match counterUpto E E.loc.length with
    | some s => (nameT s, ns.tail)
    | none => (litT (nxV ns.tail 4), ns.tail.tail)
  else if nxV ns 3 = 1 then (binT 3 (pub (deep + 1) ns.tail).1 (litT 3), (pub (deep + 1) ns.tail).2)
  else (litT (nxV ns.tail 4), ns.tail.tail)

def binM (f : Nat → List UInt8 → Tree × List UInt8) (deep : Nat) (ns : List UInt8) : Tree × List UInt8 :=
  (binT (nxV ns 10) (f (deep + 1) ns.tail).1 (f (deep + 1) (f (deep + 1) ns.tail).2).1, (f (deep + 1) (f (deep + 1) ns.tail).2).2)

def pubM (E : Env) : Nat → Nat → List UInt8 → Tree × List UInt8
  | 0, _, ns => (litT (nxV ns.tail 256), ns.tail.tail)
  | f + 1, deep, ns =>
    let k := nxV ns 8
    if 3 < deep ∨ k = 0 then (litT (nxV ns.tail 256), ns.tail.tail)
    else if k = 1 then (nameT (dig 112 E), ns.tail)
    else if k = 2 ∧ E.held = true then (nameT sharedS, ns.tail)
    else if k = 3 then (cellT (dig 113 E) (placeM (pubM E f) E deep ns.tail).1, (placeM (pubM E f) E deep ns.tail).2)
    else if k = 4 ∧ 0 < E.loc.length then
      (if E.sec.getD (nxV ns.tail E.loc.length) false = false then (nameT (E.loc.getD (nxV ns.tail E.loc.length) ⟨#[]⟩), ns.tail.tail) else binM (pubM E f) deep ns.tail.tail)
    else if k = 5 then (notT (pubM E f (deep + 1) ns.tail).1, (pubM E f (deep + 1) ns.tail).2)
    else binM (pubM E f) deep ns.tail

def secM (E : Env) : Nat → Nat → List UInt8 → Tree × List UInt8
  | 0, deep, ns => pubM E 0 (deep + 1) ns.tail
  | f + 1, deep, ns =>
    let k := nxV ns 8
    if 3 < deep ∨ k = 0 then pubM E f (deep + 1) ns.tail
    else if k = 1 then (nameT (dig 115 E), ns.tail)
    else if k = 2 then (cellT (dig 116 E) (placeM (pubM E f) E deep ns.tail).1, (placeM (pubM E f) E deep ns.tail).2)
    else if k = 3 ∧ E.held = true then (nameT hiddenS, ns.tail)
    else if k = 4 ∧ 0 < E.loc.length then (nameT (E.loc.getD (nxV ns.tail E.loc.length) ⟨#[]⟩), ns.tail.tail)
    else if k = 5 then
      (pickT (secM E f (deep + 1) ns.tail).1 (secM E f (deep + 1) (secM E f (deep + 1) ns.tail).2).1 (secM E f (deep + 1) (secM E f (deep + 1) (secM E f (deep + 1) ns.tail).2).2).1, (secM E f (deep + 1) (secM E f (deep + 1) (secM E f (deep + 1) ns.tail).2).2).2)
    else binM (secM E f) deep ns.tail

theorem nxV_lt (ns : List UInt8) (k : Nat) (h : 0 < k) : nxV ns k < k := by
  unfold nxV; cases ns with
  | nil => exact h
  | cons x r => exact Nat.mod_lt _ h
end Go.Proofs.YtfginegegaokbaaGreatDoor
