/- Plain functions that say what package code answers, of codes as eight numbers. No conditions. -/
namespace Go.Proofs.YtjiecfagblijhaaDoor.Cd

structure Cd where
  op : Int
  dop : Int
  to : Int
  a : Int
  b : Int
  c : Int
  v : Int
  t : Int

def setsB (op : Int) : Bool := op == 0 || op == 1 || op == 2 || op == 3 || op == 4
def usesP (x : Cd) : List Int :=
  if x.op = 1 ∨ x.op = 7 ∨ x.op = 10 ∨ x.op = 12 then [x.a] else if x.op = 2 then [x.a, x.b] else if x.op = 3 then [x.a, x.b, x.c]
  else if x.op = 4 then (if x.a < 0 then [] else [x.a]) else if x.op = 5 then (if x.a < 0 then [x.b] else [x.a, x.b]) else []
def offP (a : Int) : List Int := if a < 0 then [] else [a]
def jumpsB (op : Int) : Bool := op == 6 || op == 7
def goesB (op : Int) : Bool := op != 6 && op != 13
def opB (d : Int) : Bool := decide (0 ≤ d) && decide (d ≤ 9)
def touchedP (x : Cd) : List Int := usesP x ++ (if setsB x.op then [x.to] else [])
def okV (v : Int) : Bool := decide (0 ≤ v) && decide (v ≤ 65535)
def soundB (x : Cd) (n : Int) : Bool :=
  decide (0 ≤ x.op) && decide (x.op ≤ 13) && !(x.op == 2 && !opB x.dop) && !(jumpsB x.op && (decide (x.t < 0) || decide (n ≤ x.t))) && (touchedP x).all okV
def endB (op : Int) : Bool := op == 13 || op == 6
def goodB (cs : List Cd) : Bool :=
  decide (0 < cs.length) && decide (cs.length ≤ 4096) && (match cs.getLast? with | some x => endB x.op | none => false) && cs.all (fun x => soundB x cs.length)

/-- How many values: one more than the greatest. -/
def moreV (n : Int) (v : Int) : Int := max n (min v 9223372036854775806 + 1)
def valuesP (cs : List Cd) : Int := cs.foldl (fun n x => (touchedP x).foldl moreV n) 0

/-- Within what the fields hold. -/
def Cd.fits (x : Cd) : Prop :=
  (-9223372036854775808 ≤ x.op ∧ x.op ≤ 9223372036854775807) ∧ (-9223372036854775808 ≤ x.dop ∧ x.dop ≤ 9223372036854775807) ∧ (-9223372036854775808 ≤ x.to ∧ x.to ≤ 9223372036854775807) ∧
  (-9223372036854775808 ≤ x.a ∧ x.a ≤ 9223372036854775807) ∧ (-9223372036854775808 ≤ x.b ∧ x.b ≤ 9223372036854775807) ∧ (-9223372036854775808 ≤ x.c ∧ x.c ≤ 9223372036854775807) ∧
  (0 ≤ x.v ∧ x.v < 18446744073709551616) ∧ (-9223372036854775808 ≤ x.t ∧ x.t ≤ 9223372036854775807)

theorem kinds (o : Int) : o = 0 ∨ o = 1 ∨ o = 2 ∨ o = 3 ∨ o = 4 ∨ o = 5 ∨ o = 6 ∨ o = 7 ∨ o = 8 ∨ o = 9 ∨ o = 10 ∨ o = 11 ∨ o = 12 ∨ o = 13 ∨ (o ≠ 0 ∧ o ≠ 1 ∧ o ≠ 2 ∧ o ≠ 3 ∧ o ≠ 4 ∧ o ≠ 5 ∧ o ≠ 6 ∧ o ≠ 7 ∧ o ≠ 8 ∧ o ≠ 9 ∧ o ≠ 10 ∧ o ≠ 11 ∧ o ≠ 12 ∧ o ≠ 13) := by omega
end Go.Proofs.YtjiecfagblijhaaDoor.Cd
