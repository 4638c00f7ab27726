/- Own texts laid together: PPlain, PItems, PExprBack, PStmtBack, PProgBack, PBack. Conditions: as each theorem says. -/
import Derived.Test.YtfginegegaokbaaGreatDoorGTreeB
import Derived.Test.YtfginegegaokbaaGreatDoorLxPlain
set_option linter.unusedVariables false
set_option linter.unusedSimpArgs false
namespace Go.Proofs.YtfginegegaokbaaGreatDoor.Pr
open Lx (Tok)
structure Rd where
  ts : List Tok
  err : Option (Nat × Nat)

def endT (k : Nat) : Tok := ⟨0, [], 0, k⟩
def Rd.here (r : Rd) : Tok := r.ts.headD (endT 0)
def Rd.next (r : Rd) : Rd := ⟨if 1 < r.ts.length then r.ts.drop 1 else r.ts, r.err⟩
def Rd.fail (n : Nat) (r : Rd) : Rd := ⟨r.ts.drop (r.ts.length - 1), match r.err with | none => some (n, r.here.at_) | some e => some e⟩
def Rd.is (s : List UInt8) (r : Rd) : Bool := r.here.text == s
def Rd.want (s : List UInt8) (r : Rd) : Rd := if r.is s then r.next else r.fail 2
def Rd.name (r : Rd) : List UInt8 × Rd := if r.here.kind = 1 then (r.here.text, r.next) else ([], r.fail 2)
def Rd.number (most : Nat) (r : Rd) : Nat × Rd :=
  if r.here.kind = 3 then (if r.here.value < 1 \/ most < r.here.value then (0, r.fail 6) else (r.here.value, r.next)) else (0, r.fail 2)

def kPick : List UInt8 := [112, 105, 99, 107]
def kThread : List UInt8 := [116, 104, 114, 101, 97, 100]
def kLock : List UInt8 := [108, 111, 99, 107]
def kPublic : List UInt8 := [112, 117, 98, 108, 105, 99]
def kSecret : List UInt8 := [115, 101, 99, 114, 101, 116]
def kBy : List UInt8 := [98, 121]
def kElse : List UInt8 := [101, 108, 115, 101]
def kLocal : List UInt8 := [108, 111, 99, 97, 108]
def kIf : List UInt8 := [105, 102]
def kLoop : List UInt8 := [108, 111, 111, 112]
def kTake : List UInt8 := [116, 97, 107, 101]
def kGive : List UInt8 := [103, 105, 118, 101]
def kAdd : List UInt8 := [97, 100, 100]
def kFence : List UInt8 := [102, 101, 110, 99, 101]
def kOutput : List UInt8 := [111, 117, 116, 112, 117, 116]

def signs10 : List (List UInt8) := [[43], [45], [42], [38], [124], [94], [60, 60], [62, 62], [61, 61], [60]]
def indexL (s : List UInt8) : List (List UInt8) -> Int
  | [] => -1
  | x :: r => if x == s then 0 else if indexL s r = -1 then -1 else indexL s r + 1
def opOf (s : List UInt8) : Int := indexL s signs10
def tree0 : Tree := ⟨0, 0, ⟨#[]⟩, 0, [], 0⟩
def beginsB (t : Tok) : Bool := t.kind == 1 || t.kind == 3 || t.text == [126] || t.text == [40] || t.text == kPick
abbrev ExP := Nat -> Nat -> Rd -> Tree × Rd
def threeOf (ex : ExP) (deep : Nat) (r : Rd) : List Tree × Rd :=
  let a := ex 0 deep (r.want [40])
  let b := ex 0 deep (a.2.want [44])
  let c := ex 0 deep (b.2.want [44])
  ([a.1, b.1, c.1], c.2.want [41])
def namedOf (ex : ExP) (t : Tok) (deep : Nat) (r : Rd) : Tree × Rd :=
  if r.is [91] then
    let q := ex 0 (deep + 1) r.next
    (⟨2, 0, bstr t.text, 0, [q.1], t.at_⟩, q.2.want [93])
  else (⟨1, 0, bstr t.text, 0, [], t.at_⟩, r)
def unaryOf (ex : ExP) (un : Nat -> Rd -> Tree × Rd) (deep : Nat) (r : Rd) : Tree × Rd :=
  if beginsB r.here = false then (tree0, r.fail 2)
  else if 40 < deep then (tree0, r.fail 6)
  else if r.here.text = [126] then
    let q := un (deep + 1) r.next
    (⟨4, 0, ⟨#[]⟩, 0, [q.1], r.here.at_⟩, q.2)
  else if r.here.text = kPick then
    let q := threeOf ex (deep + 1) r.next
    (⟨5, 0, ⟨#[]⟩, 0, q.1, r.here.at_⟩, q.2)
  else if r.here.text = [40] then
    let q := ex 0 (deep + 1) r.next
    (q.1, q.2.want [41])
  else if r.here.kind = 3 then (⟨0, 0, ⟨#[]⟩, r.here.value, [], r.here.at_⟩, r.next)
  else namedOf ex r.here deep r.next
def opT (op : Int) (a b : Tree) : Tree := ⟨3, op, ⟨#[]⟩, 0, [a, b], a.at_⟩
def loopOf (ex : ExP) (tight deep : Nat) : Nat -> Tree -> Rd -> Tree × Rd
  | 0, left, r => (left, r)
  | k + 1, left, r =>
    if tightN (opOf r.here.text) <= tight then (left, r)
    else
      let q := ex (tightN (opOf r.here.text)) (deep + 1) r.next
      loopOf ex tight deep k (opT (opOf r.here.text) left q.1) q.2
def exprOf (un : Nat -> Rd -> Tree × Rd) (ex : ExP) (tight deep : Nat) (r : Rd) : Tree × Rd :=
  loopOf ex tight deep (un deep r).2.ts.length (un deep r).1 (un deep r).2
def failU (r : Rd) : Tree × Rd := (tree0, if beginsB r.here = false then r.fail 2 else r.fail 6)
def pairP : Nat -> ExP × (Nat -> Rd -> Tree × Rd)
  | 0 => (fun _ _ r => failU r, fun _ r => failU r)
  | f + 1 => (exprOf (unaryOf (pairP f).1 (pairP f).2) (pairP f).1, unaryOf (pairP f).1 (pairP f).2)
def exprP (f : Nat) : ExP := (pairP f).1
def unaryP (f : Nat) : Nat -> Rd -> Tree × Rd := (pairP f).2
theorem unaryP_succ (f : Nat) : unaryP (f + 1) = unaryOf (exprP f) (unaryP f) := rfl
theorem exprP_succ (f : Nat) : exprP (f + 1) = exprOf (unaryP (f + 1)) (exprP f) := rfl

def stm0 : Stm := ⟨0, ⟨#[]⟩, [], 0, [], [], 0⟩
def kindP (t : Tok) : Option Int :=
  if t.kind = 1 then some 1 else if t.text = kLocal then some 0 else if t.text = kIf then some 3 else if t.text = kLoop then some 4 else if t.text = kTake then some 5
  else if t.text = kGive then some 6 else if t.text = kAdd then some 7 else if t.text = kFence then some 8 else if t.text = kOutput then some 9 else none
def valueP (deep : Nat) (s : Stm) (r : Rd) : Stm × Rd :=
  let q := exprP (40 - deep) 0 (deep + 1) r
  ({ s with exprs := s.exprs ++ [q.1] }, q.2)
def simpleP (t : Tok) (deep : Nat) (s : Stm) (r : Rd) : Stm × Rd :=
  if s.kind = 0 then valueP deep { s with name := bstr r.name.1 } (r.name.2.want [61])
  else if s.kind = 1 then
    (if r.is [91] then
      let q := valueP deep { s with kind := 2, name := bstr t.text } r.next
      valueP deep q.1 ((q.2.want [93]).want [61])
    else valueP deep { s with name := bstr t.text } (r.want [61]))
  else if s.kind = 5 then ({ s with name := bstr r.name.1 }, r.name.2)
  else if s.kind = 6 then ({ s with name := bstr r.name.1 }, r.name.2)
  else if s.kind = 7 then valueP deep { s with name := bstr r.name.1 } r.name.2
  else if s.kind = 9 then valueP deep s r
  else (s, r)
theorem simple_0 (t : Tok) (deep : Nat) (s : Stm) (r : Rd) (h : s.kind = 0) : simpleP t deep s r = valueP deep { s with name := bstr r.name.1 } (r.name.2.want [61]) := by unfold simpleP; rw [if_pos h]
theorem simple_1 (t : Tok) (deep : Nat) (s : Stm) (r : Rd) (h : s.kind = 1) (hr : r.is [91] = false) : simpleP t deep s r = valueP deep { s with name := bstr t.text } (r.want [61]) := by unfold simpleP; rw [if_neg (by rw [h]; decide), if_pos h, hr]; rfl
theorem simple_2 (t : Tok) (deep : Nat) (s : Stm) (r : Rd) (h : s.kind = 1) (hr : r.is [91] = true) : simpleP t deep s r = valueP deep (valueP deep { s with kind := 2, name := bstr t.text } r.next).1 (((valueP deep { s with kind := 2, name := bstr t.text } r.next).2.want [93]).want [61]) := by unfold simpleP; rw [if_neg (by rw [h]; decide), if_pos h, hr]; rfl
theorem simple_5 (t : Tok) (deep : Nat) (s : Stm) (r : Rd) (h : s.kind = 5) : simpleP t deep s r = ({ s with name := bstr r.name.1 }, r.name.2) := by unfold simpleP; rw [if_neg (by rw [h]; decide), if_neg (by rw [h]; decide), if_pos h]
theorem simple_6 (t : Tok) (deep : Nat) (s : Stm) (r : Rd) (h : s.kind = 6) : simpleP t deep s r = ({ s with name := bstr r.name.1 }, r.name.2) := by unfold simpleP; rw [if_neg (by rw [h]; decide), if_neg (by rw [h]; decide), if_neg (by rw [h]; decide), if_pos h]
theorem simple_7 (t : Tok) (deep : Nat) (s : Stm) (r : Rd) (h : s.kind = 7) : simpleP t deep s r = valueP deep { s with name := bstr r.name.1 } r.name.2 := by unfold simpleP; rw [if_neg (by rw [h]; decide), if_neg (by rw [h]; decide), if_neg (by rw [h]; decide), if_neg (by rw [h]; decide), if_pos h]
theorem simple_8 (t : Tok) (deep : Nat) (s : Stm) (r : Rd) (h : s.kind = 8) : simpleP t deep s r = (s, r) := by unfold simpleP; rw [if_neg (by rw [h]; decide), if_neg (by rw [h]; decide), if_neg (by rw [h]; decide), if_neg (by rw [h]; decide), if_neg (by rw [h]; decide), if_neg (by rw [h]; decide)]
theorem simple_9 (t : Tok) (deep : Nat) (s : Stm) (r : Rd) (h : s.kind = 9) : simpleP t deep s r = valueP deep s r := by unfold simpleP; rw [if_neg (by rw [h]; decide), if_neg (by rw [h]; decide), if_neg (by rw [h]; decide), if_neg (by rw [h]; decide), if_neg (by rw [h]; decide), if_pos h]
abbrev BlP := Nat -> Rd -> List Stm × Rd
def choiceOf (bl : BlP) (deep : Nat) (s : Stm) (r : Rd) : Stm × Rd :=
  let q := valueP deep s (r.want [40])
  let b := bl (deep + 1) (q.2.want [41])
  if b.2.is kElse then
    let e := bl (deep + 1) b.2.next
    ({ q.1 with body := b.1, els := e.1 }, e.2)
  else ({ q.1 with body := b.1 }, b.2)
def stmtOf (bl : BlP) (deep : Nat) (r : Rd) : Stm × Rd :=
  match kindP r.here with
  | none => (stm0, r.fail 2)
  | some k =>
    if 40 < deep then (stm0, r.fail 6)
    else
      let s : Stm := ⟨k, ⟨#[]⟩, [], 0, [], [], r.here.at_⟩
      if k = 3 then choiceOf bl deep s r.next
      else if k = 4 then
        let n := r.next.name
        let c := n.2.number 256
        let b := bl (deep + 1) c.2
        ({ s with name := bstr n.1, count := c.1, body := b.1 }, b.2)
      else
        let q := simpleP r.here deep s r.next
        (q.1, q.2.want [59])
def blkLoop (st : Nat -> Rd -> Stm × Rd) (deep : Nat) : Nat -> List Stm -> Rd -> List Stm × Rd
  | 0, ss, r => (ss, r)
  | k + 1, ss, r =>
    if r.err.isSome then (ss, r)
    else if r.is [125] then (ss, r.next)
    else blkLoop st deep k (ss ++ [(st deep r).1]) (st deep r).2
def blockOf (st : Nat -> Rd -> Stm × Rd) (deep : Nat) (r : Rd) : List Stm × Rd := blkLoop st deep ((r.want [123]).ts.length + 1) [] (r.want [123])
def stP : Nat -> Nat -> Rd -> Stm × Rd
  | 0 => fun _ r => (stm0, if (kindP r.here).isNone then r.fail 2 else r.fail 6)
  | f + 1 => stmtOf (blockOf (stP f))

def cellsP (d : Dcl) (r : Rd) : Dcl × Rd :=
  let n := r.name
  let z : Int × Rd := if n.2.is [91] then let c := n.2.next.number 64; ((c.1 : Int), c.2.want [93]) else (0, n.2)
  if z.2.is kBy then
    let b := z.2.next.name
    ({ d with name := bstr n.1, size := z.1, by_ := bstr b.1 }, b.2)
  else ({ d with name := bstr n.1, size := z.1 }, z.2)
def declP (r : Rd) : Dcl × Rd :=
  let d : Dcl := ⟨false, 0, ⟨#[]⟩, 0, ⟨#[]⟩, r.here.at_⟩
  let q : Dcl × Rd :=
    if r.is kLock then ({ d with lock := true, name := bstr r.next.name.1 }, r.next.name.2)
    else if r.is kPublic then cellsP d r.next
    else if r.is kSecret then cellsP { d with label := 1 } r.next
    else (d, r.fail 2)
  (q.1, q.2.want [59])
def declLoop : Nat -> List Dcl -> Rd -> List Dcl × Rd
  | 0, ds, r => (ds, r)
  | k + 1, ds, r =>
    if r.err.isSome then (ds, r)
    else if r.is kThread then (ds, r)
    else if ds.length = 64 then (ds, r.fail 6)
    else declLoop k (ds ++ [(declP r).1]) (declP r).2
def declsP (r : Rd) : List Dcl × Rd := declLoop 65 [] r
def thrLoop : Nat -> List (List Stm) -> Rd -> List (List Stm) × Rd
  | 0, ts, r => (ts, r)
  | k + 1, ts, r =>
    if r.err.isSome then (ts, r)
    else if r.here.kind = 0 then (ts, r)
    else if ts.length = 16 then (ts, r.fail 6)
    else
      let b := blockOf (stP 40) 1 (r.want kThread)
      thrLoop k (ts ++ [b.1]) b.2
def threadsP (r : Rd) : List (List Stm) × Rd := thrLoop 17 [] r
def progP (ts : List Tok) : Except (Nat × Nat) Prg :=
  let d := declsP ⟨ts, none⟩
  let t := threadsP d.2
  match t.2.err with
  | some e => .error e
  | none => .ok ⟨d.1, t.1⟩
def parseP (l : List UInt8) : Except (Nat × Nat) Prg :=
  match Lx.cutAll l with
  | .error e => .error e
  | .ok ts => progP ts

def Rd.good (r : Rd) : Prop := ∃ us k, r.ts = us ++ [endT k] /\ ∀ t ∈ us, t.kind ≠ 0 /\ t.text ≠ []
theorem Rd.good.pos {r : Rd} (h : r.good) : 0 < r.ts.length := by obtain ⟨us, k, e, _⟩ := h; rw [e]; simp
theorem Rd.good.cons {r : Rd} (h : r.good) : r.ts = r.here :: r.ts.drop 1 := by
  have := h.pos
  unfold Rd.here
  cases e : r.ts with
  | nil => simp [e] at this
  | cons t ts => simp
theorem good_cases {r : Rd} (h : r.good) : (∃ k, r.ts = [endT k] /\ r.here = endT k) \/ (r.here.kind ≠ 0 /\ r.here.text ≠ [] /\ 1 < r.ts.length /\ r.next.good /\ r.next.ts = r.ts.drop 1 /\ r.next.ts.length + 1 = r.ts.length) := by
  obtain ⟨us, k, e, hu⟩ := h
  cases us with
  | nil => left; exact ⟨k, by simpa using e, by unfold Rd.here; rw [e]; rfl⟩
  | cons t us =>
    right
    have hl : 1 < r.ts.length := by rw [e]; simp
    have hh : r.here = t := by unfold Rd.here; rw [e]; rfl
    have hn : r.next.ts = r.ts.drop 1 := by unfold Rd.next; simp [hl]
    have ht := hu t (by simp)
    refine ⟨by rw [hh]; exact ht.1, by rw [hh]; exact ht.2, hl, ⟨us, k, by rw [hn, e]; rfl, fun x hx => hu x (by simp [hx])⟩, hn, by rw [hn, List.length_drop]; omega⟩
theorem Rd.good.next {r : Rd} (h : r.good) : r.next.good := by
  rcases good_cases h with ⟨k, e, _⟩ | ⟨_, _, _, h1, _⟩
  · have : r.next.ts = r.ts := by unfold Rd.next; simp [e]
    exact ⟨[], k, by rw [this, e]; rfl, by simp⟩
  · exact h1
theorem fail_ts (n : Nat) {r : Rd} (h : r.good) : ∃ k, (r.fail n).ts = [endT k] := by
  obtain ⟨us, k, e, _⟩ := h
  refine ⟨k, ?_⟩
  show r.ts.drop (r.ts.length - 1) = _
  rw [e]
  simp
theorem Rd.good.fail {r : Rd} (n : Nat) (h : r.good) : (r.fail n).good := by
  obtain ⟨k, e⟩ := fail_ts n h
  exact ⟨[], k, by rw [e]; rfl, by simp⟩
theorem next_len (r : Rd) : r.next.ts.length <= r.ts.length := by unfold Rd.next; simp only; split <;> simp
theorem fail_len (n : Nat) {r : Rd} (h : r.good) : (r.fail n).ts.length = 1 := by obtain ⟨k, e⟩ := fail_ts n h; rw [e]; rfl
theorem fail_le (n : Nat) {r : Rd} (h : r.good) : (r.fail n).ts.length <= r.ts.length := by rw [fail_len n h]; exact h.pos
theorem fail_err (n : Nat) (r : Rd) : (r.fail n).err.isSome = true := by unfold Rd.fail; cases r.err <;> rfl
theorem next_err (r : Rd) : r.next.err = r.err := rfl

def Rd.to (r r' : Rd) : Prop := (r.good -> r'.good) /\ (r.good -> r'.ts.length <= r.ts.length) /\ (r.err.isSome = true -> r'.err = r.err)
theorem Rd.to.refl (r : Rd) : r.to r := ⟨id, fun _ => Nat.le_refl _, fun _ => rfl⟩
theorem Rd.to.trans {a b c : Rd} (h : a.to b) (k : b.to c) : a.to c :=
  ⟨fun g => k.1 (h.1 g), fun g => Nat.le_trans (k.2.1 (h.1 g)) (h.2.1 g), fun e => by have := h.2.2 e; rw [<- this] at e ⊢; exact k.2.2 e⟩
theorem to_next (r : Rd) : r.to r.next := ⟨Rd.good.next, fun _ => next_len r, fun _ => rfl⟩
theorem to_fail (n : Nat) (r : Rd) : r.to (r.fail n) := ⟨Rd.good.fail n, fail_le n, fun e => by unfold Rd.fail; cases h : r.err with | none => rw [h] at e; cases e | some _ => rfl⟩
theorem to_want (s : List UInt8) (r : Rd) : r.to (r.want s) := by unfold Rd.want; split; exact to_next r; exact to_fail 2 r
theorem to_name (r : Rd) : r.to r.name.2 := by unfold Rd.name; split; exact to_next r; exact to_fail 2 r
theorem to_number (m : Nat) (r : Rd) : r.to (r.number m).2 := by
  unfold Rd.number
  split
  · split; exact to_fail 6 r; exact to_next r
  · exact to_fail 2 r
def ToE (ex : ExP) : Prop := ∀ t d r, Rd.to r (ex t d r).2
theorem to_three {ex : ExP} (h : ToE ex) (d : Nat) (r : Rd) : r.to (threeOf ex d r).2 :=
  ((((((to_want _ r).trans (h _ _ _)).trans (to_want _ _)).trans (h _ _ _)).trans (to_want _ _)).trans (h _ _ _)).trans (to_want _ _)
theorem to_named {ex : ExP} (h : ToE ex) (t : Tok) (d : Nat) (r : Rd) : r.to (namedOf ex t d r).2 := by
  unfold namedOf
  split
  · exact ((to_next r).trans (h _ _ _)).trans (to_want _ _)
  · exact Rd.to.refl r
theorem to_unary {ex : ExP} {un : Nat -> Rd -> Tree × Rd} (h : ToE ex) (hu : ∀ d r, Rd.to r (un d r).2) (d : Nat) (r : Rd) : r.to (unaryOf ex un d r).2 := by
  unfold unaryOf
  split
  · exact to_fail 2 r
  split
  · exact to_fail 6 r
  split
  · exact (to_next r).trans (hu _ _)
  split
  · exact (to_next r).trans (to_three h _ _)
  split
  · exact ((to_next r).trans (h _ _ _)).trans (to_want _ _)
  split
  · exact to_next r
  · exact (to_next r).trans (to_named h _ _ _)
theorem to_loop {ex : ExP} (h : ToE ex) (t d : Nat) : ∀ (k : Nat) (left : Tree) (r : Rd), r.to (loopOf ex t d k left r).2
  | 0, left, r => Rd.to.refl r
  | k + 1, left, r => by
    unfold loopOf
    split
    · exact Rd.to.refl r
    · exact ((to_next r).trans (h _ _ _)).trans (to_loop h t d k _ _)
theorem to_failU (r : Rd) : r.to (failU r).2 := by unfold failU; simp only; split; exact to_fail 2 r; exact to_fail 6 r
theorem to_pair : ∀ f, ToE (exprP f) /\ ∀ d r, Rd.to r (unaryP f d r).2
  | 0 => ⟨fun _ _ r => to_failU r, fun _ r => to_failU r⟩
  | f + 1 => by
    obtain ⟨h1, h2⟩ := to_pair f
    have hu : ∀ d r, Rd.to r (unaryP (f + 1) d r).2 := fun d r => by rw [unaryP_succ]; exact to_unary h1 h2 d r
    exact ⟨fun t d r => by rw [exprP_succ]; exact (hu d r).trans (to_loop h1 t d _ _ _), hu⟩
theorem to_expr (f : Nat) : ToE (exprP f) := (to_pair f).1
theorem to_value (d : Nat) (s : Stm) (r : Rd) : r.to (valueP d s r).2 := to_expr _ _ _ _
theorem to_simple (t : Tok) (d : Nat) (s : Stm) (r : Rd) : r.to (simpleP t d s r).2 := by
  unfold simpleP
  split
  · exact ((to_name r).trans (to_want _ _)).trans (to_value _ _ _)
  split
  · split
    · exact ((((to_next r).trans (to_value _ _ _)).trans (to_want _ _)).trans (to_want _ _)).trans (to_value _ _ _)
    · exact (to_want _ r).trans (to_value _ _ _)
  split
  · exact to_name r
  split
  · exact to_name r
  split
  · exact (to_name r).trans (to_value _ _ _)
  split
  · exact to_value _ _ _
  · exact Rd.to.refl r
def ToB (bl : BlP) : Prop := ∀ d r, Rd.to r (bl d r).2
theorem to_choice {bl : BlP} (h : ToB bl) (d : Nat) (s : Stm) (r : Rd) : r.to (choiceOf bl d s r).2 := by
  have hb := (((to_want [40] r).trans (to_value d s _)).trans (to_want [41] _)).trans (h (d + 1) _)
  unfold choiceOf
  simp only
  split
  · exact (hb.trans (to_next _)).trans (h _ _)
  · exact hb
theorem to_stmt {bl : BlP} (h : ToB bl) (d : Nat) (r : Rd) : r.to (stmtOf bl d r).2 := by
  unfold stmtOf
  split
  · exact to_fail 2 r
  split
  · exact to_fail 6 r
  simp only
  split
  · exact (to_next r).trans (to_choice h _ _ _)
  split
  · exact (((to_next r).trans (to_name _)).trans (to_number _ _)).trans (h _ _)
  · exact ((to_next r).trans (to_simple _ _ _ _)).trans (to_want _ _)
theorem to_blk {st : Nat -> Rd -> Stm × Rd} (h : ∀ d r, Rd.to r (st d r).2) (d : Nat) : ∀ (k : Nat) (ss : List Stm) (r : Rd), r.to (blkLoop st d k ss r).2
  | 0, ss, r => Rd.to.refl r
  | k + 1, ss, r => by
    unfold blkLoop
    split
    · exact Rd.to.refl r
    split
    · exact to_next r
    · exact (h _ _).trans (to_blk h d k _ _)
theorem to_block {st : Nat -> Rd -> Stm × Rd} (h : ∀ d r, Rd.to r (st d r).2) : ToB (blockOf st) := fun d r => (to_want _ r).trans (to_blk h d _ _ _)
theorem to_st : ∀ f d r, Rd.to r (stP f d r).2
  | 0, _, r => by
    show Rd.to r (if (kindP r.here).isNone then r.fail 2 else r.fail 6)
    split; exact to_fail 2 r; exact to_fail 6 r
  | f + 1, d, r => to_stmt (to_block (to_st f)) d r
theorem to_cells (d : Dcl) (r : Rd) : r.to (cellsP d r).2 := by
  unfold cellsP
  simp only
  by_cases h : r.name.2.is [91] = true
  · simp only [h, if_true]
    split
    · exact (((((to_name r).trans (to_next _)).trans (to_number _ _)).trans (to_want _ _)).trans (to_next _)).trans (to_name _)
    · exact (((to_name r).trans (to_next _)).trans (to_number _ _)).trans (to_want _ _)
  · simp only [h]
    split
    · rename_i h'; simp at h'
    · simp only [Bool.false_eq_true, if_false]
      split
      · exact ((to_name r).trans (to_next _)).trans (to_name _)
      · exact to_name r
theorem to_decl (r : Rd) : r.to (declP r).2 := by
  unfold declP
  refine Rd.to.trans ?_ (to_want _ _)
  split
  · exact (to_next r).trans (to_name _)
  split
  · exact (to_next r).trans (to_cells _ _)
  split
  · exact (to_next r).trans (to_cells _ _)
  · exact to_fail 2 r
end Go.Proofs.YtfginegegaokbaaGreatDoor.Pr
namespace Go.Proofs.YtfginegegaokbaaGreatDoor.Pr
open Go.Lib (decDigits)
open Lx (Tok num wordB letterB blankB lead blanks readTok goTok cutTok cutAll keyB signN numFrom)
structure Sg where
  kind : Nat
  text : List UInt8
  value : Nat
def sgOf (t : Tok) : Sg := ⟨t.kind, t.text, t.value⟩
def Sg.at (s : Sg) (k : Nat) : Tok := ⟨s.kind, s.text, s.value, k⟩
theorem sgOf_at (s : Sg) (k : Nat) : sgOf (s.at k) = s := rfl
structure It where
  sg : Option Sg
  gap : List UInt8
def It.text (i : It) : List UInt8 := match i.sg with | some s => s.text | none => i.gap
def iS (s : Sg) : It := ⟨some s, []⟩
def iG (g : List UInt8) : It := ⟨none, g⟩
def flat (is : List It) : List UInt8 := (is.map It.text).flatten
theorem flat_append (a b : List It) : flat (a ++ b) = flat a ++ flat b := by simp [flat]
theorem flat_cons (i : It) (b : List It) : flat (i :: b) = i.text ++ flat b := by simp [flat]
theorem flat_nil : flat [] = [] := rfl
def sgs (is : List It) : List Sg := is.filterMap It.sg
theorem sgs_append (a b : List It) : sgs (a ++ b) = sgs a ++ sgs b := by simp [sgs]
theorem sgs_s (s : Sg) (b : List It) : sgs (iS s :: b) = s :: sgs b := rfl
theorem sgs_g (g : List UInt8) (b : List It) : sgs (iG g :: b) = sgs b := rfl

def isGap (g : List UInt8) : Prop := ∀ l, blanks false (g ++ l) = g.length + blanks false l
def reads (s : Sg) (l : List UInt8) : Prop := s.text ≠ [] /\ blanks false (s.text ++ l) = 0 /\ ∀ k, readTok (s.text ++ l) k = some (s.at k)
def okF : List It -> List UInt8 -> Prop
  | [], _ => True
  | i :: is, l => (match i.sg with | some s => reads s (flat is ++ l) | none => isGap i.gap) /\ okF is l
theorem okF_append : ∀ (a b : List It) (l : List UInt8), okF a (flat b ++ l) -> okF b l -> okF (a ++ b) l
  | [], b, l, _, h => h
  | i :: a, b, l, h, hb => by
    obtain ⟨h1, h2⟩ := h
    refine ⟨?_, okF_append a b l h2 hb⟩
    cases e : i.sg with
    | none => rw [e] at h1; exact h1
    | some s => rw [e] at h1; show reads s (flat (a ++ b) ++ l); rw [flat_append, List.append_assoc]; exact h1
def toksAt : Nat -> List It -> List Tok
  | _, [] => []
  | k, i :: is => match i.sg with | some s => s.at k :: toksAt (k + s.text.length) is | none => toksAt (k + i.gap.length) is
theorem toksAt_sgs : ∀ (k : Nat) (is : List It), (toksAt k is).map sgOf = sgs is
  | k, [] => rfl
  | k, i :: is => by
    unfold toksAt sgs
    rw [List.filterMap_cons]
    cases e : i.sg with
    | none => simp only; exact toksAt_sgs _ is
    | some s => simp only [List.map_cons]; rw [toksAt_sgs _ is]; rfl
theorem go_items : ∀ (is : List It) (f k : Nat), okF is [] -> (flat is).length < f ->
    goTok f ((flat is).drop (blanks false (flat is))) (k + blanks false (flat is)) = .ok (toksAt k is ++ [endT (k + (flat is).length)])
  | [], f, k, _, hf => by
    obtain ⟨f, rfl⟩ : ∃ g, f = g + 1 := ⟨f - 1, by omega⟩
    simp [flat_nil, blanks, Lx.goTok_nil, toksAt, endT]
  | i :: is, f, k, ⟨h1, h2⟩, hf => by
    rw [flat_cons] at hf ⊢
    unfold toksAt
    cases e : i.sg with
    | none =>
      rw [e] at h1
      have ht : i.text = i.gap := by unfold It.text; rw [e]
      rw [ht] at hf ⊢
      rw [h1]
      have hd : (i.gap ++ flat is).drop (i.gap.length + blanks false (flat is)) = (flat is).drop (blanks false (flat is)) := by
        rw [<- List.drop_drop, List.drop_left]
      simp only [List.length_append] at hf
      have ih := go_items is f (k + i.gap.length) h2 (by omega)
      rw [hd, <- Nat.add_assoc, ih, List.length_append]
      simp only [Nat.add_assoc]
    | some s =>
      rw [e] at h1
      simp only [List.append_nil] at h1
      have ht : i.text = s.text := by unfold It.text; rw [e]
      rw [ht] at hf ⊢
      obtain ⟨hne, hb, hr⟩ := h1
      rw [hb]
      obtain ⟨f, rfl⟩ : ∃ g, f = g + 1 := ⟨f - 1, by omega⟩
      rw [List.drop_zero, show k + 0 = k from rfl, Lx.goTok_some (hr k)]
      have hx : (s.at k).text = s.text := rfl
      have hp : 0 < s.text.length := by
        cases h : s.text with
        | nil => exact absurd h hne
        | cons a b => simp
      rw [hx, List.drop_left]
      simp only [List.length_append] at hf
      rw [go_items is f (k + s.text.length) h2 (by omega)]
      simp [Lx.Res.pre, Nat.add_assoc]
theorem cut_items (is : List It) (h : okF is []) (hl : (flat is).length <= 65536) : cutAll (flat is) = .ok (toksAt 0 is ++ [endT (flat is).length]) := by
  unfold cutAll cutTok
  rw [if_neg (by omega)]
  have := go_items is ((flat is).length + 1) 0 h (by omega)
  simpa using this

def soft : List UInt8 -> Bool
  | [] => true
  | c :: _ => !wordB (num c) && c != 60 && c != 61 && c != 62
theorem soft_word {c : UInt8} {l : List UInt8} (h : soft (c :: l) = true) : wordB (num c) = false := by
  have h' : (!wordB (num c) && c != 60 && c != 61 && c != 62) = true := h
  cases e : wordB (num c)
  · rfl
  · rw [e] at h'; simp at h'
theorem lead_all_then {p : Int -> Bool} : ∀ (x l : List UInt8), (∀ c ∈ x, p (num c) = true) -> (∀ c r, l = c :: r -> p (num c) = false) -> lead p (x ++ l) = x.length
  | [], l, _, h => by
    cases l with
    | nil => rfl
    | cons c r => exact Lx.lead_no (h c r rfl)
  | d :: x, l, h, hl => by
    rw [List.cons_append, Lx.lead_yes (h d (by simp)), lead_all_then x l (fun c hc => h c (by simp [hc])) hl]; rfl
theorem letter_blank {c : UInt8} (h : letterB (num c) = true) : num c ≠ 35 /\ num c ≠ 10 /\ blankB (num c) = false := by
  have := Lx.letter_is h
  refine ⟨by omega, by omega, Lx.blank_no (by omega)⟩
theorem digit_blank {c : UInt8} (h : Lx.digitB (num c) = true) : num c ≠ 35 /\ num c ≠ 10 /\ blankB (num c) = false := by
  have := Lx.digit_is h
  refine ⟨by omega, by omega, Lx.blank_no (by omega)⟩
theorem blanks_zero {c : UInt8} {l : List UInt8} (h : num c ≠ 35 /\ num c ≠ 10 /\ blankB (num c) = false) : blanks false (c :: l) = 0 := by simp [blanks, h.1, h.2.1, h.2.2]
def wordText (x : List UInt8) : Prop := (∃ c r, x = c :: r /\ letterB (num c) = true) /\ ∀ c ∈ x, wordB (num c) = true
theorem word_stops {l : List UInt8} (h : soft l = true) : ∀ c r, l = c :: r -> wordB (num c) = false := fun c r e => by subst e; exact soft_word h
theorem reads_word {x l : List UInt8} (hx : wordText x) (hl : soft l = true) : reads ⟨if keyB x then 2 else 1, x, 0⟩ l := by
  obtain ⟨⟨c, r, rfl, hc⟩, hw⟩ := hx
  refine ⟨by simp, ?_, fun k => ?_⟩
  · show blanks false ((c :: r) ++ l) = 0
    rw [List.cons_append]; exact blanks_zero (letter_blank hc)
  · have hle := lead_all_then (p := wordB) (c :: r) l hw (word_stops hl)
    show readTok ((c :: r) ++ l) k = _
    have ht : ((c :: r) ++ l).take (lead wordB ((c :: r) ++ l)) = c :: r := by rw [hle]; simp
    rw [List.cons_append] at ht ⊢
    unfold readTok
    simp only [hc, if_true, ht]
    rfl
def wd (s : ByteArray) : Sg := ⟨1, bys s, 0⟩
def kw (x : List UInt8) : Sg := ⟨2, x, 0⟩
def sn (x : List UInt8) : Sg := ⟨4, x, 0⟩
def dg (n : Nat) : Sg := ⟨3, decDigits n, n⟩
def isName (s : ByteArray) : Prop := wordText (bys s) /\ keyB (bys s) = false
theorem reads_wd {s : ByteArray} (h : isName s) {l : List UInt8} (hl : soft l = true) : reads (wd s) l := by
  have := reads_word h.1 hl
  rw [h.2] at this
  exact this
theorem reads_kw {x : List UInt8} (h : wordText x) (hk : keyB x = true) {l : List UInt8} (hl : soft l = true) : reads (kw x) l := by
  have := reads_word h hl
  rw [hk] at this
  exact this
theorem reads_one {c : UInt8} (h : c ≠ 60 /\ c ≠ 61 /\ c ≠ 62) (hs : Lx.signList.contains c = true) (l : List UInt8) : reads (sn [c]) l := by
  have hmem : c ∈ Lx.signList := by simpa using hs
  have hcl : letterB (num c) = false /\ Lx.digitB (num c) = false /\ num c ≠ 35 /\ num c ≠ 10 /\ blankB (num c) = false := by
    have : ∀ d ∈ Lx.signList, letterB (num d) = false /\ Lx.digitB (num d) = false /\ num d ≠ 35 /\ num d ≠ 10 /\ blankB (num d) = false := by decide
    exact this c hmem
  refine ⟨by simp [sn], blanks_zero hcl.2.2, fun k => ?_⟩
  have h1 : ([60, 60] : List UInt8).isPrefixOf (c :: l) = false := by simp [List.isPrefixOf]; exact fun e => absurd e.symm h.1
  have h2 : ([62, 62] : List UInt8).isPrefixOf (c :: l) = false := by simp [List.isPrefixOf]; exact fun e => absurd e.symm h.2.2
  have h3 : ([61, 61] : List UInt8).isPrefixOf (c :: l) = false := by simp [List.isPrefixOf]; exact fun e => absurd e.symm h.2.1
  have hn : signN (c :: l) = 1 := by unfold signN; rw [h1, h2, h3]; simp only [Bool.false_eq_true, if_false, hs, if_true]
  show readTok (c :: l) k = _
  unfold readTok
  simp only [hcl.1, hcl.2.1, Bool.false_eq_true, if_false, hn]
  rfl
theorem reads_thin {c : UInt8} (h : c = 60 \/ c = 61) (l : List UInt8) : reads (sn [c]) (32 :: l) := by
  refine ⟨by simp [sn], ?_, fun k => ?_⟩
  · rcases h with rfl | rfl <;> (apply blanks_zero; decide)
  · rcases h with rfl | rfl
    all_goals
      show readTok _ k = _
      simp only [sn, List.cons_append, List.nil_append]
      unfold readTok
      have hn : ∀ l : List UInt8, signN (60 :: 32 :: l) = 1 := fun l => by unfold signN; simp [List.isPrefixOf]; decide
      have hn' : ∀ l : List UInt8, signN (61 :: 32 :: l) = 1 := fun l => by unfold signN; simp [List.isPrefixOf]; decide
      have e1 : letterB (num 60) = false /\ Lx.digitB (num 60) = false /\ letterB (num 61) = false /\ Lx.digitB (num 61) = false := by decide
      simp only [e1.1, e1.2.1, e1.2.2.1, e1.2.2.2, Bool.false_eq_true, if_false, hn, hn']
      rfl
theorem reads_two {c : UInt8} (h : c = 60 \/ c = 61 \/ c = 62) (l : List UInt8) : reads (sn [c, c]) l := by
  refine ⟨by simp [sn], ?_, fun k => ?_⟩
  · rcases h with rfl | rfl | rfl <;> (apply blanks_zero; decide)
  · have e1 : letterB (num 60) = false /\ Lx.digitB (num 60) = false /\ letterB (num 61) = false /\ Lx.digitB (num 61) = false /\ letterB (num 62) = false /\ Lx.digitB (num 62) = false := by decide
    have hn : signN (c :: c :: l) = 2 := by rcases h with rfl | rfl | rfl <;> simp [signN, List.isPrefixOf]
    show readTok (c :: c :: l) k = _
    unfold readTok
    rcases h with rfl | rfl | rfl <;> (simp only [e1.1, e1.2.1, e1.2.2.1, e1.2.2.2.1, e1.2.2.2.2.1, e1.2.2.2.2.2, Bool.false_eq_true, if_false, hn]; rfl)
theorem num_ofNat (n : Nat) (h : n < 256) : num (UInt8.ofNat n) = (n : Int) := by
  unfold num
  rw [UInt8.toNat_ofNat', Nat.mod_eq_of_lt (by simpa using h)]
theorem digits_all (u : Nat) : ∀ c ∈ decDigits u, Lx.digitB (num c) = true := by
  induction u using Nat.strongRecOn with
  | _ u ih =>
    intro c hc
    rw [decDigits] at hc
    split at hc
    · simp only [List.mem_singleton] at hc
      subst hc
      rw [num_ofNat _ (by omega)]
      exact Lx.digit_yes (by omega)
    · rcases List.mem_append.1 hc with h | h
      · exact ih (u / 10) (by omega) c h
      · simp only [List.mem_singleton] at h
        subst h
        rw [num_ofNat _ (by omega)]
        exact Lx.digit_yes (by omega)
theorem numFrom_append : ∀ (a b : List UInt8) (acc : Nat), numFrom acc (a ++ b) = (numFrom acc a).bind fun v => numFrom v b
  | [], b, acc => rfl
  | c :: a, b, acc => by
    rw [List.cons_append]
    simp only [numFrom]
    split
    · exact numFrom_append a b _
    · rfl
theorem numFrom_dec (u : Nat) : u < 18446744073709551616 -> numFrom 0 (decDigits u) = some u := by
  induction u using Nat.strongRecOn with
  | _ u ih =>
    intro hu
    rw [decDigits]
    split
    · rename_i h
      have e : (UInt8.ofNat (48 + u)).toNat = 48 + u := by rw [UInt8.toNat_ofNat']; exact Nat.mod_eq_of_lt (by omega)
      simp only [numFrom, e]
      rw [if_pos (by omega)]
      congr 1
      omega
    · rename_i h
      have e : (UInt8.ofNat (48 + u % 10)).toNat = 48 + u % 10 := by rw [UInt8.toNat_ofNat']; exact Nat.mod_eq_of_lt (by omega)
      rw [numFrom_append, ih (u / 10) (by omega) (by omega)]
      simp only [Option.bind_some, numFrom, e]
      rw [if_pos (by omega)]
      congr 1
      omega
theorem digits_cons (u : Nat) : ∃ c r, decDigits u = c :: r /\ Lx.digitB (num c) = true := by
  have h1 : (decDigits u).length ≠ 0 := by rw [Go.Lib.decDigits_length]; have := Go.Lib.nDigits_pos u; omega
  cases h : decDigits u with
  | nil => rw [h] at h1; exact absurd rfl h1
  | cons c r => exact ⟨c, r, rfl, digits_all u c (by rw [h]; simp)⟩
theorem reads_dg {u : Nat} (hu : u < 18446744073709551616) {l : List UInt8} (hl : soft l = true) : reads (dg u) l := by
  obtain ⟨c, r, e, hc⟩ := digits_cons u
  have hstop : ∀ c r, l = c :: r -> Lx.digitB (num c) = false /\ letterB (num c) = false := fun c r e => by
    have := word_stops hl c r e
    unfold Lx.wordB at this
    simpa [and_comm] using this
  have hle := lead_all_then (p := Lx.digitB) (decDigits u) l (digits_all u) (fun c r e => (hstop c r e).1)
  have hlet : letterB (num c) = false := Lx.letter_no (by have := Lx.digit_is hc; omega)
  refine ⟨by show decDigits u ≠ []; rw [e]; simp, ?_, fun k => ?_⟩
  · show blanks false (decDigits u ++ l) = 0
    rw [e, List.cons_append]; exact blanks_zero (digit_blank hc)
  · show readTok (decDigits u ++ l) k = _
    have hd : Lx.digitTok (decDigits u ++ l) k = some ((dg u).at k) := by
      unfold Lx.digitTok
      rw [hle, List.drop_left, List.take_left, numFrom_dec u hu]
      have : Lx.startsLetter l = false := by
        cases l with
        | nil => rfl
        | cons c r => exact (hstop c r rfl).2
      rw [this]; rfl
    rw [e, List.cons_append] at hd ⊢
    unfold readTok
    simp only [hlet, hc, Bool.false_eq_true, if_false, if_true, hd]
end Go.Proofs.YtfginegegaokbaaGreatDoor.Pr
namespace Go.Proofs.YtfginegegaokbaaGreatDoor.Pr
open Go.Lib (decDigits)
open Lx (Tok)
def gT : Nat -> Tree -> Prop
  | 0, _ => False
  | n + 1, t =>
    (t.kind = 0 /\ t.op = 0 /\ t.name = ⟨#[]⟩ /\ t.value < 18446744073709551616 /\ t.kids = []) \/
    (t.kind = 1 /\ t.op = 0 /\ isName t.name /\ t.value = 0 /\ t.kids = []) \/
    (t.kind = 2 /\ t.op = 0 /\ isName t.name /\ t.value = 0 /\ ∃ a, t.kids = [a] /\ gT n a) \/
    (t.kind = 3 /\ 0 <= t.op /\ t.op <= 9 /\ t.name = ⟨#[]⟩ /\ t.value = 0 /\ ∃ a b, t.kids = [a, b] /\ gT n a /\ gT n b) \/
    (t.kind = 4 /\ t.op = 0 /\ t.name = ⟨#[]⟩ /\ t.value = 0 /\ ∃ a, t.kids = [a] /\ gT n a) \/
    (t.kind = 5 /\ t.op = 0 /\ t.name = ⟨#[]⟩ /\ t.value = 0 /\ ∃ a b c, t.kids = [a, b, c] /\ gT n a /\ gT n b /\ gT n c)

def eits : Nat -> Tree -> Nat -> List It
  | 0, _, _ => []
  | n + 1, t, p =>
    let pt : Nat -> Nat -> List It := fun i q => match t.kids[i]? with | some k => eits n k q | none => []
    let bin : List It := pt 0 (tightN t.op) ++ [iG [32], iS (sn (signL t.op.toNat)), iG [32]] ++ pt 1 (tightN t.op + 1)
    if t.kind = 0 then [iS (dg t.value)]
    else if t.kind = 1 then [iS (wd t.name)]
    else if t.kind = 2 then [iS (wd t.name), iS (sn [91])] ++ pt 0 0 ++ [iS (sn [93])]
    else if t.kind = 3 then (if tightN t.op < p then [iS (sn [40])] ++ bin ++ [iS (sn [41])] else bin)
    else if t.kind = 4 then [iS (sn [126])] ++ pt 0 9
    else [iS (kw kPick), iS (sn [40])] ++ pt 0 0 ++ [iS (sn [44]), iG [32]] ++ pt 1 0 ++ [iS (sn [44]), iG [32]] ++ pt 2 0 ++ [iS (sn [41])]

theorem eits_0 {n : Nat} {t : Tree} {p : Nat} (h : t.kind = 0) : eits (n + 1) t p = [iS (dg t.value)] := by simp [eits, h]
theorem eits_1 {n : Nat} {t : Tree} {p : Nat} (h : t.kind = 1) : eits (n + 1) t p = [iS (wd t.name)] := by simp [eits, h]
theorem eits_2 {n : Nat} {t a : Tree} {p : Nat} (h : t.kind = 2) (hk : t.kids = [a]) : eits (n + 1) t p = [iS (wd t.name), iS (sn [91])] ++ eits n a 0 ++ [iS (sn [93])] := by simp [eits, h, hk]
def ebin (n : Nat) (op : Int) (a b : Tree) : List It := eits n a (tightN op) ++ [iG [32], iS (sn (signL op.toNat)), iG [32]] ++ eits n b (tightN op + 1)
theorem eits_3 {n : Nat} {t a b : Tree} {p : Nat} (h : t.kind = 3) (hk : t.kids = [a, b]) : eits (n + 1) t p = if tightN t.op < p then [iS (sn [40])] ++ ebin n t.op a b ++ [iS (sn [41])] else ebin n t.op a b := by simp [eits, h, hk, ebin]
theorem eits_4 {n : Nat} {t a : Tree} {p : Nat} (h : t.kind = 4) (hk : t.kids = [a]) : eits (n + 1) t p = [iS (sn [126])] ++ eits n a 9 := by simp [eits, h, hk]
theorem eits_5 {n : Nat} {t a b c : Tree} {p : Nat} (h : t.kind = 5) (hk : t.kids = [a, b, c]) : eits (n + 1) t p = [iS (kw kPick), iS (sn [40])] ++ eits n a 0 ++ [iS (sn [44]), iG [32]] ++ eits n b 0 ++ [iS (sn [44]), iG [32]] ++ eits n c 0 ++ [iS (sn [41])] := by simp [eits, h, hk]

def dpE : Nat -> Tree -> Nat -> Nat
  | 0, _, _ => 0
  | n + 1, t, p =>
    let pt : Nat -> Nat -> Nat := fun i q => match t.kids[i]? with | some k => dpE n k q | none => 0
    let bin : Nat := max (pt 0 (tightN t.op)) (1 + pt 1 (tightN t.op + 1))
    if t.kind = 2 then 1 + pt 0 0
    else if t.kind = 3 then (if tightN t.op < p then 1 + bin else bin)
    else if t.kind = 4 then 1 + pt 0 9
    else if t.kind = 5 then 1 + max (pt 0 0) (max (pt 1 0) (pt 2 0))
    else 0
theorem dp_2 {n : Nat} {t a : Tree} {p : Nat} (h : t.kind = 2) (hk : t.kids = [a]) : dpE (n + 1) t p = 1 + dpE n a 0 := by simp [dpE, h, hk]
theorem dp_3 {n : Nat} {t a b : Tree} {p : Nat} (h : t.kind = 3) (hk : t.kids = [a, b]) : dpE (n + 1) t p = if tightN t.op < p then 1 + max (dpE n a (tightN t.op)) (1 + dpE n b (tightN t.op + 1)) else max (dpE n a (tightN t.op)) (1 + dpE n b (tightN t.op + 1)) := by simp [dpE, h, hk]
theorem dp_4 {n : Nat} {t a : Tree} {p : Nat} (h : t.kind = 4) (hk : t.kids = [a]) : dpE (n + 1) t p = 1 + dpE n a 9 := by simp [dpE, h, hk]
theorem dp_5 {n : Nat} {t a b c : Tree} {p : Nat} (h : t.kind = 5) (hk : t.kids = [a, b, c]) : dpE (n + 1) t p = 1 + max (dpE n a 0) (max (dpE n b 0) (dpE n c 0)) := by simp [dpE, h, hk]
theorem dp_le : ∀ (n : Nat) (t : Tree) (p : Nat), gT n t -> dpE n t p + 2 <= 2 * n
  | 0, _, _, h => h.elim
  | n + 1, t, p, h => by
    rcases h with ⟨h, _⟩ | ⟨h, _⟩ | ⟨h, _, _, _, a, hk, ha⟩ | ⟨h, h0, h1, _, _, a, b, hk, ha, hb⟩ | ⟨h, _, _, _, a, hk, ha⟩ | ⟨h, _, _, _, a, b, c, hk, ha, hb, hc⟩
    · simp [dpE, h]; omega
    · simp [dpE, h]; omega
    · rw [dp_2 h hk]; have := dp_le n a 0 ha; omega
    · rw [dp_3 h hk]; have := dp_le n a (tightN t.op) ha; have := dp_le n b (tightN t.op + 1) hb; split <;> omega
    · rw [dp_4 h hk]; have := dp_le n a 9 ha; omega
    · rw [dp_5 h hk]; have := dp_le n a 0 ha; have := dp_le n b 0 hb; have := dp_le n c 0 hc; omega

theorem tight_pos {op : Int} (h0 : 0 <= op) (h1 : op <= 9) : 0 < tightN op := Nat.pos_of_ne_zero (tightN_pos op h0 h1)

theorem eits_flat : ∀ (n : Nat) (t : Tree) (p : Nat), gT n t -> flat (eits n t p) = etext n t p
  | 0, _, _, h => h.elim
  | n + 1, t, p, h => by
    rcases h with ⟨h, _⟩ | ⟨h, _⟩ | ⟨h, _, _, _, a, hk, ha⟩ | ⟨h, h0, h1, _, _, a, b, hk, ha, hb⟩ | ⟨h, _, _, _, a, hk, ha⟩ | ⟨h, _, _, _, a, b, c, hk, ha, hb, hc⟩
    · rw [eits_0 h, etext_lit n t p h]; simp [flat, iS, It.text, dg]
    · rw [eits_1 h, etext_name n t p h]; simp [flat, iS, It.text, wd]
    · rw [eits_2 h hk, etext_cell n t p h]
      have e : epart n t.kids 0 0 = etext n a 0 := epart_some (by rw [hk]; rfl) 0
      simp only [flat_append, eits_flat n a 0 ha, cellText, e]
      simp [flat, iS, It.text, wd, sn]
    · have hp := tight_pos h0 h1
      rw [eits_3 h hk, etext_bin n t p h]
      have e1 : epart n t.kids 0 (tightN t.op) = etext n a (tightN t.op) := epart_some (by rw [hk]; rfl) _
      have e2 : epart n t.kids 1 (tightN t.op + 1) = etext n b (tightN t.op + 1) := epart_some (by rw [hk]; rfl) _
      have e : flat (ebin n t.op a b) = binText n t := by
        unfold ebin binText
        simp only [flat_append, eits_flat n a _ ha, eits_flat n b _ hb, e1, e2]
        simp [flat, iS, iG, It.text, sn]
      unfold binTextAt
      rw [if_neg (show ¬ tightN t.op = 0 by omega)]
      split
      · simp only [flat_append, e]; simp [flat, iS, It.text, sn]
      · exact e
    · rw [eits_4 h hk, etext_not n t p h]
      have e : epart n t.kids 0 9 = etext n a 9 := epart_some (by rw [hk]; rfl) 9
      simp only [flat_append, eits_flat n a 9 ha, e]
      simp [flat, iS, It.text, sn]
    · rw [eits_5 h hk, etext_pick n t p h]
      have e1 : epart n t.kids 0 0 = etext n a 0 := epart_some (by rw [hk]; rfl) 0
      have e2 : epart n t.kids 1 0 = etext n b 0 := epart_some (by rw [hk]; rfl) 0
      have e3 : epart n t.kids 2 0 = etext n c 0 := epart_some (by rw [hk]; rfl) 0
      simp only [flat_append, eits_flat n a 0 ha, eits_flat n b 0 hb, eits_flat n c 0 hc, pickText, e1, e2, e3]
      simp [flat, iS, iG, It.text, sn, kw, kPick]

theorem gap_of {c : UInt8} (h : Lx.blankB (Lx.num c) = true) (h35 : Lx.num c ≠ 35) : isGap [c] := fun l => by
  show Lx.blanks false (c :: l) = 1 + Lx.blanks false l
  rw [Lx.blanks, if_neg h35]
  by_cases h10 : Lx.num c = 10
  · rw [if_pos h10]; omega
  · rw [if_neg h10, if_pos (by simp [h])]; omega
theorem gap_blank : isGap [32] := gap_of (by decide) (by decide)
theorem gap_append {a b : List UInt8} (ha : isGap a) (hb : isGap b) : isGap (a ++ b) := fun l => by rw [List.append_assoc, ha, hb, List.length_append]; omega
theorem gap_nil : isGap [] := fun l => by simp
theorem soft_cons {c : UInt8} (l : List UInt8) (h : soft [c] = true) : soft (c :: l) = true := h
theorem signL_reads (op : Nat) (h : op <= 9) (l : List UInt8) : reads (sn (signL op)) (32 :: l) := by
  have : op = 0 \/ op = 1 \/ op = 2 \/ op = 3 \/ op = 4 \/ op = 5 \/ op = 6 \/ op = 7 \/ op = 8 \/ op = 9 := by omega
  rcases this with rfl | rfl | rfl | rfl | rfl | rfl | rfl | rfl | rfl | rfl
  · exact reads_one (by decide) (by decide) _
  · exact reads_one (by decide) (by decide) _
  · exact reads_one (by decide) (by decide) _
  · exact reads_one (by decide) (by decide) _
  · exact reads_one (by decide) (by decide) _
  · exact reads_one (by decide) (by decide) _
  · exact reads_two (by decide) _
  · exact reads_two (by decide) _
  · exact reads_two (by decide) _
  · exact reads_thin (by decide) _
theorem okF_s {s : Sg} {is : List It} {l : List UInt8} (h : reads s (flat is ++ l)) (h2 : okF is l) : okF (iS s :: is) l := ⟨h, h2⟩
theorem okF_g {g : List UInt8} {is : List It} {l : List UInt8} (h : isGap g) (h2 : okF is l) : okF (iG g :: is) l := ⟨h, h2⟩
theorem okF_nil {l : List UInt8} : okF [] l := trivial
theorem wordText_of {x : List UInt8} (h : (match x with | c :: _ => Lx.letterB (Lx.num c) | [] => false) = true) (h2 : x.all (fun c => Lx.wordB (Lx.num c)) = true) : wordText x := by
  refine ⟨?_, fun c hc => List.all_eq_true.1 h2 c hc⟩
  cases x with
  | nil => cases h
  | cons c r => exact ⟨c, r, rfl, h⟩
theorem eits_ok : ∀ (n : Nat) (t : Tree) (p : Nat) (l : List UInt8), gT n t -> soft l = true -> okF (eits n t p) l
  | 0, _, _, _, h, _ => h.elim
  | n + 1, t, p, l, h, hl => by
    rcases h with ⟨h, _, _, hv, _⟩ | ⟨h, _, hn, _⟩ | ⟨h, _, hn, _, a, hk, ha⟩ | ⟨h, h0, h1, _, _, a, b, hk, ha, hb⟩ | ⟨h, _, _, _, a, hk, ha⟩ | ⟨h, _, _, _, a, b, c, hk, ha, hb, hc⟩
    · rw [eits_0 h]; exact okF_s (reads_dg hv hl) trivial
    · rw [eits_1 h]; exact okF_s (reads_wd hn hl) trivial
    · rw [eits_2 h hk]
      refine okF_append _ _ _ (okF_append _ _ _ (okF_s (reads_wd hn ?_) (okF_s (reads_one (by decide) (by decide) _) trivial)) (eits_ok n a 0 _ ha ?_)) (okF_s (reads_one (by decide) (by decide) _) trivial)
      · rfl
      · rfl
    · have hop : t.op.toNat <= 9 := by omega
      have e : ∀ l, soft l = true -> okF (ebin n t.op a b) l := fun l hl => by
        unfold ebin
        exact okF_append _ _ _ (okF_append _ _ _ (eits_ok n a _ _ ha rfl) (okF_g gap_blank (okF_s (signL_reads _ hop _) (okF_g gap_blank trivial)))) (eits_ok n b _ _ hb hl)
      rw [eits_3 h hk]
      split
      · exact okF_append _ _ _ (okF_append _ _ _ (okF_s (reads_one (by decide) (by decide) _) trivial) (e _ rfl)) (okF_s (reads_one (by decide) (by decide) _) trivial)
      · exact e l hl
    · rw [eits_4 h hk]
      exact okF_append _ _ _ (okF_s (reads_one (by decide) (by decide) _) trivial) (eits_ok n a 9 _ ha hl)
    · rw [eits_5 h hk]
      refine okF_append _ _ _ (okF_append _ _ _ (okF_append _ _ _ (okF_append _ _ _ (okF_append _ _ _ (okF_append _ _ _ (okF_s (reads_kw (wordText_of (by decide) (by decide)) (by decide) rfl) (okF_s (reads_one (by decide) (by decide) _) trivial)) (eits_ok n a 0 _ ha rfl)) ?_) (eits_ok n b 0 _ hb rfl)) ?_) (eits_ok n c 0 _ hc rfl)) (okF_s (reads_one (by decide) (by decide) _) trivial)
      · exact okF_s (reads_one (by decide) (by decide) _) (okF_g gap_blank trivial)
      · exact okF_s (reads_one (by decide) (by decide) _) (okF_g gap_blank trivial)

def tightAt (r : List Tok) : Nat := tightN (opOf (r.headD (endT 0)).text)
theorem loop_stop {ex : ExP} {tight deep k : Nat} {left : Tree} {r : Rd} (h : tightAt r.ts <= tight) : loopOf ex tight deep k left r = (left, r) := by
  cases k with
  | zero => rfl
  | succ k => unfold loopOf; rw [if_pos (by exact h)]
theorem op_not_end {r : Rd} (hg : r.good) {tight : Nat} (h : tight < tightN (opOf r.here.text)) : r.next.good /\ r.next.ts = r.ts.drop 1 /\ r.next.ts.length + 1 = r.ts.length := by
  rcases good_cases hg with ⟨k, _, e⟩ | ⟨_, _, _, h1, h2, h3⟩
  · rw [e] at h
    have : tightN (opOf (endT k).text) = 0 := by show tightN (opOf []) = 0; decide
    omega
  · exact ⟨h1, h2, h3⟩
theorem loop_fuel {ex : ExP} (hE : ToE ex) {tight deep : Nat} : ∀ (k j : Nat) (left : Tree) (r : Rd), r.good -> r.ts.length <= k -> r.ts.length <= j -> loopOf ex tight deep k left r = loopOf ex tight deep j left r
  | 0, j, left, r, hg, hk, _ => by have := hg.pos; omega
  | k + 1, 0, left, r, hg, _, hj => by have := hg.pos; omega
  | k + 1, j + 1, left, r, hg, hk, hj => by
    unfold loopOf
    by_cases ht : tightN (opOf r.here.text) <= tight
    · rw [if_pos ht, if_pos ht]
    · rw [if_neg ht, if_neg ht]
      obtain ⟨h1, _, h3⟩ := op_not_end hg (Nat.lt_of_not_le ht)
      have hq := hE (tightN (opOf r.here.text)) (deep + 1) r.next
      have := hq.2.1 h1
      exact loop_fuel hE k j _ _ (hq.1 h1) (by omega) (by omega)

def eqT : Nat -> Tree -> Tree -> Prop
  | 0, _, _ => False
  | n + 1, s, t => s.kind = t.kind /\ s.op = t.op /\ s.name = t.name /\ s.value = t.value /\ s.kids.length = t.kids.length /\ ∀ (i : Nat) (x y : Tree), s.kids[i]? = some x -> t.kids[i]? = some y -> eqT n x y
theorem eqT_0 {n : Nat} {s t : Tree} (h1 : s.kind = t.kind) (h2 : s.op = t.op) (h3 : s.name = t.name) (h4 : s.value = t.value) (hs : s.kids = []) (ht : t.kids = []) : eqT (n + 1) s t :=
  ⟨h1, h2, h3, h4, by rw [hs, ht], fun i x y hx _ => by rw [hs] at hx; simp at hx⟩
theorem eqT_1 {n : Nat} {s t a b : Tree} (h1 : s.kind = t.kind) (h2 : s.op = t.op) (h3 : s.name = t.name) (h4 : s.value = t.value) (hs : s.kids = [a]) (ht : t.kids = [b]) (h : eqT n a b) : eqT (n + 1) s t :=
  ⟨h1, h2, h3, h4, by rw [hs, ht]; rfl, fun i x y hx hy => by
    rw [hs] at hx; rw [ht] at hy
    match i, hx, hy with
    | 0, hx, hy => simp at hx hy; subst hx hy; exact h⟩
theorem eqT_2 {n : Nat} {s t a b c d : Tree} (h1 : s.kind = t.kind) (h2 : s.op = t.op) (h3 : s.name = t.name) (h4 : s.value = t.value) (hs : s.kids = [a, b]) (ht : t.kids = [c, d]) (h : eqT n a c) (h' : eqT n b d) : eqT (n + 1) s t :=
  ⟨h1, h2, h3, h4, by rw [hs, ht]; rfl, fun i x y hx hy => by
    rw [hs] at hx; rw [ht] at hy
    match i, hx, hy with
    | 0, hx, hy => simp at hx hy; subst hx hy; exact h
    | 1, hx, hy => simp at hx hy; subst hx hy; exact h'⟩
theorem eqT_3 {n : Nat} {s t a b c d e f : Tree} (h1 : s.kind = t.kind) (h2 : s.op = t.op) (h3 : s.name = t.name) (h4 : s.value = t.value) (hs : s.kids = [a, b, c]) (ht : t.kids = [d, e, f]) (h : eqT n a d) (h' : eqT n b e) (h'' : eqT n c f) : eqT (n + 1) s t :=
  ⟨h1, h2, h3, h4, by rw [hs, ht]; rfl, fun i x y hx hy => by
    rw [hs] at hx; rw [ht] at hy
    match i, hx, hy with
    | 0, hx, hy => simp at hx hy; subst hx hy; exact h
    | 1, hx, hy => simp at hx hy; subst hx hy; exact h'
    | 2, hx, hy => simp at hx hy; subst hx hy; exact h''⟩

theorem here_cons (t : Tok) (us : List Tok) (e : Option (Nat × Nat)) : (Rd.mk (t :: us) e).here = t := rfl
theorem next_cons (t : Tok) {us : List Tok} (h : us ≠ []) (e : Option (Nat × Nat)) : (Rd.mk (t :: us) e).next = ⟨us, e⟩ := by
  cases us with
  | nil => exact absurd rfl h
  | cons a b => simp [Rd.next]
theorem is_cons (t : Tok) (us : List Tok) (e : Option (Nat × Nat)) (s : List UInt8) : (Rd.mk (t :: us) e).is s = (t.text == s) := rfl
theorem want_cons {t : Tok} {us : List Tok} (h : us ≠ []) (e : Option (Nat × Nat)) {s : List UInt8} (ht : t.text = s) : (Rd.mk (t :: us) e).want s = ⟨us, e⟩ := by
  unfold Rd.want
  rw [is_cons, ht, beq_self_eq_true, if_pos rfl, next_cons t h]
theorem name_cons {t : Tok} {us : List Tok} (h : us ≠ []) (e : Option (Nat × Nat)) (ht : t.kind = 1) : (Rd.mk (t :: us) e).name = (t.text, ⟨us, e⟩) := by
  unfold Rd.name
  rw [here_cons, if_pos ht, next_cons t h]
def goodL (r : List Tok) : Prop := (⟨r, none⟩ : Rd).good
theorem goodL.ne {r : List Tok} (h : goodL r) : r ≠ [] := by have := Rd.good.pos h; intro e; subst e; simp at this
theorem goodL.app {us r : List Tok} (hu : ∀ t ∈ us, t.kind ≠ 0 /\ t.text ≠ []) (h : goodL r) : goodL (us ++ r) := by
  obtain ⟨vs, k, e, hv⟩ := h
  refine ⟨us ++ vs, k, ?_, fun t ht => ?_⟩
  · show us ++ r = _; rw [show r = vs ++ [endT k] from e, List.append_assoc]
  · rcases List.mem_append.1 ht with h | h
    · exact hu t h
    · exact hv t h
def sOK (s : Sg) : Prop := s.kind ≠ 0 /\ s.text ≠ []
theorem toks_ok {us : List Tok} {ss : List Sg} (h : us.map sgOf = ss) (hs : ∀ s ∈ ss, sOK s) : ∀ t ∈ us, t.kind ≠ 0 /\ t.text ≠ [] := fun t ht =>
  hs (sgOf t) (by rw [<- h]; exact List.mem_map.2 ⟨t, ht, rfl⟩)
theorem wd_ok {s : ByteArray} (h : isName s) : sOK (wd s) := ⟨by simp [wd], by obtain ⟨⟨⟨c, r, e, _⟩, _⟩, _⟩ := h; show bys s ≠ []; rw [e]; simp⟩
theorem dg_ok (n : Nat) : sOK (dg n) := ⟨by simp [dg], by obtain ⟨c, r, e, _⟩ := digits_cons n; show decDigits n ≠ []; rw [e]; simp⟩
theorem sn_ok {x : List UInt8} (h : x ≠ []) : sOK (sn x) := ⟨by simp [sn], h⟩
theorem kw_ok {x : List UInt8} (h : x ≠ []) : sOK (kw x) := ⟨by simp [kw], h⟩
theorem signL_ne (op : Nat) (h : op <= 9) : signL op ≠ [] := by
  have : op = 0 \/ op = 1 \/ op = 2 \/ op = 3 \/ op = 4 \/ op = 5 \/ op = 6 \/ op = 7 \/ op = 8 \/ op = 9 := by omega
  rcases this with rfl | rfl | rfl | rfl | rfl | rfl | rfl | rfl | rfl | rfl <;> decide
theorem eits_sok : ∀ (n : Nat) (t : Tree) (p : Nat), gT n t -> ∀ s ∈ sgs (eits n t p), sOK s
  | 0, _, _, h => h.elim
  | n + 1, t, p, h => by
    rcases h with ⟨h, _, _, hv, _⟩ | ⟨h, _, hn, _⟩ | ⟨h, _, hn, _, a, hk, ha⟩ | ⟨h, h0, h1, _, _, a, b, hk, ha, hb⟩ | ⟨h, _, _, _, a, hk, ha⟩ | ⟨h, _, _, _, a, b, c, hk, ha, hb, hc⟩
    · rw [eits_0 h]; intro s hs; obtain rfl : s = dg t.value := by simpa [sgs, iS] using hs
      exact dg_ok _
    · rw [eits_1 h]; intro s hs; obtain rfl : s = wd t.name := by simpa [sgs, iS] using hs
      exact wd_ok hn
    · rw [eits_2 h hk]
      intro s hs
      simp only [sgs_append, List.mem_append] at hs
      rcases hs with (hs | hs) | hs
      · simp [sgs, iS] at hs; rcases hs with rfl | rfl
        · exact wd_ok hn
        · exact sn_ok (by simp)
      · exact eits_sok n a 0 ha s hs
      · simp [sgs, iS] at hs; subst hs; exact sn_ok (by simp)
    · have hop : t.op.toNat <= 9 := by omega
      have e : ∀ s ∈ sgs (ebin n t.op a b), sOK s := fun s hs => by
        unfold ebin at hs
        simp only [sgs_append, List.mem_append] at hs
        rcases hs with (hs | hs) | hs
        · exact eits_sok n a _ ha s hs
        · simp [sgs, iS, iG] at hs; subst hs; exact sn_ok (signL_ne _ hop)
        · exact eits_sok n b _ hb s hs
      rw [eits_3 h hk]
      split
      · intro s hs
        simp only [sgs_append, List.mem_append] at hs
        rcases hs with (hs | hs) | hs
        · simp [sgs, iS] at hs; subst hs; exact sn_ok (by simp)
        · exact e s hs
        · simp [sgs, iS] at hs; subst hs; exact sn_ok (by simp)
      · exact e
    · rw [eits_4 h hk]
      intro s hs
      simp only [sgs_append, List.mem_append] at hs
      rcases hs with hs | hs
      · simp [sgs, iS] at hs; subst hs; exact sn_ok (by simp)
      · exact eits_sok n a 9 ha s hs
    · rw [eits_5 h hk]
      intro s hs
      simp only [sgs_append, List.mem_append] at hs
      rcases hs with (((((hs | hs) | hs) | hs) | hs) | hs) | hs
      · simp [sgs, iS] at hs; rcases hs with rfl | rfl
        · exact kw_ok (by decide)
        · exact sn_ok (by simp)
      · exact eits_sok n a 0 ha s hs
      · simp [sgs, iS, iG] at hs; subst hs; exact sn_ok (by simp)
      · exact eits_sok n b 0 hb s hs
      · simp [sgs, iS, iG] at hs; subst hs; exact sn_ok (by simp)
      · exact eits_sok n c 0 hc s hs
      · simp [sgs, iS] at hs; subst hs; exact sn_ok (by simp)

def notOpen (r : List Tok) : Prop := (r.headD (endT 0)).text ≠ [91]
def UnC (n : Nat) : Prop := ∀ (t : Tree) (p f deep : Nat) (us r : List Tok), gT n t -> (t.kind = 3 -> tightN t.op < p) -> us.map sgOf = sgs (eits n t p) -> goodL r -> notOpen r -> deep + dpE n t p <= 40 -> 41 <= deep + f ->
  ∃ t', unaryP f deep ⟨us ++ r, none⟩ = (t', ⟨r, none⟩) /\ eqT n t' t
def ExC (n : Nat) : Prop := ∀ (t : Tree) (p f tight deep : Nat) (us r : List Tok), gT n t -> (tight < p \/ tight = 0) -> tightAt r <= p -> us.map sgOf = sgs (eits n t p) -> goodL r -> notOpen r -> deep + dpE n t p <= 40 -> 41 <= deep + f ->
  ∃ t', exprP f tight deep ⟨us ++ r, none⟩ = loopOf (exprP (f - 1)) tight deep r.length t' ⟨r, none⟩ /\ eqT n t' t
theorem ExC.whole {n : Nat} (h : ExC n) (t : Tree) (p f deep : Nat) (us r : List Tok) (hg : gT n t) (ht : tightAt r = 0) (hu : us.map sgOf = sgs (eits n t p)) (hr : goodL r) (ho : notOpen r) (hd : deep + dpE n t p <= 40) (hf : 41 <= deep + f) :
    ∃ t', exprP f 0 deep ⟨us ++ r, none⟩ = (t', ⟨r, none⟩) /\ eqT n t' t := by
  obtain ⟨t', e, h'⟩ := h t p f 0 deep us r hg (Or.inr rfl) (by omega) hu hr ho hd hf
  exact ⟨t', by rw [e, loop_stop (by show tightAt r <= 0; omega)], h'⟩
theorem opOf_sign (op : Int) (h0 : 0 <= op) (h1 : op <= 9) : opOf (signL op.toNat) = op := by
  obtain ⟨k, rfl⟩ : ∃ k : Nat, op = k := ⟨op.toNat, by omega⟩
  have : k = 0 \/ k = 1 \/ k = 2 \/ k = 3 \/ k = 4 \/ k = 5 \/ k = 6 \/ k = 7 \/ k = 8 \/ k = 9 := by omega
  rcases this with rfl | rfl | rfl | rfl | rfl | rfl | rfl | rfl | rfl | rfl <;> decide
theorem signL_open (op : Nat) : signL op ≠ [91] := by
  unfold signL
  match op with
  | 0 => decide
  | 1 => decide
  | 2 => decide
  | 3 => decide
  | 4 => decide
  | 5 => decide
  | 6 => decide
  | 7 => decide
  | 8 => decide
  | 9 => decide
  | n + 10 => simp
theorem gT_pos {n : Nat} {t : Tree} (h : gT n t) : 1 <= n := by
  cases n with
  | zero => exact h.elim
  | succ n => omega
theorem bin_back {n : Nat} (ih : ExC n) (op : Int) (a b : Tree) (f tight deep : Nat) (us r : List Tok) (ha : gT n a) (hb : gT n b) (h0 : 0 <= op) (h1 : op <= 9) (ht : tight < tightN op) (hr : tightAt r <= tightN op) (hu : us.map sgOf = sgs (ebin n op a b)) (hg : goodL r) (ho : notOpen r)
    (hd : deep + max (dpE n a (tightN op)) (1 + dpE n b (tightN op + 1)) <= 40) (hf : 41 <= deep + f) : ∃ a' b', exprP f tight deep ⟨us ++ r, none⟩ = loopOf (exprP (f - 1)) tight deep r.length (opT op a' b') ⟨r, none⟩ /\ eqT n a' a /\ eqT n b' b := by
  have hn := gT_pos ha
  have hop : op.toNat <= 9 := by omega
  unfold ebin at hu
  simp only [sgs_append] at hu
  obtain ⟨us1, ub, rfl, hu1, hub⟩ := List.map_eq_append_iff.1 hu
  obtain ⟨ua, um, rfl, hua, hum⟩ := List.map_eq_append_iff.1 hu1
  have hum' : um.map sgOf = [sn (signL op.toNat)] := hum
  obtain ⟨o, um', rfl, ho1, hum2⟩ := List.map_eq_cons_iff.1 hum'
  obtain rfl : um' = [] := by simpa using hum2
  have hot : o.text = signL op.toNat := congrArg Sg.text ho1
  have hok : ∀ t ∈ ub, t.kind ≠ 0 /\ t.text ≠ [] := toks_ok hub (eits_sok n b _ hb)
  have hgb : goodL (ub ++ r) := hg.app hok
  have hgo : goodL (o :: (ub ++ r)) := goodL.app (us := [o]) (toks_ok hum' (fun s hs => by simp at hs; subst hs; exact sn_ok (signL_ne _ hop))) hgb
  have hto : tightAt (o :: (ub ++ r)) = tightN op := by unfold tightAt; simp only [List.headD_cons]; rw [hot, opOf_sign op h0 h1]
  obtain ⟨a', ea, qa⟩ := ih a (tightN op) f tight deep ua (o :: (ub ++ r)) ha (Or.inl ht) (by rw [hto]; exact Nat.le_refl _) hua hgo (by unfold notOpen; simp only [List.headD_cons]; rw [hot]; exact signL_open _) (by omega) hf
  obtain ⟨b', eb, qb⟩ := ih b (tightN op + 1) (f - 1) (tightN op) (deep + 1) ub r hb (Or.inl (by omega)) (by omega) hub hg ho (by omega) (by omega)
  rw [loop_stop (by exact hr)] at eb
  refine ⟨a', b', ?_, qa, qb⟩
  have e1 : ua ++ [o] ++ ub ++ r = ua ++ (o :: (ub ++ r)) := by simp
  rw [e1, ea]
  have e2 : (o :: (ub ++ r)).length = (ub ++ r).length + 1 := rfl
  rw [e2]
  have hne : ub ++ r ≠ [] := hgb.ne
  rw [loopOf, here_cons, hot, opOf_sign op h0 h1, if_neg (by omega), next_cons o hne, eb]
  refine loop_fuel (to_expr _) _ _ _ _ hg ?_ (Nat.le_refl _)
  show r.length <= (ub ++ r).length
  simp

theorem word_ne {s : ByteArray} (h : isName s) {x : List UInt8} (hx : (match x with | c :: _ => Lx.letterB (Lx.num c) | [] => false) = false) : bys s ≠ x := by
  obtain ⟨⟨⟨c, r, e, hc⟩, _⟩, _⟩ := h
  intro he
  rw [<- he, e] at hx
  simp only at hx
  rw [hc] at hx; cases hx
theorem name_ne_key {s : ByteArray} (h : isName s) {x : List UInt8} (hx : Lx.keyB x = true) : bys s ≠ x := fun e => by rw [<- e, h.2] at hx; cases hx
theorem dec_ne {n : Nat} {x : List UInt8} (hx : (match x with | c :: _ => Lx.digitB (Lx.num c) | [] => false) = false) : decDigits n ≠ x := by
  obtain ⟨c, r, e, hc⟩ := digits_cons n
  intro he
  rw [<- he, e] at hx
  simp only at hx
  rw [hc] at hx; cases hx

theorem un_succ {n : Nat} (ihU : UnC n) (ihE : ExC n) : UnC (n + 1) := by
  intro t p f deep us r hg h3 hu hr ho hd hf
  obtain ⟨f, rfl⟩ : ∃ g, f = g + 1 := ⟨f - 1, by omega⟩
  have hdeep : ¬ 40 < deep := by omega
  rw [unaryP_succ]
  rcases hg with ⟨h, h2, h4, hv, hk⟩ | ⟨h, h2, hn, hv, hk⟩ | ⟨h, h2, hn, hv, a, hk, ha⟩ | ⟨h, h0, h1, h4, hv, a, b, hk, ha, hb⟩ | ⟨h, h2, h4, hv, a, hk, ha⟩ | ⟨h, h2, h4, hv, a, b, c, hk, ha, hb, hc⟩
  · rw [eits_0 h] at hu
    have hu' : us.map sgOf = [dg t.value] := hu
    obtain ⟨x, us', rfl, hx, hus⟩ := List.map_eq_cons_iff.1 hu'
    obtain rfl : us' = [] := by simpa using hus
    have hxk : x.kind = 3 := congrArg Sg.kind hx
    have hxt : x.text = decDigits t.value := congrArg Sg.text hx
    have hxv : x.value = t.value := congrArg Sg.value hx
    refine ⟨⟨0, 0, ⟨#[]⟩, x.value, [], x.at_⟩, ?_, eqT_0 h.symm h2.symm h4.symm hxv rfl hk⟩
    unfold unaryOf
    simp only [List.cons_append, List.nil_append, here_cons, next_cons x hr.ne]
    rw [if_neg (by simp [beginsB, hxk]), if_neg hdeep, if_neg (by rw [hxt]; exact dec_ne (by decide)), if_neg (by rw [hxt]; exact dec_ne (by decide)), if_neg (by rw [hxt]; exact dec_ne (by decide)), if_pos hxk]
  · rw [eits_1 h] at hu
    have hu' : us.map sgOf = [wd t.name] := hu
    obtain ⟨x, us', rfl, hx, hus⟩ := List.map_eq_cons_iff.1 hu'
    obtain rfl : us' = [] := by simpa using hus
    have hxk : x.kind = 1 := congrArg Sg.kind hx
    have hxt : x.text = bys t.name := congrArg Sg.text hx
    refine ⟨⟨1, 0, bstr x.text, 0, [], x.at_⟩, ?_, eqT_0 h.symm h2.symm (by show bstr x.text = _; rw [hxt, bstr_bys]) hv.symm rfl hk⟩
    unfold unaryOf
    simp only [List.cons_append, List.nil_append, here_cons, next_cons x hr.ne]
    rw [if_neg (by simp [beginsB, hxk]), if_neg hdeep, if_neg (by rw [hxt]; exact word_ne hn (by decide)), if_neg (by rw [hxt]; exact name_ne_key hn (by decide)), if_neg (by rw [hxt]; exact word_ne hn (by decide)), if_neg (by rw [hxk]; decide)]
    unfold namedOf
    rw [if_neg (by
      intro e
      exact ho (by simpa [Rd.is, Rd.here] using e))]
  · rw [eits_2 h hk] at hu
    rw [dp_2 h hk] at hd
    have hu' : us.map sgOf = wd t.name :: sn [91] :: (sgs (eits n a 0) ++ [sn [93]]) := by simpa [sgs_append, sgs, iS] using hu
    obtain ⟨x, us1, rfl, hx, hu1⟩ := List.map_eq_cons_iff.1 hu'
    obtain ⟨y, us2, rfl, hy, hu2⟩ := List.map_eq_cons_iff.1 hu1
    obtain ⟨ua, uz, rfl, hua, huz⟩ := List.map_eq_append_iff.1 hu2
    obtain ⟨z, uz', rfl, hz, huz2⟩ := List.map_eq_cons_iff.1 huz
    obtain rfl : uz' = [] := by simpa using huz2
    have hxk : x.kind = 1 := congrArg Sg.kind hx
    have hxt : x.text = bys t.name := congrArg Sg.text hx
    have hyt : y.text = [91] := congrArg Sg.text hy
    have hzt : z.text = [93] := congrArg Sg.text hz
    have hgz : goodL (z :: r) := goodL.app (us := [z]) (toks_ok huz (fun s hs => by simp at hs; subst hs; exact sn_ok (by simp))) hr
    have hga : goodL (ua ++ (z :: r)) := hgz.app (toks_ok hua (eits_sok n a _ ha))
    obtain ⟨a', ea, qa⟩ := ihE.whole a 0 f (deep + 1) ua (z :: r) ha (by unfold tightAt; simp only [List.headD_cons]; rw [hzt]; decide) hua hgz (by unfold notOpen; simp only [List.headD_cons]; rw [hzt]; decide) (by omega) (by omega)
    refine ⟨⟨2, 0, bstr x.text, 0, [a'], x.at_⟩, ?_, eqT_1 h.symm h2.symm (by show bstr x.text = _; rw [hxt, bstr_bys]) hv.symm rfl hk qa⟩
    have e1 : x :: y :: (ua ++ [z]) ++ r = x :: y :: (ua ++ (z :: r)) := by simp
    rw [e1]
    unfold unaryOf
    simp only [here_cons, next_cons x (show y :: (ua ++ (z :: r)) ≠ [] by simp)]
    rw [if_neg (by simp [beginsB, hxk]), if_neg hdeep, if_neg (by rw [hxt]; exact word_ne hn (by decide)), if_neg (by rw [hxt]; exact name_ne_key hn (by decide)), if_neg (by rw [hxt]; exact word_ne hn (by decide)), if_neg (by rw [hxk]; decide)]
    unfold namedOf
    rw [if_pos (by rw [is_cons, hyt]; rfl), next_cons y hga.ne, ea]
    simp only [want_cons hr.ne none hzt]
  · have hop : t.op.toNat <= 9 := by omega
    have hb3 := h3 h
    rw [eits_3 h hk, if_pos hb3] at hu
    rw [dp_3 h hk, if_pos hb3] at hd
    have hu' : us.map sgOf = sn [40] :: (sgs (ebin n t.op a b) ++ [sn [41]]) := by simpa [sgs_append, sgs, iS] using hu
    obtain ⟨x, us1, rfl, hx, hu1⟩ := List.map_eq_cons_iff.1 hu'
    obtain ⟨ua, uz, rfl, hua, huz⟩ := List.map_eq_append_iff.1 hu1
    obtain ⟨z, uz', rfl, hz, huz2⟩ := List.map_eq_cons_iff.1 huz
    obtain rfl : uz' = [] := by simpa using huz2
    have hxt : x.text = [40] := congrArg Sg.text hx
    have hzt : z.text = [41] := congrArg Sg.text hz
    have hgz : goodL (z :: r) := goodL.app (us := [z]) (toks_ok huz (fun s hs => by simp at hs; subst hs; exact sn_ok (by simp))) hr
    have htz : tightAt (z :: r) = 0 := by unfold tightAt; simp only [List.headD_cons]; rw [hzt]; decide
    obtain ⟨a', b', e, qa, qb⟩ := bin_back ihE t.op a b f 0 (deep + 1) ua (z :: r) ha hb h0 h1 (tight_pos h0 h1) (by omega) hua hgz (by unfold notOpen; simp only [List.headD_cons]; rw [hzt]; decide) (by omega) (by omega)
    rw [loop_stop (by show tightAt (z :: r) <= 0; omega)] at e
    refine ⟨opT t.op a' b', ?_, eqT_2 h.symm rfl h4.symm hv.symm rfl hk qa qb⟩
    have e1 : x :: (ua ++ [z]) ++ r = x :: (ua ++ (z :: r)) := by simp
    rw [e1]
    unfold unaryOf
    simp only [here_cons, next_cons x (show ua ++ (z :: r) ≠ [] by simp)]
    rw [if_neg (by simp [beginsB, hxt]), if_neg hdeep, if_neg (by rw [hxt]; decide), if_neg (by rw [hxt]; decide), if_pos hxt, e]
    simp only [want_cons hr.ne none hzt]
  · rw [eits_4 h hk] at hu
    rw [dp_4 h hk] at hd
    have hu' : us.map sgOf = sn [126] :: sgs (eits n a 9) := by simpa [sgs_append, sgs, iS] using hu
    obtain ⟨x, ua, rfl, hx, hua⟩ := List.map_eq_cons_iff.1 hu'
    have hxt : x.text = [126] := congrArg Sg.text hx
    obtain ⟨a', ea, qa⟩ := ihU a 9 f (deep + 1) ua r ha (fun _ => by have := tightN_le a.op; omega) hua hr ho (by omega) (by omega)
    refine ⟨⟨4, 0, ⟨#[]⟩, 0, [a'], x.at_⟩, ?_, eqT_1 h.symm h2.symm h4.symm hv.symm rfl hk qa⟩
    unfold unaryOf
    simp only [List.cons_append, here_cons, next_cons x (show ua ++ r ≠ [] from fun e => hr.ne (by simp at e; exact e.2))]
    rw [if_neg (by simp [beginsB, hxt]), if_neg hdeep, if_pos hxt, ea]
  · rw [eits_5 h hk] at hu
    rw [dp_5 h hk] at hd
    have hu' : us.map sgOf = kw kPick :: sn [40] :: (sgs (eits n a 0) ++ (sn [44] :: (sgs (eits n b 0) ++ (sn [44] :: (sgs (eits n c 0) ++ [sn [41]]))))) := by simpa [sgs_append, sgs, iS, iG] using hu
    obtain ⟨x, us1, rfl, hx, hu1⟩ := List.map_eq_cons_iff.1 hu'
    obtain ⟨y, us2, rfl, hy, hu2⟩ := List.map_eq_cons_iff.1 hu1
    obtain ⟨ua, us3, rfl, hua, hu3⟩ := List.map_eq_append_iff.1 hu2
    obtain ⟨c1, us4, rfl, hc1, hu4⟩ := List.map_eq_cons_iff.1 hu3
    obtain ⟨ub, us5, rfl, hub, hu5⟩ := List.map_eq_append_iff.1 hu4
    obtain ⟨c2, us6, rfl, hc2, hu6⟩ := List.map_eq_cons_iff.1 hu5
    obtain ⟨uc, uz, rfl, huc, huz⟩ := List.map_eq_append_iff.1 hu6
    obtain ⟨z, uz', rfl, hz, huz2⟩ := List.map_eq_cons_iff.1 huz
    obtain rfl : uz' = [] := by simpa using huz2
    have hxt : x.text = kPick := congrArg Sg.text hx
    have hyt : y.text = [40] := congrArg Sg.text hy
    have hc1t : c1.text = [44] := congrArg Sg.text hc1
    have hc2t : c2.text = [44] := congrArg Sg.text hc2
    have hzt : z.text = [41] := congrArg Sg.text hz
    have one : ∀ (t : Tok) (s : List UInt8) (l : List Tok), sgOf t = sn s -> s ≠ [] -> goodL l -> goodL (t :: l) := fun t s l e hs hl => goodL.app (us := [t]) (fun x hx => by simp at hx; subst hx; exact ⟨by rw [show x.kind = 4 from congrArg Sg.kind e]; decide, by rw [show x.text = s from congrArg Sg.text e]; exact hs⟩) hl
    have hgz : goodL (z :: r) := one z _ r hz (by simp) hr
    have hgc : goodL (c2 :: (uc ++ (z :: r))) := one c2 _ _ hc2 (by simp) (hgz.app (toks_ok huc (eits_sok n c _ hc)))
    have hgb : goodL (c1 :: (ub ++ (c2 :: (uc ++ (z :: r))))) := one c1 _ _ hc1 (by simp) (hgc.app (toks_ok hub (eits_sok n b _ hb)))
    have zero : ∀ (t : Tok) (l : List Tok) (s : List UInt8), t.text = s -> tightN (opOf s) = 0 -> tightAt (t :: l) = 0 := fun t l s e h => by unfold tightAt; simp only [List.headD_cons]; rw [e]; exact h
    have nope : ∀ (t : Tok) (l : List Tok) (s : List UInt8), t.text = s -> s ≠ [91] -> notOpen (t :: l) := fun t l s e h => by unfold notOpen; simp only [List.headD_cons]; rw [e]; exact h
    obtain ⟨a', ea, qa⟩ := ihE.whole a 0 f (deep + 1) ua (c1 :: (ub ++ (c2 :: (uc ++ (z :: r))))) ha (zero _ _ _ hc1t (by decide)) hua hgb (nope _ _ _ hc1t (by decide)) (by omega) (by omega)
    obtain ⟨b', eb, qb⟩ := ihE.whole b 0 f (deep + 1) ub (c2 :: (uc ++ (z :: r))) hb (zero _ _ _ hc2t (by decide)) hub hgc (nope _ _ _ hc2t (by decide)) (by omega) (by omega)
    obtain ⟨c', ec, qc⟩ := ihE.whole c 0 f (deep + 1) uc (z :: r) hc (zero _ _ _ hzt (by decide)) huc hgz (nope _ _ _ hzt (by decide)) (by omega) (by omega)
    refine ⟨⟨5, 0, ⟨#[]⟩, 0, [a', b', c'], x.at_⟩, ?_, eqT_3 h.symm h2.symm h4.symm hv.symm rfl hk qa qb qc⟩
    have e1 : x :: y :: (ua ++ c1 :: (ub ++ c2 :: (uc ++ [z]))) ++ r = x :: y :: (ua ++ (c1 :: (ub ++ (c2 :: (uc ++ (z :: r)))))) := by simp
    rw [e1]
    unfold unaryOf
    simp only [here_cons, next_cons x (show y :: (ua ++ (c1 :: (ub ++ (c2 :: (uc ++ (z :: r)))))) ≠ [] by simp)]
    rw [if_neg (by simp [beginsB, hxt]), if_neg hdeep, if_neg (by rw [hxt]; decide), if_pos hxt]
    unfold threeOf
    simp only [want_cons (show ua ++ (c1 :: (ub ++ (c2 :: (uc ++ (z :: r))))) ≠ [] by simp) none hyt, ea, want_cons (show ub ++ (c2 :: (uc ++ (z :: r))) ≠ [] by simp) none hc1t, eb, want_cons (show uc ++ (z :: r) ≠ [] by simp) none hc2t, ec, want_cons hr.ne none hzt]

theorem ex_succ {n : Nat} (ihU : UnC n) (ihE : ExC n) : ExC (n + 1) := by
  intro t p f tight deep us r hg htp hrt hu hr ho hd hf
  have hU := un_succ ihU ihE
  by_cases hb : t.kind = 3 /\ ¬ tightN t.op < p
  · obtain ⟨h, hnp⟩ := hb
    rcases hg with ⟨h', _⟩ | ⟨h', _⟩ | ⟨h', _⟩ | ⟨_, h0, h1, h4, hv, a, b, hk, ha, hb⟩ | ⟨h', _⟩ | ⟨h', _⟩
    · rw [h] at h'; cases h'
    · rw [h] at h'; cases h'
    · rw [h] at h'; cases h'
    · rw [eits_3 h hk, if_neg hnp] at hu
      rw [dp_3 h hk, if_neg hnp] at hd
      have hp := tight_pos h0 h1
      obtain ⟨a', b', e, qa, qb⟩ := bin_back ihE t.op a b f tight deep us r ha hb h0 h1 (by omega) (by omega) hu hr ho (by omega) hf
      exact ⟨opT t.op a' b', e, eqT_2 h.symm rfl h4.symm hv.symm rfl hk qa qb⟩
    · rw [h] at h'; cases h'
    · rw [h] at h'; cases h'
  · obtain ⟨t', e, q⟩ := hU t p f deep us r hg (fun h => Decidable.byContradiction fun hn => hb ⟨h, hn⟩) hu hr ho hd hf
    obtain ⟨f, rfl⟩ : ∃ g, f = g + 1 := ⟨f - 1, by omega⟩
    refine ⟨t', ?_, q⟩
    rw [exprP_succ]
    unfold exprOf
    rw [e]
    rfl
theorem back_all : ∀ n, UnC n /\ ExC n
  | 0 => ⟨fun _ _ _ _ _ _ h => h.elim, fun _ _ _ _ _ _ _ h => h.elim⟩
  | n + 1 => ⟨un_succ (back_all n).1 (back_all n).2, ex_succ (back_all n).1 (back_all n).2⟩
end Go.Proofs.YtfginegegaokbaaGreatDoor.Pr
namespace Go.Proofs.YtfginegegaokbaaGreatDoor.Pr
open Go.Lib (decDigits itoa)
open Lx (Tok)
def gS (m : Nat) : Nat -> Stm -> Prop
  | 0, _ => False
  | n + 1, s =>
    (s.kind = 0 /\ isName s.name /\ (∃ e, s.exprs = [e] /\ gT m e) /\ s.count = 0 /\ s.body = [] /\ s.els = []) \/
    (s.kind = 1 /\ isName s.name /\ (∃ e, s.exprs = [e] /\ gT m e) /\ s.count = 0 /\ s.body = [] /\ s.els = []) \/
    (s.kind = 2 /\ isName s.name /\ (∃ a b, s.exprs = [a, b] /\ gT m a /\ gT m b) /\ s.count = 0 /\ s.body = [] /\ s.els = []) \/
    (s.kind = 3 /\ s.name = ⟨#[]⟩ /\ (∃ e, s.exprs = [e] /\ gT m e) /\ s.count = 0 /\ (∀ x ∈ s.body, gS m n x) /\ ∀ x ∈ s.els, gS m n x) \/
    (s.kind = 4 /\ isName s.name /\ s.exprs = [] /\ (∃ c : Nat, s.count = c /\ 1 <= c /\ c <= 256) /\ (∀ x ∈ s.body, gS m n x) /\ s.els = []) \/
    (s.kind = 5 /\ isName s.name /\ s.exprs = [] /\ s.count = 0 /\ s.body = [] /\ s.els = []) \/
    (s.kind = 6 /\ isName s.name /\ s.exprs = [] /\ s.count = 0 /\ s.body = [] /\ s.els = []) \/
    (s.kind = 7 /\ isName s.name /\ (∃ e, s.exprs = [e] /\ gT m e) /\ s.count = 0 /\ s.body = [] /\ s.els = []) \/
    (s.kind = 8 /\ s.name = ⟨#[]⟩ /\ s.exprs = [] /\ s.count = 0 /\ s.body = [] /\ s.els = []) \/
    (s.kind = 9 /\ s.name = ⟨#[]⟩ /\ (∃ e, s.exprs = [e] /\ gT m e) /\ s.count = 0 /\ s.body = [] /\ s.els = [])
def fitS (m : Nat) : Nat -> Nat -> Stm -> Prop
  | 0, _, _ => False
  | n + 1, deep, s => deep <= 40 /\ (∀ e ∈ s.exprs, deep + 1 + dpE m e 0 <= 40) /\ (∀ x ∈ s.body, fitS m n (deep + 1) x) /\ ∀ x ∈ s.els, fitS m n (deep + 1) x

def ends : List It := [iS (sn [59]), iG [10]]
def eit (m : Nat) (es : List Tree) (i : Nat) : List It := match es[i]? with | some e => eits m e 0 | none => []
def sits (m : Nat) : Nat -> Nat -> Stm -> List It
  | 0, _, _ => []
  | n + 1, d, s =>
    let blk : Nat -> List Stm -> List It := fun d ss => (ss.map fun x => sits m n d x).flatten
    if s.kind = 0 then [iG (tabs d), iS (kw kLocal), iG [32], iS (wd s.name), iG [32], iS (sn [61]), iG [32]] ++ eit m s.exprs 0 ++ ends
    else if s.kind = 1 then [iG (tabs d), iS (wd s.name), iG [32], iS (sn [61]), iG [32]] ++ eit m s.exprs 0 ++ ends
    else if s.kind = 2 then [iG (tabs d), iS (wd s.name), iS (sn [91])] ++ eit m s.exprs 0 ++ [iS (sn [93]), iG [32], iS (sn [61]), iG [32]] ++ eit m s.exprs 1 ++ ends
    else if s.kind = 3 then [iG (tabs d), iS (kw kIf), iG [32], iS (sn [40])] ++ eit m s.exprs 0 ++ [iS (sn [41]), iG [32], iS (sn [123]), iG [10]] ++ blk (d + 1) s.body ++
      (if s.els.length = 0 then [] else [iG (tabs d), iS (sn [125]), iG [32], iS (kw kElse), iG [32], iS (sn [123]), iG [10]] ++ blk (d + 1) s.els) ++ [iG (tabs d), iS (sn [125]), iG [10]]
    else if s.kind = 4 then [iG (tabs d), iS (kw kLoop), iG [32], iS (wd s.name), iG [32], iS (dg s.count.toNat), iG [32], iS (sn [123]), iG [10]] ++ blk (d + 1) s.body ++ [iG (tabs d), iS (sn [125]), iG [10]]
    else if s.kind = 5 then [iG (tabs d), iS (kw kTake), iG [32], iS (wd s.name)] ++ ends
    else if s.kind = 6 then [iG (tabs d), iS (kw kGive), iG [32], iS (wd s.name)] ++ ends
    else if s.kind = 7 then [iG (tabs d), iS (kw kAdd), iG [32], iS (wd s.name), iG [32]] ++ eit m s.exprs 0 ++ ends
    else if s.kind = 8 then [iG (tabs d), iS (kw kFence)] ++ ends
    else [iG (tabs d), iS (kw kOutput), iG [32]] ++ eit m s.exprs 0 ++ ends
def bits (m n d : Nat) (ss : List Stm) : List It := (ss.map fun x => sits m n d x).flatten
theorem sits_0 {m n d : Nat} {s : Stm} (h : s.kind = 0) : sits m (n + 1) d s = [iG (tabs d), iS (kw kLocal), iG [32], iS (wd s.name), iG [32], iS (sn [61]), iG [32]] ++ eit m s.exprs 0 ++ ends := by unfold sits; simp only [h]; rfl
theorem sits_1 {m n d : Nat} {s : Stm} (h : s.kind = 1) : sits m (n + 1) d s = [iG (tabs d), iS (wd s.name), iG [32], iS (sn [61]), iG [32]] ++ eit m s.exprs 0 ++ ends := by unfold sits; simp only [h]; rfl
theorem sits_2 {m n d : Nat} {s : Stm} (h : s.kind = 2) : sits m (n + 1) d s = [iG (tabs d), iS (wd s.name), iS (sn [91])] ++ eit m s.exprs 0 ++ [iS (sn [93]), iG [32], iS (sn [61]), iG [32]] ++ eit m s.exprs 1 ++ ends := by unfold sits; simp only [h]; rfl
theorem sits_3 {m n d : Nat} {s : Stm} (h : s.kind = 3) : sits m (n + 1) d s = [iG (tabs d), iS (kw kIf), iG [32], iS (sn [40])] ++ eit m s.exprs 0 ++ [iS (sn [41]), iG [32], iS (sn [123]), iG [10]] ++ bits m n (d + 1) s.body ++ (if s.els.length = 0 then [] else [iG (tabs d), iS (sn [125]), iG [32], iS (kw kElse), iG [32], iS (sn [123]), iG [10]] ++ bits m n (d + 1) s.els) ++ [iG (tabs d), iS (sn [125]), iG [10]] := by unfold sits; simp only [h]; rfl
theorem sits_4 {m n d : Nat} {s : Stm} (h : s.kind = 4) : sits m (n + 1) d s = [iG (tabs d), iS (kw kLoop), iG [32], iS (wd s.name), iG [32], iS (dg s.count.toNat), iG [32], iS (sn [123]), iG [10]] ++ bits m n (d + 1) s.body ++ [iG (tabs d), iS (sn [125]), iG [10]] := by unfold sits; simp only [h]; rfl
theorem sits_5 {m n d : Nat} {s : Stm} (h : s.kind = 5) : sits m (n + 1) d s = [iG (tabs d), iS (kw kTake), iG [32], iS (wd s.name)] ++ ends := by unfold sits; simp only [h]; rfl
theorem sits_6 {m n d : Nat} {s : Stm} (h : s.kind = 6) : sits m (n + 1) d s = [iG (tabs d), iS (kw kGive), iG [32], iS (wd s.name)] ++ ends := by unfold sits; simp only [h]; rfl
theorem sits_7 {m n d : Nat} {s : Stm} (h : s.kind = 7) : sits m (n + 1) d s = [iG (tabs d), iS (kw kAdd), iG [32], iS (wd s.name), iG [32]] ++ eit m s.exprs 0 ++ ends := by unfold sits; simp only [h]; rfl
theorem sits_8 {m n d : Nat} {s : Stm} (h : s.kind = 8) : sits m (n + 1) d s = [iG (tabs d), iS (kw kFence)] ++ ends := by unfold sits; simp only [h]; rfl
theorem sits_9 {m n d : Nat} {s : Stm} (h : s.kind = 9) : sits m (n + 1) d s = [iG (tabs d), iS (kw kOutput), iG [32]] ++ eit m s.exprs 0 ++ ends := by unfold sits; simp only [h]; rfl
theorem bits_cons (m n d : Nat) (s : Stm) (ss : List Stm) : bits m n d (s :: ss) = sits m n d s ++ bits m n d ss := by simp [bits]
theorem flat_bits (m n d : Nat) : ∀ ss : List Stm, (∀ s ∈ ss, flat (sits m n d s) = stext m n d s) -> flat (bits m n d ss) = btext m n d ss
  | [], _ => rfl
  | s :: ss, h => by
    rw [bits_cons, flat_append, h s (by simp), flat_bits m n d ss (fun x hx => h x (by simp [hx]))]
    simp [btext]
theorem eit_flat {m : Nat} {es : List Tree} {i : Nat} {e : Tree} (h : es[i]? = some e) (hg : gT m e) : flat (eit m es i) = epart m es i 0 := by
  unfold eit; rw [h, epart_some h]; exact eits_flat m e 0 hg
theorem flat_s (s : Sg) (is : List It) : flat (iS s :: is) = s.text ++ flat is := flat_cons _ _
theorem flat_g (g : List UInt8) (is : List It) : flat (iG g :: is) = g ++ flat is := flat_cons _ _
theorem sits_flat (m : Nat) : ∀ (n d : Nat) (s : Stm), gS m n s -> flat (sits m n d s) = stext m n d s
  | 0, _, _, h => h.elim
  | n + 1, d, s, h => by
    have hb : ∀ (d : Nat) (ss : List Stm), (∀ x ∈ ss, gS m n x) -> flat (bits m n d ss) = btext m n d ss := fun d ss hs => flat_bits m n d ss fun x hx => sits_flat m n d x (hs x hx)
    rcases h with ⟨h, _, ⟨e, he, hg⟩, _⟩ | ⟨h, _, ⟨e, he, hg⟩, _⟩ | ⟨h, _, ⟨a, b, he, ha, hb'⟩, _⟩ | ⟨h, _, ⟨e, he, hg⟩, _, h1, h2⟩ | ⟨h, _, _, ⟨c, hc, _⟩, h1, _⟩ | ⟨h, _⟩ | ⟨h, _⟩ | ⟨h, _, ⟨e, he, hg⟩, _⟩ | ⟨h, _⟩ | ⟨h, _, ⟨e, he, hg⟩, _⟩
    · have := eit_flat (m := m) (es := s.exprs) (i := 0) (by rw [he]; rfl) hg
      rw [sits_0 h, stext_0 m n d s h]
      simp only [flat_append, this]
      simp [flat_s, flat_g, flat_nil, valueT, kw, wd, sn, kLocal, sLocal, sIs, ends]
    · have := eit_flat (m := m) (es := s.exprs) (i := 0) (by rw [he]; rfl) hg
      rw [sits_1 h, stext_1 m n d s h]
      simp only [flat_append, this]
      simp [flat_s, flat_g, flat_nil, valueT, kw, wd, sn, sIs, ends]
    · have e0 := eit_flat (m := m) (es := s.exprs) (i := 0) (by rw [he]; rfl) ha
      have e1 := eit_flat (m := m) (es := s.exprs) (i := 1) (by rw [he]; rfl) hb'
      rw [sits_2 h, stext_2 m n d s h]
      simp only [flat_append, e0, e1]
      simp [flat_s, flat_g, flat_nil, cellText, kw, wd, sn, sIs, ends]
    · have := eit_flat (m := m) (es := s.exprs) (i := 0) (by rw [he]; rfl) hg
      rw [sits_3 h, stext_3 m n d s h]
      unfold choiceT
      have e3 : flat (if s.els.length = 0 then [] else [iG (tabs d), iS (sn [125]), iG [32], iS (kw kElse), iG [32], iS (sn [123]), iG [10]] ++ bits m n (d + 1) s.els) = if s.els.length = 0 then [] else lineT d sElse ++ btext m n (d + 1) s.els := by
        split
        · rfl
        · rw [flat_append, hb _ _ h2]; simp [flat_s, flat_g, flat_nil, kw, sn, lineT, sElse, kElse]
      simp only [flat_append, this, hb _ _ h1, e3]
      simp [flat_s, flat_g, flat_nil, kw, wd, sn, sIf, kIf, sThen, lineT]
    · rw [sits_4 h, stext_4 m n d s h]
      simp only [flat_append, hb _ _ h1]
      have : itoa s.count = decDigits s.count.toNat := by unfold itoa; rw [if_neg (by omega)]
      simp [flat_s, flat_g, flat_nil, kw, wd, sn, dg, sLoop, kLoop, lineT, this]
    · rw [stext_5 m n d s h, sits_5 h]; simp [flat_append, flat_s, flat_g, flat_nil, kw, wd, sn, sTake, kTake, lineT, ends]
    · rw [stext_6 m n d s h, sits_6 h]; simp [flat_append, flat_s, flat_g, flat_nil, kw, wd, sn, sGive, kGive, lineT, ends]
    · have := eit_flat (m := m) (es := s.exprs) (i := 0) (by rw [he]; rfl) hg
      rw [sits_7 h, stext_7 m n d s h]
      simp only [flat_append, this]
      simp [flat_s, flat_g, flat_nil, valueT, kw, wd, sn, kAdd, sAdd, ends]
    · rw [stext_8 m n d s h, sits_8 h]; simp [flat_append, flat_s, flat_g, flat_nil, kw, wd, sn, sFence, kFence, lineT, ends]
    · have := eit_flat (m := m) (es := s.exprs) (i := 0) (by rw [he]; rfl) hg
      rw [sits_9 h, stext_9 m n d s (by rw [h]; decide) (by rw [h]; decide) (by rw [h]; decide) (by rw [h]; decide) (by rw [h]; decide) (by rw [h]; decide) (by rw [h]; decide) (by rw [h]; decide) (by rw [h]; decide)]
      simp only [flat_append, this]
      simp [flat_s, flat_g, flat_nil, valueT, kw, wd, sn, kOutput, sOutput, ends]

theorem gap_tabs (d : Nat) : isGap (tabs d) := by
  induction d with
  | zero => exact gap_nil
  | succ d ih =>
    have e : tabs (d + 1) = [9] ++ tabs d := rfl
    rw [e]; exact gap_append (gap_of (by decide) (by decide)) ih
theorem gap_line : isGap [10] := gap_of (by decide) (by decide)
theorem ok_ends (l : List UInt8) : okF ends l := okF_s (reads_one (by decide) (by decide) _) (okF_g gap_line trivial)
theorem ok_kw {x : List UInt8} (h : (match x with | c :: _ => Lx.letterB (Lx.num c) | [] => false) = true) (h2 : x.all (fun c => Lx.wordB (Lx.num c)) = true) (hk : Lx.keyB x = true) {is : List It} {l : List UInt8} (hs : soft (flat is ++ l) = true) (hi : okF is l) : okF (iS (kw x) :: is) l :=
  okF_s (reads_kw (wordText_of h h2) hk hs) hi
theorem ok_wd {s : ByteArray} (h : isName s) {is : List It} {l : List UInt8} (hs : soft (flat is ++ l) = true) (hi : okF is l) : okF (iS (wd s) :: is) l := okF_s (reads_wd h hs) hi
theorem ok_one {c : UInt8} (h : c ≠ 60 /\ c ≠ 61 /\ c ≠ 62) (hs : Lx.signList.contains c = true) {is : List It} {l : List UInt8} (hi : okF is l) : okF (iS (sn [c]) :: is) l := okF_s (reads_one h hs _) hi
theorem ok_is {is : List It} {l : List UInt8} (hi : okF is l) : okF (iS (sn [61]) :: iG [32] :: is) l := okF_s (reads_thin (by decide) _) (okF_g gap_blank hi)
theorem eit_ok {m : Nat} {es : List Tree} {i : Nat} {e : Tree} (h : es[i]? = some e) (hg : gT m e) {l : List UInt8} (hs : soft l = true) : okF (eit m es i) l := by unfold eit; rw [h]; exact eits_ok m e 0 l hg hs
theorem bits_ok {m n d : Nat} : ∀ (ss : List Stm) (l : List UInt8), (∀ s ∈ ss, ∀ l, okF (sits m n d s) l) -> okF (bits m n d ss) l
  | [], _, _ => trivial
  | s :: ss, l, h => by rw [bits_cons]; exact okF_append _ _ _ (h s (by simp) _) (bits_ok ss l fun x hx => h x (by simp [hx]))
theorem sits_ok (m : Nat) : ∀ (n d : Nat) (s : Stm) (l : List UInt8), gS m n s -> okF (sits m n d s) l
  | 0, _, _, _, h => h.elim
  | n + 1, d, s, l, h => by
    have hb : ∀ (d : Nat) (ss : List Stm) (l : List UInt8), (∀ x ∈ ss, gS m n x) -> okF (bits m n d ss) l := fun d ss l hs => bits_ok ss l fun x hx l => sits_ok m n d x l (hs x hx)
    have ht := gap_tabs d
    have hclose : ∀ l, okF [iG (tabs d), iS (sn [125]), iG [10]] l := fun l => okF_g ht (ok_one (by decide) (by decide) (okF_g gap_line trivial))
    rcases h with ⟨h, hn, ⟨e, he, hg⟩, _⟩ | ⟨h, hn, ⟨e, he, hg⟩, _⟩ | ⟨h, hn, ⟨a, b, he, ha, hb'⟩, _⟩ | ⟨h, _, ⟨e, he, hg⟩, _, h1, h2⟩ | ⟨h, hn, _, ⟨c, hc, _, hc2⟩, h1, _⟩ | ⟨h, hn, _⟩ | ⟨h, hn, _⟩ | ⟨h, hn, ⟨e, he, hg⟩, _⟩ | ⟨h, _⟩ | ⟨h, _, ⟨e, he, hg⟩, _⟩
    · have e0 : ∀ {l}, soft l = true -> okF (eit m s.exprs 0) l := fun hl => eit_ok (by rw [he]; rfl) hg hl
      rw [sits_0 h]
      exact okF_append _ _ _ (okF_append _ _ _ (okF_g ht (ok_kw (by decide) (by decide) (by decide) rfl (okF_g gap_blank (ok_wd hn rfl (okF_g gap_blank (ok_is trivial)))))) (e0 rfl)) (ok_ends l)
    · have e0 : ∀ {l}, soft l = true -> okF (eit m s.exprs 0) l := fun hl => eit_ok (by rw [he]; rfl) hg hl
      rw [sits_1 h]
      exact okF_append _ _ _ (okF_append _ _ _ (okF_g ht (ok_wd hn rfl (okF_g gap_blank (ok_is trivial)))) (e0 rfl)) (ok_ends l)
    · have e0 : ∀ {l}, soft l = true -> okF (eit m s.exprs 0) l := fun hl => eit_ok (by rw [he]; rfl) ha hl
      have e1 : ∀ {l}, soft l = true -> okF (eit m s.exprs 1) l := fun hl => eit_ok (by rw [he]; rfl) hb' hl
      rw [sits_2 h]
      exact okF_append _ _ _ (okF_append _ _ _ (okF_append _ _ _ (okF_append _ _ _ (okF_g ht (ok_wd hn rfl (ok_one (by decide) (by decide) trivial))) (e0 rfl)) (ok_one (by decide) (by decide) (okF_g gap_blank (ok_is trivial)))) (e1 rfl)) (ok_ends l)
    · have e0 : ∀ {l}, soft l = true -> okF (eit m s.exprs 0) l := fun hl => eit_ok (by rw [he]; rfl) hg hl
      rw [sits_3 h]
      refine okF_append _ _ _ (okF_append _ _ _ (okF_append _ _ _ (okF_append _ _ _ (okF_append _ _ _ (okF_g ht (ok_kw (by decide) (by decide) (by decide) rfl (okF_g gap_blank (ok_one (by decide) (by decide) trivial)))) (e0 rfl)) (ok_one (by decide) (by decide) (okF_g gap_blank (ok_one (by decide) (by decide) (okF_g gap_line trivial))))) (hb _ _ _ h1)) ?_) (hclose l)
      split
      · trivial
      · exact okF_append _ _ _ (okF_g ht (ok_one (by decide) (by decide) (okF_g gap_blank (ok_kw (by decide) (by decide) (by decide) rfl (okF_g gap_blank (ok_one (by decide) (by decide) (okF_g gap_line trivial))))))) (hb _ _ _ h2)
    · rw [sits_4 h]
      exact okF_append _ _ _ (okF_append _ _ _ (okF_g ht (ok_kw (by decide) (by decide) (by decide) rfl (okF_g gap_blank (ok_wd hn rfl (okF_g gap_blank (okF_s (reads_dg (by omega) rfl) (okF_g gap_blank (ok_one (by decide) (by decide) (okF_g gap_line trivial))))))))) (hb _ _ _ h1)) (hclose l)
    · rw [sits_5 h]
      exact okF_append _ _ _ (okF_g ht (ok_kw (by decide) (by decide) (by decide) rfl (okF_g gap_blank (ok_wd hn rfl trivial)))) (ok_ends l)
    · rw [sits_6 h]
      exact okF_append _ _ _ (okF_g ht (ok_kw (by decide) (by decide) (by decide) rfl (okF_g gap_blank (ok_wd hn rfl trivial)))) (ok_ends l)
    · have e0 : ∀ {l}, soft l = true -> okF (eit m s.exprs 0) l := fun hl => eit_ok (by rw [he]; rfl) hg hl
      rw [sits_7 h]
      exact okF_append _ _ _ (okF_append _ _ _ (okF_g ht (ok_kw (by decide) (by decide) (by decide) rfl (okF_g gap_blank (ok_wd hn rfl (okF_g gap_blank trivial))))) (e0 rfl)) (ok_ends l)
    · rw [sits_8 h]
      exact okF_append _ _ _ (okF_g ht (ok_kw (by decide) (by decide) (by decide) rfl trivial)) (ok_ends l)
    · have e0 : ∀ {l}, soft l = true -> okF (eit m s.exprs 0) l := fun hl => eit_ok (by rw [he]; rfl) hg hl
      rw [sits_9 h]
      exact okF_append _ _ _ (okF_append _ _ _ (okF_g ht (ok_kw (by decide) (by decide) (by decide) rfl (okF_g gap_blank trivial))) (e0 rfl)) (ok_ends l)
def eqL {α : Type} (R : α -> α -> Prop) (a b : List α) : Prop := a.length = b.length /\ ∀ (i : Nat) (x y : α), a[i]? = some x -> b[i]? = some y -> R x y
theorem eqL_nil {α : Type} {R : α -> α -> Prop} : eqL R [] [] := ⟨rfl, fun i x y h => by simp at h⟩
theorem eqL_cons {α : Type} {R : α -> α -> Prop} {a b : α} {xs ys : List α} (h : R a b) (hs : eqL R xs ys) : eqL R (a :: xs) (b :: ys) := ⟨by simp [hs.1], fun i x y hx hy => by
  cases i with
  | zero => simp at hx hy; subst hx hy; exact h
  | succ i => exact hs.2 i x y (by simpa using hx) (by simpa using hy)⟩
def eqS (m : Nat) : Nat -> Stm -> Stm -> Prop
  | 0, _, _ => False
  | n + 1, s, t => s.kind = t.kind /\ s.name = t.name /\ s.count = t.count /\ eqL (eqT m) s.exprs t.exprs /\ eqL (eqS m n) s.body t.body /\ eqL (eqS m n) s.els t.els
def notElse (r : List Tok) : Prop := (r.headD (endT 0)).text ≠ kElse
theorem sits_head {m n d : Nat} {s : Stm} (h : gS m n s) : ∃ s0 ss, sgs (sits m n d s) = s0 :: ss /\ s0.text ≠ [125] /\ s0.text ≠ kElse /\ s0.text ≠ [91] := by
  cases n with
  | zero => exact h.elim
  | succ n =>
    rcases h with ⟨h, hn, _⟩ | ⟨h, hn, _⟩ | ⟨h, hn, _⟩ | ⟨h, hn, _⟩ | ⟨h, hn, _⟩ | ⟨h, hn, _⟩ | ⟨h, hn, _⟩ | ⟨h, hn, _⟩ | ⟨h, hn, _⟩ | ⟨h, hn, _⟩
    · rw [sits_0 h]; exact ⟨kw kLocal, _, rfl, by decide, by decide, by decide⟩
    · rw [sits_1 h]; exact ⟨wd s.name, _, rfl, word_ne hn (by decide), name_ne_key hn (by decide), word_ne hn (by decide)⟩
    · rw [sits_2 h]; exact ⟨wd s.name, _, rfl, word_ne hn (by decide), name_ne_key hn (by decide), word_ne hn (by decide)⟩
    · rw [sits_3 h]; exact ⟨kw kIf, _, rfl, by decide, by decide, by decide⟩
    · rw [sits_4 h]; exact ⟨kw kLoop, _, rfl, by decide, by decide, by decide⟩
    · rw [sits_5 h]; exact ⟨kw kTake, _, rfl, by decide, by decide, by decide⟩
    · rw [sits_6 h]; exact ⟨kw kGive, _, rfl, by decide, by decide, by decide⟩
    · rw [sits_7 h]; exact ⟨kw kAdd, _, rfl, by decide, by decide, by decide⟩
    · rw [sits_8 h]; exact ⟨kw kFence, _, rfl, by decide, by decide, by decide⟩
    · rw [sits_9 h]; exact ⟨kw kOutput, _, rfl, by decide, by decide, by decide⟩
theorem eit_sgs {m : Nat} {es : List Tree} {i : Nat} {e : Tree} (h : es[i]? = some e) : eit m es i = eits m e 0 := by unfold eit; rw [h]
def allOK (ss : List Sg) : Prop := ∀ s ∈ ss, sOK s
theorem allOK_append {a b : List Sg} (ha : allOK a) (hb : allOK b) : allOK (a ++ b) := fun s hs => by
  rcases List.mem_append.1 hs with h | h
  · exact ha s h
  · exact hb s h
theorem allOK_cons {s : Sg} {b : List Sg} (ha : sOK s) (hb : allOK b) : allOK (s :: b) := fun x hx => by
  rcases List.mem_cons.1 hx with rfl | h
  · exact ha
  · exact hb x h
theorem allOK_nil : allOK [] := fun s hs => by simp at hs
theorem bits_sok {m n d : Nat} : ∀ (ss : List Stm), (∀ s ∈ ss, allOK (sgs (sits m n d s))) -> allOK (sgs (bits m n d ss))
  | [], _ => allOK_nil
  | s :: ss, h => by rw [bits_cons, sgs_append]; exact allOK_append (h s (by simp)) (bits_sok ss fun x hx => h x (by simp [hx]))
theorem ends_sok : allOK (sgs ends) := allOK_cons (sn_ok (by simp)) allOK_nil
theorem sits_sok (m : Nat) : ∀ (n d : Nat) (s : Stm), gS m n s -> allOK (sgs (sits m n d s))
  | 0, _, _, h => h.elim
  | n + 1, d, s, h => by
    have hb : ∀ (d : Nat) (ss : List Stm), (∀ x ∈ ss, gS m n x) -> allOK (sgs (bits m n d ss)) := fun d ss hs => bits_sok ss fun x hx => sits_sok m n d x (hs x hx)
    have hclose : allOK (sgs [iG (tabs d), iS (sn [125]), iG [10]]) := allOK_cons (sn_ok (by simp)) allOK_nil
    rcases h with ⟨h, hn, ⟨e, he, hg⟩, _⟩ | ⟨h, hn, ⟨e, he, hg⟩, _⟩ | ⟨h, hn, ⟨a, b, he, ha, hb'⟩, _⟩ | ⟨h, _, ⟨e, he, hg⟩, _, h1, h2⟩ | ⟨h, hn, _, ⟨c, hc, _, hc2⟩, h1, _⟩ | ⟨h, hn, _⟩ | ⟨h, hn, _⟩ | ⟨h, hn, ⟨e, he, hg⟩, _⟩ | ⟨h, _⟩ | ⟨h, _, ⟨e, he, hg⟩, _⟩
    · have e0 : eit m s.exprs 0 = eits m e 0 := eit_sgs (by rw [he]; rfl)
      rw [sits_0 h, e0]; simp only [sgs_append]
      exact allOK_append (allOK_append (allOK_cons (kw_ok (by decide)) (allOK_cons (wd_ok hn) (allOK_cons (sn_ok (by simp)) allOK_nil))) (eits_sok m e 0 hg)) ends_sok
    · have e0 : eit m s.exprs 0 = eits m e 0 := eit_sgs (by rw [he]; rfl)
      rw [sits_1 h, e0]; simp only [sgs_append]
      exact allOK_append (allOK_append (allOK_cons (wd_ok hn) (allOK_cons (sn_ok (by simp)) allOK_nil)) (eits_sok m e 0 hg)) ends_sok
    · have e0 : eit m s.exprs 0 = eits m a 0 := eit_sgs (by rw [he]; rfl)
      have e1 : eit m s.exprs 1 = eits m b 0 := eit_sgs (by rw [he]; rfl)
      rw [sits_2 h, e0, e1]; simp only [sgs_append]
      exact allOK_append (allOK_append (allOK_append (allOK_append (allOK_cons (wd_ok hn) (allOK_cons (sn_ok (by simp)) allOK_nil)) (eits_sok m a 0 ha)) (allOK_cons (sn_ok (by simp)) (allOK_cons (sn_ok (by simp)) allOK_nil))) (eits_sok m b 0 hb')) ends_sok
    · have e0 : eit m s.exprs 0 = eits m e 0 := eit_sgs (by rw [he]; rfl)
      rw [sits_3 h, e0]; simp only [sgs_append]
      refine allOK_append (allOK_append (allOK_append (allOK_append (allOK_append (allOK_cons (kw_ok (by decide)) (allOK_cons (sn_ok (by simp)) allOK_nil)) (eits_sok m e 0 hg)) (allOK_cons (sn_ok (by simp)) (allOK_cons (sn_ok (by simp)) allOK_nil))) (hb _ _ h1)) ?_) hclose
      split
      · exact allOK_nil
      · simp only [sgs_append]
        exact allOK_append (allOK_cons (sn_ok (by simp)) (allOK_cons (kw_ok (by decide)) (allOK_cons (sn_ok (by simp)) allOK_nil))) (hb _ _ h2)
    · rw [sits_4 h]; simp only [sgs_append]
      exact allOK_append (allOK_append (allOK_cons (kw_ok (by decide)) (allOK_cons (wd_ok hn) (allOK_cons (dg_ok _) (allOK_cons (sn_ok (by simp)) allOK_nil)))) (hb _ _ h1)) hclose
    · rw [sits_5 h]; simp only [sgs_append]
      exact allOK_append (allOK_cons (kw_ok (by decide)) (allOK_cons (wd_ok hn) allOK_nil)) ends_sok
    · rw [sits_6 h]; simp only [sgs_append]
      exact allOK_append (allOK_cons (kw_ok (by decide)) (allOK_cons (wd_ok hn) allOK_nil)) ends_sok
    · have e0 : eit m s.exprs 0 = eits m e 0 := eit_sgs (by rw [he]; rfl)
      rw [sits_7 h, e0]; simp only [sgs_append]
      exact allOK_append (allOK_append (allOK_cons (kw_ok (by decide)) (allOK_cons (wd_ok hn) allOK_nil)) (eits_sok m e 0 hg)) ends_sok
    · rw [sits_8 h]; simp only [sgs_append]
      exact allOK_append (allOK_cons (kw_ok (by decide)) allOK_nil) ends_sok
    · have e0 : eit m s.exprs 0 = eits m e 0 := eit_sgs (by rw [he]; rfl)
      rw [sits_9 h, e0]; simp only [sgs_append]
      exact allOK_append (allOK_append (allOK_cons (kw_ok (by decide)) allOK_nil) (eits_sok m e 0 hg)) ends_sok

theorem tok_cons {us : List Tok} {k : Nat} {x : List UInt8} {v : Nat} {ss : List Sg} (h : us.map sgOf = Sg.mk k x v :: ss) : ∃ t ts, us = t :: ts /\ t.kind = k /\ t.text = x /\ t.value = v /\ ts.map sgOf = ss := by
  obtain ⟨t, ts, rfl, h1, h2⟩ := List.map_eq_cons_iff.1 h
  exact ⟨t, ts, rfl, congrArg Sg.kind h1, congrArg Sg.text h1, congrArg Sg.value h1, h2⟩
theorem good_cons {t : Tok} {l : List Tok} (hk : t.kind ≠ 0) (ht : t.text ≠ []) (hl : goodL l) : goodL (t :: l) := goodL.app (us := [t]) (fun x hx => by simp at hx; subst hx; exact ⟨hk, ht⟩) hl
theorem tight0 {t : Tok} {l : List Tok} {s : List UInt8} (h : t.text = s) (hs : tightN (opOf s) = 0) : tightAt (t :: l) = 0 := by unfold tightAt; simp only [List.headD_cons]; rw [h]; exact hs
theorem notOpen_cons {t : Tok} {l : List Tok} {s : List UInt8} (h : t.text = s) (hs : s ≠ [91]) : notOpen (t :: l) := by unfold notOpen; simp only [List.headD_cons]; rw [h]; exact hs
theorem ne_app {us r : List Tok} (h : r ≠ []) : us ++ r ≠ [] := fun e => h (by simp at e; exact e.2)
theorem value_back {m : Nat} {e : Tree} {deep : Nat} {us r : List Tok} (s : Stm) (hg : gT m e) (ht : tightAt r = 0) (hu : us.map sgOf = sgs (eits m e 0)) (hr : goodL r) (ho : notOpen r) (hd : deep + 1 + dpE m e 0 <= 40) :
    ∃ e', valueP deep s ⟨us ++ r, none⟩ = ({ s with exprs := s.exprs ++ [e'] }, ⟨r, none⟩) /\ eqT m e' e := by
  obtain ⟨e', h, q⟩ := (back_all m).2.whole e 0 (40 - deep) (deep + 1) us r hg ht hu hr ho hd (by omega)
  exact ⟨e', by unfold valueP; rw [h], q⟩
theorem eqL_one {α : Type} {R : α -> α -> Prop} {a b : α} (h : R a b) : eqL R [a] [b] := eqL_cons h eqL_nil

def StC (m n : Nat) : Prop := ∀ (s : Stm) (f deep d : Nat) (us r : List Tok), gS m n s -> fitS m n deep s -> us.map sgOf = sgs (sits m n d s) -> goodL r -> notElse r -> 41 <= deep + f ->
  ∃ s', stP f deep ⟨us ++ r, none⟩ = (s', ⟨r, none⟩) /\ eqS m n s' s
theorem blk_back {m n : Nat} (ih : StC m n) (f deep d : Nat) (z : Tok) (r : List Tok) (hz : z.text = [125]) (hzk : z.kind ≠ 0) (hr : goodL r) (hf : 41 <= deep + f) : ∀ (ss : List Stm) (k : Nat) (acc : List Stm) (us : List Tok), (∀ s ∈ ss, gS m n s) -> (∀ s ∈ ss, fitS m n deep s) -> us.map sgOf = sgs (bits m n d ss) -> us.length < k ->
    ∃ ss', blkLoop (stP f) deep k acc ⟨us ++ (z :: r), none⟩ = (acc ++ ss', ⟨r, none⟩) /\ eqL (eqS m n) ss' ss
  | [], k, acc, us, _, _, hu, hk => by
    obtain rfl : us = [] := by simpa [bits, sgs] using hu
    obtain ⟨k, rfl⟩ : ∃ j, k = j + 1 := ⟨k - 1, by omega⟩
    refine ⟨[], ?_, eqL_nil⟩
    rw [blkLoop]
    simp only [List.nil_append, Option.isSome_none, Bool.false_eq_true, if_false, is_cons, hz, beq_self_eq_true, if_true, next_cons z hr.ne, List.append_nil]
  | s :: ss, k, acc, us, hg, hfit, hu, hk => by
    have hzr : goodL (z :: r) := good_cons hzk (by rw [hz]; simp) hr
    rw [bits_cons, sgs_append] at hu
    obtain ⟨ua, ub, rfl, hua, hub⟩ := List.map_eq_append_iff.1 hu
    have hgb : goodL (ub ++ (z :: r)) := hzr.app (toks_ok hub (bits_sok ss fun x hx => sits_sok m n d x (hg x (by simp [hx]))))
    have hne : notElse (ub ++ (z :: r)) := by
      cases ss with
      | nil =>
        obtain rfl : ub = [] := by simpa [bits, sgs] using hub
        unfold notElse; simp only [List.nil_append, List.headD_cons]; rw [hz]; decide
      | cons x xs =>
        obtain ⟨s0, rest, e, _, h2, _⟩ := sits_head (d := d) (hg x (by simp))
        rw [bits_cons, sgs_append, e] at hub
        obtain ⟨t, ts, rfl, _, ht, _⟩ := tok_cons hub
        unfold notElse; simp only [List.cons_append, List.headD_cons]; rw [ht]; exact h2
    obtain ⟨s', es, qs⟩ := ih s f deep d ua (ub ++ (z :: r)) (hg s (by simp)) (hfit s (by simp)) hua hgb hne hf
    obtain ⟨s0, rest, e0, h125, _⟩ := sits_head (d := d) (hg s (by simp))
    obtain ⟨k, rfl⟩ : ∃ j, k = j + 1 := ⟨k - 1, by omega⟩
    have hlen : ub.length < k := by
      have : 0 < ua.length := by
        rw [e0] at hua
        obtain ⟨t, ts, rfl, _⟩ := tok_cons hua
        simp
      rw [List.length_append] at hk; omega
    obtain ⟨ss', ess, qss⟩ := blk_back ih f deep d z r hz hzk hr hf ss k (acc ++ [s']) ub (fun x hx => hg x (by simp [hx])) (fun x hx => hfit x (by simp [hx])) hub hlen
    refine ⟨s' :: ss', ?_, eqL_cons qs qss⟩
    rw [blkLoop]
    have his : (⟨ua ++ (ub ++ (z :: r)), none⟩ : Rd).is [125] = false := by
      rw [e0] at hua
      obtain ⟨t, ts, rfl, _, ht, _⟩ := tok_cons hua
      rw [List.cons_append, is_cons, ht]
      simpa using h125
    simp only [List.append_assoc, Option.isSome_none, Bool.false_eq_true, if_false, his, es, ess]
    simp
theorem block_back {m n : Nat} (ih : StC m n) (f deep d : Nat) (o z : Tok) (r us : List Tok) (ss : List Stm) (ho : o.text = [123]) (hz : z.text = [125]) (hzk : z.kind ≠ 0) (hr : goodL r) (hf : 41 <= deep + f) (hg : ∀ s ∈ ss, gS m n s) (hfit : ∀ s ∈ ss, fitS m n deep s) (hu : us.map sgOf = sgs (bits m n d ss)) :
    ∃ ss', blockOf (stP f) deep ⟨o :: (us ++ (z :: r)), none⟩ = (ss', ⟨r, none⟩) /\ eqL (eqS m n) ss' ss := by
  obtain ⟨ss', e, q⟩ := blk_back ih f deep d z r hz hzk hr hf ss ((us ++ (z :: r)).length + 1) [] us hg hfit hu (by simp; omega)
  refine ⟨ss', ?_, q⟩
  unfold blockOf
  rw [want_cons (ne_app (by simp)) none ho]
  simpa using e
theorem kind_some {t : Tok} {k : Int} {x : List UInt8} (hk : t.kind = 2) (ht : t.text = x) (h : kindP ⟨2, x, 0, 0⟩ = some k) : kindP t = some k := by
  unfold kindP at h ⊢
  rw [hk, ht]
  exact h
theorem st_succ {m n : Nat} (ih : StC m n) : StC m (n + 1) := by
  intro s f deep d us r hg hfit hu hr he hf
  obtain ⟨hd, hfe, hfb, hfl⟩ := hfit
  obtain ⟨f, rfl⟩ : ∃ g, f = g + 1 := ⟨f - 1, by omega⟩
  have hdeep : ¬ 40 < deep := by omega
  show ∃ s', stmtOf (blockOf (stP f)) deep ⟨us ++ r, none⟩ = _ /\ _
  have ends_split : ∀ {xs : List Tok} {ss : List Sg}, xs.map sgOf = ss ++ sgs ends -> ∃ ys z, xs = ys ++ [z] /\ ys.map sgOf = ss /\ z.text = [59] /\ z.kind = 4 := fun {xs ss} h => by
    obtain ⟨ys, zs, rfl, h1, h2⟩ := List.map_eq_append_iff.1 h
    obtain ⟨z, zs', rfl, hk, ht, _, h3⟩ := tok_cons (show zs.map sgOf = sn [59] :: [] from h2)
    obtain rfl : zs' = [] := by simpa using h3
    exact ⟨ys, z, rfl, h1, ht, hk⟩
  rcases hg with ⟨h, hn, ⟨e, hx, hg⟩, hc, hb, hl⟩ | ⟨h, hn, ⟨e, hx, hg⟩, hc, hb, hl⟩ | ⟨h, hn, ⟨a, b, hx, ha, hb'⟩, hc, hb, hl⟩ | ⟨h, hn, ⟨e, hx, hg⟩, hc, h1, h2⟩ | ⟨h, hn, hx, ⟨c, hc, hc1, hc2⟩, h1, hl⟩ | ⟨h, hn, hx, hc, hb, hl⟩ | ⟨h, hn, hx, hc, hb, hl⟩ | ⟨h, hn, ⟨e, hx, hg⟩, hc, hb, hl⟩ | ⟨h, hn, hx, hc, hb, hl⟩ | ⟨h, hn, ⟨e, hx, hg⟩, hc, hb, hl⟩
  · rw [sits_0 h, eit_sgs (show s.exprs[0]? = some e by rw [hx]; rfl), sgs_append, sgs_append] at hu
    obtain ⟨us, z, rfl, hu, hz, hzk⟩ := ends_split hu
    obtain ⟨t1, us, rfl, k1, x1, _, hu⟩ := tok_cons (show us.map sgOf = kw kLocal :: (wd s.name :: sn [61] :: sgs (eits m e 0)) from hu)
    obtain ⟨t2, us, rfl, k2, x2, _, hu⟩ := tok_cons hu
    obtain ⟨t3, us, rfl, k3, x3, _, hu⟩ := tok_cons hu
    have hzr : goodL (z :: r) := good_cons (by rw [hzk]; decide) (by rw [hz]; simp) hr
    have ek : kindP t1 = some 0 := kind_some k1 x1 (by decide)
    obtain ⟨e', ev, q⟩ := value_back (r := z :: r) ⟨0, bstr t2.text, [], 0, [], [], t1.at_⟩ hg (tight0 hz (by decide)) hu hzr (notOpen_cons hz (by decide)) (hfe e (by rw [hx]; simp))
    refine ⟨⟨0, bstr t2.text, [e'], 0, [], [], t1.at_⟩, ?_, ⟨h.symm, by show bstr t2.text = _; rw [x2]; exact bstr_bys _, hc.symm, by rw [hx]; exact eqL_one q, by rw [hb]; exact eqL_nil, by rw [hl]; exact eqL_nil⟩⟩
    have e1 : t1 :: t2 :: t3 :: us ++ [z] ++ r = t1 :: t2 :: t3 :: (us ++ (z :: r)) := by simp
    rw [e1]
    unfold stmtOf
    simp only [here_cons, ek, if_neg hdeep, next_cons t1 (show t2 :: t3 :: (us ++ (z :: r)) ≠ [] by simp)]
    rw [if_neg (by decide), if_neg (by decide)]
    rw [simple_0 _ _ _ _ rfl]
    simp only [name_cons (show t3 :: (us ++ (z :: r)) ≠ [] by simp) none k2, want_cons (show us ++ (z :: r) ≠ [] by simp) none x3, ev, want_cons hr.ne none hz, List.nil_append]
  · rw [sits_1 h, eit_sgs (show s.exprs[0]? = some e by rw [hx]; rfl), sgs_append, sgs_append] at hu
    obtain ⟨us, z, rfl, hu, hz, hzk⟩ := ends_split hu
    obtain ⟨t1, us, rfl, k1, x1, _, hu⟩ := tok_cons (show us.map sgOf = wd s.name :: (sn [61] :: sgs (eits m e 0)) from hu)
    obtain ⟨t3, us, rfl, k3, x3, _, hu⟩ := tok_cons hu
    have hzr : goodL (z :: r) := good_cons (by rw [hzk]; decide) (by rw [hz]; simp) hr
    have ek : kindP t1 = some 1 := by unfold kindP; rw [if_pos k1]
    obtain ⟨e', ev, q⟩ := value_back (r := z :: r) ⟨1, bstr t1.text, [], 0, [], [], t1.at_⟩ hg (tight0 hz (by decide)) hu hzr (notOpen_cons hz (by decide)) (hfe e (by rw [hx]; simp))
    refine ⟨⟨1, bstr t1.text, [e'], 0, [], [], t1.at_⟩, ?_, ⟨h.symm, by show bstr t1.text = _; rw [x1]; exact bstr_bys _, hc.symm, by rw [hx]; exact eqL_one q, by rw [hb]; exact eqL_nil, by rw [hl]; exact eqL_nil⟩⟩
    have e1 : t1 :: t3 :: us ++ [z] ++ r = t1 :: t3 :: (us ++ (z :: r)) := by simp
    rw [e1]
    unfold stmtOf
    simp only [here_cons, ek, if_neg hdeep, next_cons t1 (show t3 :: (us ++ (z :: r)) ≠ [] by simp)]
    rw [if_neg (by decide), if_neg (by decide)]
    rw [simple_1 _ _ _ _ rfl (by rw [is_cons, x3]; decide)]
    simp only [want_cons (show us ++ (z :: r) ≠ [] by simp) none x3, ev, want_cons hr.ne none hz, List.nil_append]
  · rw [sits_2 h, eit_sgs (show s.exprs[0]? = some a by rw [hx]; rfl), eit_sgs (show s.exprs[1]? = some b by rw [hx]; rfl), sgs_append, sgs_append, sgs_append, sgs_append] at hu
    obtain ⟨us, z, rfl, hu, hz, hzk⟩ := ends_split hu
    have hu' : us.map sgOf = wd s.name :: sn [91] :: (sgs (eits m a 0) ++ (sn [93] :: sn [61] :: sgs (eits m b 0))) := by simpa [sgs, iS, iG] using hu
    obtain ⟨t1, us, rfl, k1, x1, _, hu⟩ := tok_cons hu'
    obtain ⟨t2, us, rfl, k2, x2, _, hu⟩ := tok_cons hu
    obtain ⟨ua, us, rfl, hua, hu⟩ := List.map_eq_append_iff.1 hu
    obtain ⟨t3, us, rfl, k3, x3, _, hu⟩ := tok_cons hu
    obtain ⟨t4, us, rfl, k4, x4, _, hu⟩ := tok_cons hu
    have hzr : goodL (z :: r) := good_cons (by rw [hzk]; decide) (by rw [hz]; simp) hr
    have hub : goodL (us ++ (z :: r)) := hzr.app (toks_ok hu (eits_sok m b 0 hb'))
    have h34 : goodL (t3 :: t4 :: (us ++ (z :: r))) := good_cons (by rw [k3]; decide) (by rw [x3]; simp [sn]) (good_cons (by rw [k4]; decide) (by rw [x4]; simp [sn]) hub)
    have ek : kindP t1 = some 1 := by unfold kindP; rw [if_pos k1]
    obtain ⟨a', ea, qa⟩ := value_back (r := t3 :: t4 :: (us ++ (z :: r))) ⟨2, bstr t1.text, [], 0, [], [], t1.at_⟩ ha (tight0 x3 (by decide)) hua h34 (notOpen_cons x3 (by decide)) (hfe a (by rw [hx]; simp))
    obtain ⟨b', eb, qb⟩ := value_back (r := z :: r) ⟨2, bstr t1.text, [a'], 0, [], [], t1.at_⟩ hb' (tight0 hz (by decide)) hu hzr (notOpen_cons hz (by decide)) (hfe b (by rw [hx]; simp))
    refine ⟨⟨2, bstr t1.text, [a', b'], 0, [], [], t1.at_⟩, ?_, ⟨h.symm, by show bstr t1.text = _; rw [x1]; exact bstr_bys _, hc.symm, by rw [hx]; exact eqL_cons qa (eqL_one qb), by rw [hb]; exact eqL_nil, by rw [hl]; exact eqL_nil⟩⟩
    have e1 : t1 :: t2 :: (ua ++ t3 :: t4 :: us) ++ [z] ++ r = t1 :: t2 :: (ua ++ (t3 :: t4 :: (us ++ (z :: r)))) := by simp
    rw [e1]
    unfold stmtOf
    simp only [here_cons, ek, if_neg hdeep, next_cons t1 (show t2 :: (ua ++ (t3 :: t4 :: (us ++ (z :: r)))) ≠ [] by simp)]
    rw [if_neg (by decide), if_neg (by decide)]
    rw [simple_2 _ _ _ _ rfl (by rw [is_cons, x2]; decide)]
    simp only [next_cons t2 (show ua ++ (t3 :: t4 :: (us ++ (z :: r))) ≠ [] by simp), ea, want_cons (show t4 :: (us ++ (z :: r)) ≠ [] by simp) none x3, want_cons (show us ++ (z :: r) ≠ [] by simp) none x4, List.nil_append, eb, want_cons hr.ne none hz, List.cons_append]
  · rw [sits_3 h, eit_sgs (show s.exprs[0]? = some e by rw [hx]; rfl)] at hu
    have hu' : us.map sgOf = kw kIf :: sn [40] :: (sgs (eits m e 0) ++ (sn [41] :: sn [123] :: (sgs (bits m n (d + 1) s.body) ++ (sgs (if s.els.length = 0 then [] else [iG (tabs d), iS (sn [125]), iG [32], iS (kw kElse), iG [32], iS (sn [123]), iG [10]] ++ bits m n (d + 1) s.els) ++ [sn [125]])))) := by
      rw [hu]; simp only [sgs_append]; simp [sgs, iS, iG]
    clear hu
    obtain ⟨t1, us, rfl, k1, x1, _, hu⟩ := tok_cons hu'
    obtain ⟨t2, us, rfl, k2, x2, _, hu⟩ := tok_cons hu
    obtain ⟨ua, us, rfl, hua, hu⟩ := List.map_eq_append_iff.1 hu
    obtain ⟨t3, us, rfl, k3, x3, _, hu⟩ := tok_cons hu
    obtain ⟨t4, us, rfl, k4, x4, _, hu⟩ := tok_cons hu
    obtain ⟨ub, us, rfl, hub, hu⟩ := List.map_eq_append_iff.1 hu
    obtain ⟨ul, us, rfl, hul, hu⟩ := List.map_eq_append_iff.1 hu
    obtain ⟨z, us, rfl, hzk, hz, _, hu⟩ := tok_cons hu
    obtain rfl : us = [] := by simpa using hu
    have ek : kindP t1 = some 3 := kind_some k1 x1 (by decide)
    have hzr : goodL (z :: r) := good_cons (by rw [hzk]; decide) (by rw [hz]; simp [sn]) hr
    by_cases h0 : s.els.length = 0
    · have hel : s.els = [] := List.length_eq_zero_iff.1 h0
      rw [if_pos h0] at hul
      obtain rfl : ul = [] := by simpa [sgs] using hul
      have hb4 : goodL (t4 :: (ub ++ (z :: r))) := good_cons (by rw [k4]; decide) (by rw [x4]; simp [sn]) (hzr.app (toks_ok hub (bits_sok _ fun x hx => sits_sok m n _ x (h1 x hx))))
      have h3 : goodL (t3 :: t4 :: (ub ++ (z :: r))) := good_cons (by rw [k3]; decide) (by rw [x3]; simp [sn]) hb4
      obtain ⟨e', ev, q⟩ := value_back (r := t3 :: t4 :: (ub ++ (z :: r))) ⟨3, ⟨#[]⟩, [], 0, [], [], t1.at_⟩ hg (tight0 x3 (by decide)) hua h3 (notOpen_cons x3 (by decide)) (hfe e (by rw [hx]; simp))
      obtain ⟨bs, eb, qb⟩ := block_back ih f (deep + 1) (d + 1) t4 z r ub s.body x4 hz (by rw [hzk]; decide) hr (by omega) h1 hfb hub
      refine ⟨⟨3, ⟨#[]⟩, [e'], 0, bs, [], t1.at_⟩, ?_, ⟨h.symm, hn.symm, hc.symm, by rw [hx]; exact eqL_one q, qb, by rw [hel]; exact eqL_nil⟩⟩
      have e1 : t1 :: t2 :: (ua ++ t3 :: t4 :: (ub ++ ([] ++ [z]))) ++ r = t1 :: t2 :: (ua ++ (t3 :: t4 :: (ub ++ (z :: r)))) := by simp
      rw [e1]
      unfold stmtOf
      simp only [here_cons, ek, if_neg hdeep, next_cons t1 (show t2 :: (ua ++ (t3 :: t4 :: (ub ++ (z :: r)))) ≠ [] by simp), if_true]
      unfold choiceOf
      simp only [want_cons (show ua ++ (t3 :: t4 :: (ub ++ (z :: r))) ≠ [] by simp) none x2, ev, want_cons (show t4 :: (ub ++ (z :: r)) ≠ [] by simp) none x3, eb]
      rw [if_neg (by
        have := he
        unfold notElse at this
        simpa [Rd.is, Rd.here] using this)]
      simp
    · rw [if_neg h0] at hul
      have hul' : ul.map sgOf = sn [125] :: kw kElse :: sn [123] :: sgs (bits m n (d + 1) s.els) := by rw [hul]; simp only [sgs_append]; simp [sgs, iS, iG]
      obtain ⟨y1, ul, rfl, ky1, xy1, _, hul⟩ := tok_cons hul'
      obtain ⟨y2, ul, rfl, ky2, xy2, _, hul⟩ := tok_cons hul
      obtain ⟨y3, ul, rfl, ky3, xy3, _, hul⟩ := tok_cons hul
      have hl3 : goodL (y3 :: (ul ++ (z :: r))) := good_cons (by rw [ky3]; decide) (by rw [xy3]; simp [sn]) (hzr.app (toks_ok hul (bits_sok _ fun x hx => sits_sok m n _ x (h2 x hx))))
      have hl2 : goodL (y2 :: y3 :: (ul ++ (z :: r))) := good_cons (by rw [ky2]; decide) (by rw [xy2]; simp [kw, kElse]) hl3
      have hl1 : goodL (y1 :: y2 :: y3 :: (ul ++ (z :: r))) := good_cons (by rw [ky1]; decide) (by rw [xy1]; simp [sn]) hl2
      have hb4 : goodL (t4 :: (ub ++ (y1 :: y2 :: y3 :: (ul ++ (z :: r))))) := good_cons (by rw [k4]; decide) (by rw [x4]; simp [sn]) (hl1.app (toks_ok hub (bits_sok _ fun x hx => sits_sok m n _ x (h1 x hx))))
      have h3 : goodL (t3 :: t4 :: (ub ++ (y1 :: y2 :: y3 :: (ul ++ (z :: r))))) := good_cons (by rw [k3]; decide) (by rw [x3]; simp [sn]) hb4
      obtain ⟨e', ev, q⟩ := value_back (r := t3 :: t4 :: (ub ++ (y1 :: y2 :: y3 :: (ul ++ (z :: r))))) ⟨3, ⟨#[]⟩, [], 0, [], [], t1.at_⟩ hg (tight0 x3 (by decide)) hua h3 (notOpen_cons x3 (by decide)) (hfe e (by rw [hx]; simp))
      obtain ⟨bs, eb, qb⟩ := block_back ih f (deep + 1) (d + 1) t4 y1 (y2 :: y3 :: (ul ++ (z :: r))) ub s.body x4 xy1 (by rw [ky1]; decide) hl2 (by omega) h1 hfb hub
      obtain ⟨ls, el, ql⟩ := block_back ih f (deep + 1) (d + 1) y3 z r ul s.els xy3 hz (by rw [hzk]; decide) hr (by omega) h2 hfl hul
      refine ⟨⟨3, ⟨#[]⟩, [e'], 0, bs, ls, t1.at_⟩, ?_, ⟨h.symm, hn.symm, hc.symm, by rw [hx]; exact eqL_one q, qb, ql⟩⟩
      have e1 : t1 :: t2 :: (ua ++ t3 :: t4 :: (ub ++ (y1 :: y2 :: y3 :: ul ++ [z]))) ++ r = t1 :: t2 :: (ua ++ (t3 :: t4 :: (ub ++ (y1 :: y2 :: y3 :: (ul ++ (z :: r)))))) := by simp
      rw [e1]
      unfold stmtOf
      simp only [here_cons, ek, if_neg hdeep, next_cons t1 (show t2 :: (ua ++ (t3 :: t4 :: (ub ++ (y1 :: y2 :: y3 :: (ul ++ (z :: r)))))) ≠ [] by simp), if_true]
      unfold choiceOf
      simp only [want_cons (show ua ++ (t3 :: t4 :: (ub ++ (y1 :: y2 :: y3 :: (ul ++ (z :: r))))) ≠ [] by simp) none x2, ev, want_cons (show t4 :: (ub ++ (y1 :: y2 :: y3 :: (ul ++ (z :: r)))) ≠ [] by simp) none x3, eb, is_cons]
      rw [if_pos (by rw [xy2]; decide)]
      simp only [next_cons y2 (show y3 :: (ul ++ (z :: r)) ≠ [] by simp), el, List.nil_append]
  · rw [sits_4 h] at hu
    have hu' : us.map sgOf = kw kLoop :: wd s.name :: dg s.count.toNat :: sn [123] :: (sgs (bits m n (d + 1) s.body) ++ [sn [125]]) := by
      rw [hu]; simp only [sgs_append]; simp [sgs, iS, iG]
    clear hu
    obtain ⟨t1, us, rfl, k1, x1, _, hu⟩ := tok_cons hu'
    obtain ⟨t2, us, rfl, k2, x2, _, hu⟩ := tok_cons hu
    obtain ⟨t3, us, rfl, k3, x3, v3, hu⟩ := tok_cons hu
    obtain ⟨t4, us, rfl, k4, x4, _, hu⟩ := tok_cons hu
    obtain ⟨ub, us, rfl, hub, hu⟩ := List.map_eq_append_iff.1 hu
    obtain ⟨z, us, rfl, hzk, hz, _, hu⟩ := tok_cons hu
    obtain rfl : us = [] := by simpa using hu
    have ek : kindP t1 = some 4 := kind_some k1 x1 (by decide)
    have v3' : t3.value = c := by rw [v3]; show s.count.toNat = c; omega
    obtain ⟨bs, eb, qb⟩ := block_back ih f (deep + 1) (d + 1) t4 z r ub s.body x4 hz (by rw [hzk]; decide) hr (by omega) h1 hfb hub
    refine ⟨⟨4, bstr t2.text, [], (t3.value : Int), bs, [], t1.at_⟩, ?_, ⟨h.symm, by show bstr t2.text = _; rw [x2]; exact bstr_bys _, by show (t3.value : Int) = _; rw [v3', hc], by rw [hx]; exact eqL_nil, qb, by rw [hl]; exact eqL_nil⟩⟩
    have e1 : t1 :: t2 :: t3 :: t4 :: (ub ++ [z]) ++ r = t1 :: t2 :: t3 :: t4 :: (ub ++ (z :: r)) := by simp
    rw [e1]
    unfold stmtOf
    simp only [here_cons, ek, if_neg hdeep, next_cons t1 (show t2 :: t3 :: t4 :: (ub ++ (z :: r)) ≠ [] by simp)]
    rw [if_neg (by decide), if_pos trivial]
    simp only [name_cons (show t3 :: t4 :: (ub ++ (z :: r)) ≠ [] by simp) none k2]
    have hnum : (⟨t3 :: t4 :: (ub ++ (z :: r)), none⟩ : Rd).number 256 = (t3.value, ⟨t4 :: (ub ++ (z :: r)), none⟩) := by
      unfold Rd.number
      rw [here_cons, if_pos k3, if_neg (by rw [v3']; omega), next_cons t3 (by simp)]
    simp only [hnum, eb]
  · rw [sits_5 h, sgs_append] at hu
    obtain ⟨us, z, rfl, hu, hz, hzk⟩ := ends_split hu
    obtain ⟨t1, us, rfl, k1, x1, _, hu⟩ := tok_cons (show us.map sgOf = kw kTake :: (wd s.name :: []) from hu)
    obtain ⟨t2, us, rfl, k2, x2, _, hu⟩ := tok_cons hu
    obtain rfl : us = [] := by simpa using hu
    have ek : kindP t1 = some 5 := kind_some k1 x1 (by decide)
    refine ⟨⟨5, bstr t2.text, [], 0, [], [], t1.at_⟩, ?_, ⟨h.symm, by show bstr t2.text = _; rw [x2]; exact bstr_bys _, hc.symm, by rw [hx]; exact eqL_nil, by rw [hb]; exact eqL_nil, by rw [hl]; exact eqL_nil⟩⟩
    have e1 : [t1, t2] ++ [z] ++ r = t1 :: t2 :: (z :: r) := by simp
    rw [e1]
    unfold stmtOf
    simp only [here_cons, ek, if_neg hdeep, next_cons t1 (show t2 :: (z :: r) ≠ [] by simp)]
    rw [if_neg (by decide), if_neg (by decide)]
    rw [simple_5 _ _ _ _ rfl]
    simp only [name_cons (show (z :: r) ≠ [] by simp) none k2, want_cons hr.ne none hz]
  · rw [sits_6 h, sgs_append] at hu
    obtain ⟨us, z, rfl, hu, hz, hzk⟩ := ends_split hu
    obtain ⟨t1, us, rfl, k1, x1, _, hu⟩ := tok_cons (show us.map sgOf = kw kGive :: (wd s.name :: []) from hu)
    obtain ⟨t2, us, rfl, k2, x2, _, hu⟩ := tok_cons hu
    obtain rfl : us = [] := by simpa using hu
    have ek : kindP t1 = some 6 := kind_some k1 x1 (by decide)
    refine ⟨⟨6, bstr t2.text, [], 0, [], [], t1.at_⟩, ?_, ⟨h.symm, by show bstr t2.text = _; rw [x2]; exact bstr_bys _, hc.symm, by rw [hx]; exact eqL_nil, by rw [hb]; exact eqL_nil, by rw [hl]; exact eqL_nil⟩⟩
    have e1 : [t1, t2] ++ [z] ++ r = t1 :: t2 :: (z :: r) := by simp
    rw [e1]
    unfold stmtOf
    simp only [here_cons, ek, if_neg hdeep, next_cons t1 (show t2 :: (z :: r) ≠ [] by simp)]
    rw [if_neg (by decide), if_neg (by decide)]
    rw [simple_6 _ _ _ _ rfl]
    simp only [name_cons (show (z :: r) ≠ [] by simp) none k2, want_cons hr.ne none hz]
  · rw [sits_7 h, eit_sgs (show s.exprs[0]? = some e by rw [hx]; rfl), sgs_append, sgs_append] at hu
    obtain ⟨us, z, rfl, hu, hz, hzk⟩ := ends_split hu
    obtain ⟨t1, us, rfl, k1, x1, _, hu⟩ := tok_cons (show us.map sgOf = kw kAdd :: (wd s.name :: sgs (eits m e 0)) from hu)
    obtain ⟨t2, us, rfl, k2, x2, _, hu⟩ := tok_cons hu
    have hzr : goodL (z :: r) := good_cons (by rw [hzk]; decide) (by rw [hz]; simp) hr
    have ek : kindP t1 = some 7 := kind_some k1 x1 (by decide)
    obtain ⟨e', ev, q⟩ := value_back (r := z :: r) ⟨7, bstr t2.text, [], 0, [], [], t1.at_⟩ hg (tight0 hz (by decide)) hu hzr (notOpen_cons hz (by decide)) (hfe e (by rw [hx]; simp))
    refine ⟨⟨7, bstr t2.text, [e'], 0, [], [], t1.at_⟩, ?_, ⟨h.symm, by show bstr t2.text = _; rw [x2]; exact bstr_bys _, hc.symm, by rw [hx]; exact eqL_one q, by rw [hb]; exact eqL_nil, by rw [hl]; exact eqL_nil⟩⟩
    have e1 : t1 :: t2 :: us ++ [z] ++ r = t1 :: t2 :: (us ++ (z :: r)) := by simp
    rw [e1]
    unfold stmtOf
    simp only [here_cons, ek, if_neg hdeep, next_cons t1 (show t2 :: (us ++ (z :: r)) ≠ [] by simp)]
    rw [if_neg (by decide), if_neg (by decide)]
    rw [simple_7 _ _ _ _ rfl]
    simp only [name_cons (show us ++ (z :: r) ≠ [] by simp) none k2, ev, want_cons hr.ne none hz, List.nil_append]
  · rw [sits_8 h, sgs_append] at hu
    obtain ⟨us, z, rfl, hu, hz, hzk⟩ := ends_split hu
    obtain ⟨t1, us, rfl, k1, x1, _, hu⟩ := tok_cons (show us.map sgOf = kw kFence :: [] from hu)
    obtain rfl : us = [] := by simpa using hu
    have ek : kindP t1 = some 8 := kind_some k1 x1 (by decide)
    refine ⟨⟨8, ⟨#[]⟩, [], 0, [], [], t1.at_⟩, ?_, ⟨h.symm, hn.symm, hc.symm, by rw [hx]; exact eqL_nil, by rw [hb]; exact eqL_nil, by rw [hl]; exact eqL_nil⟩⟩
    have e1 : [t1] ++ [z] ++ r = t1 :: (z :: r) := by simp
    rw [e1]
    unfold stmtOf
    simp only [here_cons, ek, if_neg hdeep, next_cons t1 (show (z :: r) ≠ [] by simp)]
    rw [if_neg (by decide), if_neg (by decide)]
    rw [simple_8 _ _ _ _ rfl]
    simp only [want_cons hr.ne none hz]
  · rw [sits_9 h, eit_sgs (show s.exprs[0]? = some e by rw [hx]; rfl), sgs_append, sgs_append] at hu
    obtain ⟨us, z, rfl, hu, hz, hzk⟩ := ends_split hu
    obtain ⟨t1, us, rfl, k1, x1, _, hu⟩ := tok_cons (show us.map sgOf = kw kOutput :: sgs (eits m e 0) from hu)
    have hzr : goodL (z :: r) := good_cons (by rw [hzk]; decide) (by rw [hz]; simp) hr
    have ek : kindP t1 = some 9 := kind_some k1 x1 (by decide)
    obtain ⟨e', ev, q⟩ := value_back (r := z :: r) ⟨9, ⟨#[]⟩, [], 0, [], [], t1.at_⟩ hg (tight0 hz (by decide)) hu hzr (notOpen_cons hz (by decide)) (hfe e (by rw [hx]; simp))
    refine ⟨⟨9, ⟨#[]⟩, [e'], 0, [], [], t1.at_⟩, ?_, ⟨h.symm, hn.symm, hc.symm, by rw [hx]; exact eqL_one q, by rw [hb]; exact eqL_nil, by rw [hl]; exact eqL_nil⟩⟩
    have e1 : t1 :: us ++ [z] ++ r = t1 :: (us ++ (z :: r)) := by simp
    rw [e1]
    unfold stmtOf
    simp only [here_cons, ek, if_neg hdeep, next_cons t1 (show (us ++ (z :: r)) ≠ [] by simp)]
    rw [if_neg (by decide), if_neg (by decide)]
    rw [simple_9 _ _ _ _ rfl]
    simp only [ev, want_cons hr.ne none hz, List.nil_append]
theorem st_back (m : Nat) : ∀ n, StC m n
  | 0 => fun _ _ _ _ _ _ h => h.elim
  | n + 1 => st_succ (st_back m n)
def gD (d : Dcl) : Prop := isName d.name /\ ((d.lock = true /\ d.label = 0 /\ d.size = 0 /\ d.by_ = ⟨#[]⟩) \/ (d.lock = false /\ (d.label = 0 \/ d.label = 1) /\ (∃ k : Nat, d.size = k /\ k <= 64) /\ (d.by_ = ⟨#[]⟩ \/ isName d.by_)))
def labK (d : Dcl) : List UInt8 := if d.label = 0 then kPublic else kSecret
def sizeI (d : Dcl) : List It := if 0 < d.size then [iS (sn [91]), iS (dg d.size.toNat), iS (sn [93])] else []
def byI (d : Dcl) : List It := if d.by_.size = 0 then [] else [iG [32], iS (kw kBy), iG [32], iS (wd d.by_)]
def dits (d : Dcl) : List It :=
  if d.lock = true then [iS (kw kLock), iG [32], iS (wd d.name)] ++ ends
  else [iS (kw (labK d)), iG [32], iS (wd d.name)] ++ (sizeI d ++ (byI d ++ ends))
def tits (m n : Nat) (ss : List Stm) : List It := [iS (kw kThread), iG [32], iS (sn [123]), iG [10]] ++ (bits m n 1 ss ++ [iS (sn [125]), iG [10]])
def pits (m n : Nat) (p : Prg) : List It := (p.decls.map dits).flatten ++ (p.threads.map (tits m n)).flatten

theorem name_pos {s : ByteArray} (h : isName s) : s.size ≠ 0 := by
  obtain ⟨⟨⟨c, r, e, _⟩, _⟩, _⟩ := h
  rw [<- bys_length, e]; simp
theorem dits_flat (d : Dcl) (h : gD d) : flat (dits d) = dtext d := by
  obtain ⟨hn, ⟨hl, _⟩ | ⟨hl, hlab, ⟨k, hk, hk2⟩, hb⟩⟩ := h
  · unfold dits dtext
    rw [if_pos hl, if_pos hl]
    simp [flat_append, flat_s, flat_g, flat_nil, kw, wd, sn, sLock, kLock, lineT, ends, tabs]
  · unfold dits dtext
    rw [if_neg (by rw [hl]; decide), if_neg (by rw [hl]; decide)]
    have e1 : flat (sizeI d) = if 0 < d.size then [91] ++ itoa d.size ++ [93] else [] := by
      unfold sizeI
      split
      · have : itoa d.size = decDigits d.size.toNat := by unfold itoa; rw [if_neg (by omega)]
        simp [flat_s, flat_nil, sn, dg, this]
      · rfl
    have e2 : flat (byI d) = if d.by_.size = 0 then [] else sBy ++ bys d.by_ := by
      unfold byI
      split
      · rfl
      · simp [flat_s, flat_g, flat_nil, kw, wd, kBy, sBy]
    have e3 : flat [iS (kw (labK d)), iG [32], iS (wd d.name)] = (if d.label = 0 then sPublic else sSecret) ++ bys d.name := by
      unfold labK
      split <;> simp [flat_s, flat_g, flat_nil, kw, wd, kPublic, kSecret, sPublic, sSecret]
    simp only [flat_append, e1, e2, e3]
    simp [flat_s, flat_g, flat_nil, ends, sn]
theorem tits_flat (m n : Nat) (ss : List Stm) (h : ∀ s ∈ ss, gS m n s) : flat (tits m n ss) = ttext m n ss := by
  unfold tits ttext
  have := flat_bits m n 1 ss fun x hx => sits_flat m n 1 x (h x hx)
  simp only [flat_append, this]
  simp [flat_s, flat_g, flat_nil, kw, sn, kThread, sThread, lineT, tabs]
structure gP (m n : Nat) (p : Prg) : Prop where
  d : ∀ d ∈ p.decls, gD d
  dl : p.decls.length <= 64
  s : ∀ ss ∈ p.threads, ∀ s ∈ ss, gS m n s
  f : ∀ ss ∈ p.threads, ∀ s ∈ ss, fitS m n 1 s
  t1 : 1 <= p.threads.length
  t2 : p.threads.length <= 16
theorem flat_map {α : Type} (f : α -> List It) (g : α -> List UInt8) : ∀ (l : List α), (∀ x ∈ l, flat (f x) = g x) -> flat (l.map f).flatten = (l.map g).flatten
  | [], _ => rfl
  | x :: l, h => by
    simp only [List.map_cons, List.flatten_cons, flat_append]
    rw [h x (by simp), flat_map f g l fun y hy => h y (by simp [hy])]
theorem pits_flat (m n : Nat) (p : Prg) (h : gP m n p) : flat (pits m n p) = ptext m n p := by
  unfold pits ptext
  rw [flat_append, flat_map dits dtext p.decls fun d hd => dits_flat d (h.d d hd), flat_map (tits m n) (ttext m n) p.threads fun ss hs => tits_flat m n ss (h.s ss hs)]

theorem okF_map {α : Type} (f : α -> List It) : ∀ (l : List α) (r : List UInt8), (∀ x ∈ l, ∀ r, okF (f x) r) -> okF (l.map f).flatten r
  | [], _, _ => trivial
  | x :: l, r, h => by
    simp only [List.map_cons, List.flatten_cons]
    exact okF_append _ _ _ (h x (by simp) _) (okF_map f l r fun y hy => h y (by simp [hy]))
theorem dits_ok (d : Dcl) (l : List UInt8) (h : gD d) : okF (dits d) l := by
  obtain ⟨hn, ⟨hl, _⟩ | ⟨hl, hlab, ⟨k, hk, hk2⟩, hb⟩⟩ := h
  · unfold dits
    rw [if_pos hl]
    exact okF_append _ _ _ (ok_kw (by decide) (by decide) (by decide) rfl (okF_g gap_blank (ok_wd hn rfl trivial))) (ok_ends l)
  · unfold dits
    rw [if_neg (by rw [hl]; decide)]
    have s2 : soft (flat (byI d ++ ends) ++ l) = true := by
      unfold byI
      split
      · rfl
      · rfl
    have s1 : soft (flat (sizeI d ++ (byI d ++ ends)) ++ l) = true := by
      unfold sizeI
      split
      · rfl
      · exact s2
    have o3 : okF (byI d ++ ends) l := by
      unfold byI
      split
      · exact ok_ends l
      · rename_i hz
        rcases hb with hb | hb
        · rw [hb] at hz; exact absurd rfl hz
        · exact okF_append _ _ _ (okF_g gap_blank (ok_kw (by decide) (by decide) (by decide) rfl (okF_g gap_blank (ok_wd hb rfl trivial)))) (ok_ends l)
    have o2 : okF (sizeI d ++ (byI d ++ ends)) l := by
      unfold sizeI
      split
      · exact okF_append _ _ _ (ok_one (by decide) (by decide) (okF_s (reads_dg (by omega) rfl) (ok_one (by decide) (by decide) trivial))) o3
      · exact o3
    have hk : okF [iS (kw (labK d)), iG [32], iS (wd d.name)] (flat (sizeI d ++ (byI d ++ ends)) ++ l) := by
      unfold labK
      split
      · exact ok_kw (by decide) (by decide) (by decide) rfl (okF_g gap_blank (ok_wd hn s1 trivial))
      · exact ok_kw (by decide) (by decide) (by decide) rfl (okF_g gap_blank (ok_wd hn s1 trivial))
    exact okF_append _ _ _ hk o2
theorem tits_ok (m n : Nat) (ss : List Stm) (l : List UInt8) (h : ∀ s ∈ ss, gS m n s) : okF (tits m n ss) l := by
  unfold tits
  exact okF_append _ _ _ (ok_kw (by decide) (by decide) (by decide) rfl (okF_g gap_blank (ok_one (by decide) (by decide) (okF_g gap_line trivial)))) (okF_append _ _ _ (bits_ok ss _ fun x hx l => sits_ok m n 1 x l (h x hx)) (ok_one (by decide) (by decide) (okF_g gap_line trivial)))
theorem pits_ok (m n : Nat) (p : Prg) (h : gP m n p) : okF (pits m n p) [] :=
  okF_append _ _ _ (okF_map dits _ _ fun d hd r => dits_ok d r (h.d d hd)) (okF_map (tits m n) _ _ fun ss hs r => tits_ok m n ss r (h.s ss hs))

theorem allOK_map {α : Type} (f : α -> List It) : ∀ (l : List α), (∀ x ∈ l, allOK (sgs (f x))) -> allOK (sgs (l.map f).flatten)
  | [], _ => allOK_nil
  | x :: l, h => by
    simp only [List.map_cons, List.flatten_cons, sgs_append]
    exact allOK_append (h x (by simp)) (allOK_map f l fun y hy => h y (by simp [hy]))
theorem dits_sok (d : Dcl) (h : gD d) : allOK (sgs (dits d)) := by
  obtain ⟨hn, ⟨hl, _⟩ | ⟨hl, hlab, ⟨k, hk, hk2⟩, hb⟩⟩ := h
  · unfold dits
    rw [if_pos hl, sgs_append]
    exact allOK_append (allOK_cons (kw_ok (by decide)) (allOK_cons (wd_ok hn) allOK_nil)) ends_sok
  · unfold dits
    rw [if_neg (by rw [hl]; decide)]
    simp only [sgs_append]
    refine allOK_append (allOK_cons (kw_ok (by unfold labK; split <;> decide)) (allOK_cons (wd_ok hn) allOK_nil)) (allOK_append ?_ (allOK_append ?_ ends_sok))
    · unfold sizeI
      split
      · exact allOK_cons (sn_ok (by simp)) (allOK_cons (dg_ok _) (allOK_cons (sn_ok (by simp)) allOK_nil))
      · exact allOK_nil
    · unfold byI
      split
      · exact allOK_nil
      · rename_i hz
        rcases hb with hb | hb
        · rw [hb] at hz; exact absurd rfl hz
        · exact allOK_cons (kw_ok (by decide)) (allOK_cons (wd_ok hb) allOK_nil)
theorem tits_sok (m n : Nat) (ss : List Stm) (h : ∀ s ∈ ss, gS m n s) : allOK (sgs (tits m n ss)) := by
  unfold tits
  simp only [sgs_append]
  exact allOK_append (allOK_cons (kw_ok (by decide)) (allOK_cons (sn_ok (by simp)) allOK_nil)) (allOK_append (bits_sok ss fun x hx => sits_sok m n 1 x (h x hx)) (allOK_cons (sn_ok (by simp)) allOK_nil))

def eqD (d e : Dcl) : Prop := d.lock = e.lock /\ d.label = e.label /\ d.name = e.name /\ d.size = e.size /\ d.by_ = e.by_
theorem dits_head {d : Dcl} : ∃ x ss, sgs (dits d) = kw x :: ss /\ (x = kLock \/ x = kPublic \/ x = kSecret) := by
  unfold dits
  split
  · exact ⟨kLock, _, rfl, .inl rfl⟩
  · refine ⟨labK d, _, rfl, ?_⟩
    unfold labK
    split
    · exact .inr (.inl rfl)
    · exact .inr (.inr rfl)
theorem empty_size {s : ByteArray} (h : s = ⟨#[]⟩ \/ isName s) (hz : s.size = 0) : s = ⟨#[]⟩ := by
  rcases h with h | h
  · exact h
  · exact absurd hz (name_pos h)
theorem cells_back (d0 d : Dcl) (hn : isName d.name) (hb : d.by_ = ⟨#[]⟩ \/ isName d.by_) (k : Nat) (hk : d.size = k) (hk2 : k <= 64) (t : Tok) (us : List Tok) (z : Tok) (r : List Tok) (ht : t.kind = 1) (htx : t.text = bys d.name) (hu : us.map sgOf = sgs (sizeI d) ++ sgs (byI d)) (hz : z.text = [59]) (h0 : d0.by_ = ⟨#[]⟩) :
    cellsP d0 ⟨t :: (us ++ (z :: r)), none⟩ = ({ d0 with name := d.name, size := d.size, by_ := d.by_ }, ⟨z :: r, none⟩) := by
  unfold cellsP
  obtain ⟨u1, u2, rfl, h1, h2⟩ := List.map_eq_append_iff.1 hu
  have hname : bstr (bys d.name) = d.name := bstr_bys _
  have tail : ∀ (x : Int), x = d.size -> (if (⟨u2 ++ (z :: r), none⟩ : Rd).is kBy then (let b := (⟨u2 ++ (z :: r), none⟩ : Rd).next.name; ({ d0 with name := bstr t.text, size := x, by_ := bstr b.1 }, b.2)) else ({ d0 with name := bstr t.text, size := x }, ⟨u2 ++ (z :: r), none⟩)) = (({ d0 with name := d.name, size := d.size, by_ := d.by_ } : Dcl), (⟨z :: r, none⟩ : Rd)) := fun x hx => by
    unfold byI at h2
    split at h2
    · rename_i hz0
      obtain rfl : u2 = [] := by simpa [sgs] using h2
      rw [List.nil_append, is_cons, hz, if_neg (by decide), htx, hname, hx, empty_size hb hz0, <- h0]
    · obtain ⟨b1, us', rfl, kb1, xb1, _, h3⟩ := tok_cons (show u2.map sgOf = kw kBy :: wd d.by_ :: [] from h2)
      obtain ⟨b2, us'', rfl, kb2, xb2, _, h4⟩ := tok_cons h3
      obtain rfl : us'' = [] := by simpa using h4
      rw [show [b1, b2] ++ (z :: r) = b1 :: b2 :: (z :: r) from rfl, is_cons, xb1, if_pos (by decide), next_cons b1 (by simp), name_cons (by simp) none kb2, htx, hname, hx, xb2]
      rfl
  rw [name_cons (ne_app (by simp)) none ht]
  simp only
  unfold sizeI at h1
  split at h1
  · rename_i hp
    obtain ⟨a1, us', rfl, ka1, xa1, _, h3⟩ := tok_cons (show u1.map sgOf = sn [91] :: dg d.size.toNat :: sn [93] :: [] from h1)
    obtain ⟨a2, us', rfl, ka2, xa2, va2, h3⟩ := tok_cons h3
    obtain ⟨a3, us', rfl, ka3, xa3, _, h3⟩ := tok_cons h3
    obtain rfl : us' = [] := by simpa using h3
    have e1 : [a1, a2, a3] ++ u2 ++ (z :: r) = a1 :: a2 :: a3 :: (u2 ++ (z :: r)) := by simp
    have hv : a2.value = d.size.toNat := va2
    have hnum : (⟨a2 :: a3 :: (u2 ++ (z :: r)), none⟩ : Rd).number 64 = (a2.value, ⟨a3 :: (u2 ++ (z :: r)), none⟩) := by
      unfold Rd.number
      rw [here_cons, if_pos ka2, if_neg (by rw [hv]; omega), next_cons a2 (by simp)]
    rw [e1]
    simp only [is_cons, xa1, beq_self_eq_true, if_true, next_cons a1 (show a2 :: a3 :: (u2 ++ (z :: r)) ≠ [] by simp), hnum, want_cons (ne_app (us := u2) (show z :: r ≠ [] by simp)) none xa3]
    exact tail _ (by rw [hv]; omega)
  · rename_i hp
    obtain rfl : u1 = [] := by simpa [sgs] using h1
    have hno : (⟨u2 ++ (z :: r), none⟩ : Rd).is [91] = false := by
      unfold byI at h2
      split at h2
      · obtain rfl : u2 = [] := by simpa [sgs] using h2
        rw [List.nil_append, is_cons, hz]; decide
      · obtain ⟨b1, us', rfl, kb1, xb1, _, h3⟩ := tok_cons (show u2.map sgOf = kw kBy :: wd d.by_ :: [] from h2)
        rw [List.cons_append, is_cons, xb1]; decide
    simp only [List.nil_append, hno, Bool.false_eq_true, if_false]
    exact tail 0 (by omega)
theorem ends_split {xs : List Tok} {ss : List Sg} (h : xs.map sgOf = ss ++ sgs ends) : ∃ ys z, xs = ys ++ [z] /\ ys.map sgOf = ss /\ z.text = [59] /\ z.kind = 4 := by
  obtain ⟨ys, zs, rfl, h1, h2⟩ := List.map_eq_append_iff.1 h
  obtain ⟨z, zs', rfl, hk, ht, _, h3⟩ := tok_cons (show zs.map sgOf = sn [59] :: [] from h2)
  obtain rfl : zs' = [] := by simpa using h3
  exact ⟨ys, z, rfl, h1, ht, hk⟩
theorem decl_back (d : Dcl) (us r : List Tok) (h : gD d) (hu : us.map sgOf = sgs (dits d)) (hr : goodL r) : ∃ d', declP ⟨us ++ r, none⟩ = (d', ⟨r, none⟩) /\ eqD d' d := by
  obtain ⟨hn, ⟨hl, h1, h2, h3⟩ | ⟨hl, hlab, ⟨k, hk, hk2⟩, hb⟩⟩ := h
  · unfold dits at hu
    rw [if_pos hl, sgs_append] at hu
    obtain ⟨us, z, rfl, hu, hz, hzk⟩ := ends_split hu
    obtain ⟨t1, us, rfl, k1, x1, _, hu⟩ := tok_cons (show us.map sgOf = kw kLock :: (wd d.name :: []) from hu)
    obtain ⟨t2, us, rfl, k2, x2, _, hu⟩ := tok_cons hu
    obtain rfl : us = [] := by simpa using hu
    refine ⟨⟨true, 0, bstr t2.text, 0, ⟨#[]⟩, t1.at_⟩, ?_, ⟨hl.symm, h1.symm, by show bstr t2.text = _; rw [x2]; exact bstr_bys _, h2.symm, h3.symm⟩⟩
    have e1 : [t1, t2] ++ [z] ++ r = t1 :: t2 :: (z :: r) := by simp
    rw [e1]
    unfold declP
    simp only [here_cons, is_cons, x1, beq_self_eq_true, if_true, next_cons t1 (show t2 :: (z :: r) ≠ [] by simp), name_cons (show (z :: r) ≠ [] by simp) none k2, want_cons hr.ne none hz]
  · unfold dits at hu
    rw [if_neg (by rw [hl]; decide)] at hu
    have hu' : us.map sgOf = (kw (labK d) :: wd d.name :: (sgs (sizeI d) ++ sgs (byI d))) ++ sgs ends := by
      rw [hu]; simp only [sgs_append]; simp [sgs, iS, iG]
    clear hu
    obtain ⟨us, z, rfl, hu, hz, hzk⟩ := ends_split hu'
    obtain ⟨t1, us, rfl, k1, x1, _, hu⟩ := tok_cons hu
    obtain ⟨t2, us, rfl, k2, x2, _, hu⟩ := tok_cons hu
    have e1 : t1 :: t2 :: us ++ [z] ++ r = t1 :: t2 :: (us ++ (z :: r)) := by simp
    rw [e1]
    refine ⟨⟨false, d.label, d.name, d.size, d.by_, t1.at_⟩, ?_, ⟨hl.symm, rfl, rfl, rfl, rfl⟩⟩
    unfold declP
    simp only [here_cons, is_cons, x1, next_cons t1 (show t2 :: (us ++ (z :: r)) ≠ [] by simp)]
    rcases hlab with hlab | hlab
    · have eK : labK d = kPublic := by unfold labK; rw [if_pos hlab]
      rw [eK, if_neg (by decide), if_pos (by decide), cells_back _ d hn hb k hk hk2 t2 us z r k2 x2 hu hz rfl]
      simp only [want_cons hr.ne none hz]
      rw [hlab]
    · have eK : labK d = kSecret := by unfold labK; rw [if_neg (by omega)]
      rw [eK, if_neg (by decide), if_neg (by decide), if_pos (by decide), cells_back _ d hn hb k hk hk2 t2 us z r k2 x2 hu hz rfl]
      simp only [want_cons hr.ne none hz]
      rw [hlab]
theorem declLoop_back (r : List Tok) (hr : goodL r) (hth : (r.headD (endT 0)).text = kThread) : ∀ (ds : List Dcl) (k : Nat) (acc : List Dcl) (us : List Tok), (∀ d ∈ ds, gD d) -> us.map sgOf = sgs (ds.map dits).flatten -> acc.length + ds.length <= 64 -> ds.length < k ->
    ∃ ds', declLoop k acc ⟨us ++ r, none⟩ = (acc ++ ds', ⟨r, none⟩) /\ eqL eqD ds' ds
  | [], k, acc, us, _, hu, _, hk => by
    obtain rfl : us = [] := by simpa [sgs] using hu
    obtain ⟨k, rfl⟩ : ∃ j, k = j + 1 := ⟨k - 1, by simp at hk; omega⟩
    refine ⟨[], ?_, eqL_nil⟩
    rw [declLoop]
    have his : (⟨r, none⟩ : Rd).is kThread = true := by unfold Rd.is Rd.here; rw [hth]; decide
    simp only [List.nil_append, Option.isSome_none, Bool.false_eq_true, if_false, his, if_true, List.append_nil]
  | d :: ds, k, acc, us, hg, hu, hl, hk => by
    simp only [List.map_cons, List.flatten_cons, sgs_append] at hu
    obtain ⟨ua, ub, rfl, hua, hub⟩ := List.map_eq_append_iff.1 hu
    have hgb : goodL (ub ++ r) := hr.app (toks_ok hub (allOK_map dits ds fun x hx => dits_sok x (hg x (by simp [hx]))))
    obtain ⟨d', ed, qd⟩ := decl_back d ua (ub ++ r) (hg d (by simp)) hua hgb
    simp only [List.length_cons] at hl hk
    obtain ⟨k, rfl⟩ : ∃ j, k = j + 1 := ⟨k - 1, by omega⟩
    obtain ⟨ds', eds, qds⟩ := declLoop_back r hr hth ds k (acc ++ [d']) ub (fun x hx => hg x (by simp [hx])) hub (by simp; omega) (by omega)
    refine ⟨d' :: ds', ?_, eqL_cons qd qds⟩
    have his : (⟨ua ++ (ub ++ r), none⟩ : Rd).is kThread = false := by
      obtain ⟨x, ss, e0, hx⟩ := dits_head (d := d)
      rw [e0] at hua
      obtain ⟨t, ts, rfl, _, ht, _⟩ := tok_cons hua
      rw [List.cons_append, is_cons, ht]
      rcases hx with rfl | rfl | rfl <;> decide
    rw [declLoop]
    rw [List.append_assoc]
    simp only [Option.isSome_none, Bool.false_eq_true, if_false, his, if_neg (show ¬ acc.length = 64 by omega), ed, eds]
    simp

theorem thr_back (m n : Nat) (ss : List Stm) (us r : List Tok) (hg : ∀ s ∈ ss, gS m n s) (hf : ∀ s ∈ ss, fitS m n 1 s) (hu : us.map sgOf = sgs (tits m n ss)) (hr : goodL r) :
    ∃ ss', blockOf (stP 40) 1 ((⟨us ++ r, none⟩ : Rd).want kThread) = (ss', ⟨r, none⟩) /\ eqL (eqS m n) ss' ss := by
  unfold tits at hu
  have hu' : us.map sgOf = kw kThread :: sn [123] :: (sgs (bits m n 1 ss) ++ [sn [125]]) := by
    rw [hu]; simp only [sgs_append]; simp [sgs, iS, iG]
  clear hu
  obtain ⟨t1, us, rfl, k1, x1, _, hu⟩ := tok_cons hu'
  obtain ⟨t2, us, rfl, k2, x2, _, hu⟩ := tok_cons hu
  obtain ⟨ub, us, rfl, hub, hu⟩ := List.map_eq_append_iff.1 hu
  obtain ⟨z, us, rfl, hzk, hz, _, hu⟩ := tok_cons hu
  obtain rfl : us = [] := by simpa using hu
  obtain ⟨bs, eb, qb⟩ := block_back (st_back m n) 40 1 1 t2 z r ub ss x2 hz (by rw [hzk]; decide) hr (by omega) hg hf hub
  refine ⟨bs, ?_, qb⟩
  have e1 : t1 :: t2 :: (ub ++ [z]) ++ r = t1 :: t2 :: (ub ++ (z :: r)) := by simp
  rw [e1, want_cons (by simp) none x1, eb]
theorem end_good (e : Nat) : goodL [endT e] := ⟨[], e, rfl, by simp⟩
theorem thrLoop_back (m n e : Nat) : ∀ (ts : List (List Stm)) (k : Nat) (acc : List (List Stm)) (us : List Tok), (∀ ss ∈ ts, ∀ s ∈ ss, gS m n s) -> (∀ ss ∈ ts, ∀ s ∈ ss, fitS m n 1 s) -> us.map sgOf = sgs (ts.map (tits m n)).flatten -> acc.length + ts.length <= 16 -> ts.length < k ->
    ∃ ts', thrLoop k acc ⟨us ++ [endT e], none⟩ = (acc ++ ts', ⟨[endT e], none⟩) /\ eqL (eqL (eqS m n)) ts' ts
  | [], k, acc, us, _, _, hu, _, hk => by
    obtain rfl : us = [] := by simpa [sgs] using hu
    obtain ⟨k, rfl⟩ : ∃ j, k = j + 1 := ⟨k - 1, by simp at hk; omega⟩
    refine ⟨[], ?_, eqL_nil⟩
    rw [thrLoop]
    simp only [List.nil_append, Option.isSome_none, Bool.false_eq_true, if_false, here_cons, if_pos (show (endT e).kind = 0 from rfl), List.append_nil]
  | ss :: ts, k, acc, us, hg, hf, hu, hl, hk => by
    simp only [List.map_cons, List.flatten_cons, sgs_append] at hu
    obtain ⟨ua, ub, rfl, hua, hub⟩ := List.map_eq_append_iff.1 hu
    have hgb : goodL (ub ++ [endT e]) := (end_good e).app (toks_ok hub (allOK_map (tits m n) ts fun x hx => tits_sok m n x (hg x (by simp [hx]))))
    obtain ⟨s', es, qs⟩ := thr_back m n ss ua (ub ++ [endT e]) (hg ss (by simp)) (hf ss (by simp)) hua hgb
    simp only [List.length_cons] at hl hk
    obtain ⟨k, rfl⟩ : ∃ j, k = j + 1 := ⟨k - 1, by omega⟩
    obtain ⟨ts', ets, qts⟩ := thrLoop_back m n e ts k (acc ++ [s']) ub (fun x hx => hg x (by simp [hx])) (fun x hx => hf x (by simp [hx])) hub (by simp; omega) (by omega)
    refine ⟨s' :: ts', ?_, eqL_cons qs qts⟩
    have hkind : ¬ (⟨ua ++ (ub ++ [endT e]), none⟩ : Rd).here.kind = 0 := by
      unfold tits at hua
      obtain ⟨t, us', rfl, hk', _⟩ := tok_cons (show ua.map sgOf = kw kThread :: _ from hua)
      rw [List.cons_append, here_cons, hk']; decide
    rw [thrLoop]
    rw [List.append_assoc]
    simp only [Option.isSome_none, Bool.false_eq_true, if_false, if_neg hkind, if_neg (show ¬ acc.length = 16 by omega), es, ets]
    simp

def eqP (m n : Nat) (p q : Prg) : Prop := eqL eqD p.decls q.decls /\ eqL (eqL (eqS m n)) p.threads q.threads
theorem toks_back (m n : Nat) (p : Prg) (h : gP m n p) (us : List Tok) (e : Nat) (hu : us.map sgOf = sgs (pits m n p)) : ∃ q, progP (us ++ [endT e]) = .ok q /\ eqP m n q p := by
  unfold pits at hu
  rw [sgs_append] at hu
  obtain ⟨ua, ub, rfl, hua, hub⟩ := List.map_eq_append_iff.1 hu
  have hgb : goodL (ub ++ [endT e]) := (end_good e).app (toks_ok hub (allOK_map (tits m n) _ fun x hx => tits_sok m n x (h.s x hx)))
  have hth : ((ub ++ [endT e]).headD (endT 0)).text = kThread := by
    have h1 := h.t1
    cases ht : p.threads with
    | nil => rw [ht] at h1; simp at h1
    | cons ss ts =>
      rw [ht] at hub
      simp only [List.map_cons, List.flatten_cons, sgs_append] at hub
      obtain ⟨uc, ud, rfl, huc, _⟩ := List.map_eq_append_iff.1 hub
      unfold tits at huc
      obtain ⟨t, us', rfl, _, hx, _⟩ := tok_cons (show uc.map sgOf = kw kThread :: _ from huc)
      simpa using hx
  obtain ⟨ds', ed, qd⟩ := declLoop_back (ub ++ [endT e]) hgb hth p.decls 65 [] ua h.d hua (by simpa using h.dl) (by have := h.dl; omega)
  obtain ⟨ts', et, qt⟩ := thrLoop_back m n e p.threads 17 [] ub h.s h.f hub (by simpa using h.t2) (by have := h.t2; omega)
  refine ⟨⟨ds', ts'⟩, ?_, qd, qt⟩
  unfold progP declsP threadsP
  rw [List.append_assoc, ed]
  simp only [et, List.nil_append]
theorem items_back (m n : Nat) (p : Prg) (h : gP m n p) (is : List It) (ho : okF is []) (hs : sgs is = sgs (pits m n p)) (hl : (flat is).length <= 65536) : ∃ q, parseP (flat is) = .ok q /\ eqP m n q p := by
  obtain ⟨q, e, hq⟩ := toks_back m n p h (toksAt 0 is) (flat is).length (by rw [toksAt_sgs, hs])
  refine ⟨q, ?_, hq⟩
  unfold parseP
  rw [cut_items is ho hl]
  exact e
theorem text_back (m n : Nat) (p : Prg) (h : gP m n p) (hl : (ptext m n p).length <= 65536) : ∃ q, parseP (ptext m n p) = .ok q /\ eqP m n q p := by
  rw [<- pits_flat m n p h] at hl ⊢
  exact items_back m n p h _ (pits_ok m n p h) rfl hl
end Go.Proofs.YtfginegegaokbaaGreatDoor.Pr
