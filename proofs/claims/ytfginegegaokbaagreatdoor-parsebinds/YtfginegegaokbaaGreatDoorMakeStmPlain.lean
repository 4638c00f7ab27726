/- What the statements' own maker makes of numbers: statements and programs. Plain functions. -/
import Derived.Test.YtfginegegaokbaaGreatDoorMakePlain
import Derived.Test.YtfginegegaokbaaGreatDoorTextPlain
namespace Go.Proofs.YtfginegegaokbaaGreatDoor
set_option linter.unusedVariables false

/-- A local's name. -/
def nameX (E : Env) : ByteArray := ⟨#[120, digitB E.thread, digitB (E.loc.length / 10), digitB E.loc.length]⟩
def enterE (E : Env) (s : Bool) (c : Int) : Env := { E with loc := E.loc ++ [nameX E], sec := E.sec ++ [s], cnt := E.cnt ++ [c] }
/-- The first locals alone. -/
def cutE (E : Env) (n : Nat) : Env := { E with loc := E.loc.take n, sec := E.sec.take n, cnt := E.cnt.take n }
def doorS : ByteArray := ⟨#[100, 111, 111, 114]⟩
def countS : ByteArray := ⟨#[99, 111, 117, 110, 116]⟩
def stmE (k : Int) (s : ByteArray) (es : List Tree) : Stm := ⟨k, s, es, 0, [], [], 0⟩

abbrev Mk : Type := List Stm × Env × List UInt8
/-- So many statements one behind the other. -/
def loopM (st : Bool → Env → List UInt8 → Mk) (inside : Bool) : Nat → Env → List UInt8 → Mk
  | 0, E, ns => ([], E, ns)
  | j + 1, E, ns => ((loopM st inside j E ns).1 ++ (st inside (loopM st inside j E ns).2.1 (loopM st inside j E ns).2.2).1, (st inside (loopM st inside j E ns).2.1 (loopM st inside j E ns).2.2).2)
def blockM (st : Bool → Env → List UInt8 → Mk) (inside : Bool) (E : Env) (ns : List UInt8) : Mk :=
  let r := loopM st inside (nxV ns 5 + 1) { E with deep := E.deep + 1 } ns.tail
  (r.1, { cutE r.2.1 E.loc.length with deep := E.deep }, r.2.2)

def oneM (k : Int) (s : ByteArray) (E : Env) (e : Tree × List UInt8) : Mk := ([stmE k s [e.1]], E, e.2)
def storeM (s : ByteArray) (E : Env) (i : Tree) (e : Tree × List UInt8) : Mk := ([stmE 2 s [i, e.1]], E, e.2)
def ifM (st : Bool → Env → List UInt8 → Mk) (inside : Bool) (E : Env) (e : Tree × List UInt8) : Mk :=
  ([⟨3, ⟨#[]⟩, [e.1], 0, (blockM st inside E e.2).1, (blockM st inside E (blockM st inside E e.2).2.2).1, 0⟩], E, (blockM st inside E (blockM st inside E e.2).2.2).2.2)
def forM (st : Bool → Env → List UInt8 → Mk) (inside : Bool) (E : Env) (n : Nat) (ns : List UInt8) : Mk :=
  ([⟨4, nameX E, [], n, (blockM st inside (enterE E false n) ns).1, [], 0⟩], E, (blockM st inside (enterE E false n) ns).2.2)
def heldM (r : Mk) (v : Tree × List UInt8) : Mk := ([stmE 5 doorS []] ++ r.1 ++ [stmE 1 sharedS [v.1], stmE 6 doorS []], { r.2.1 with held := false }, v.2)

def stmtB (st : Bool → Env → List UInt8 → Mk) (inside : Bool) (E : Env) (ns : List UInt8) : Mk :=
    if nxV ns 12 = 0 ∧ E.loc.length < 90 then oneM 0 (nameX E) (enterE E true 0) (secM E 6 0 ns.tail)
    else if nxV ns 12 = 1 ∧ E.loc.length < 90 ∧ inside = false then oneM 0 (nameX E) (enterE E false 0) (pubM E 6 0 ns.tail)
    else if nxV ns 12 = 2 then oneM 1 (dig 115 E) E (secM E 6 0 ns.tail)
    else if nxV ns 12 = 3 then storeM (dig 116 E) E (placeM (pubM E 5) E 0 ns.tail).1 (secM E 6 0 (placeM (pubM E 5) E 0 ns.tail).2)
    else if nxV ns 12 = 4 ∧ E.deep < 4 then ifM st true E (secM E 6 0 ns.tail)
    else if nxV ns 12 = 5 ∧ E.deep < 4 then forM st inside E (1 + nxV ns.tail 5) ns.tail.tail
    else if inside = true then oneM 1 (dig 115 E) E (secM E 6 0 ns.tail)
    else if nxV ns 12 = 6 ∧ E.deep < 4 then ifM st false E (pubM E 6 0 ns.tail)
    else if nxV ns 12 = 7 then storeM (dig 113 E) E (placeM (pubM E 5) E 0 ns.tail).1 (pubM E 6 0 (placeM (pubM E 5) E 0 ns.tail).2)
    else if nxV ns 12 = 8 ∧ E.held = false then
      heldM (loopM st false (nxV ns.tail 4 + 1) { E with held := true } ns.tail.tail) (pubM (loopM st false (nxV ns.tail 4 + 1) { E with held := true } ns.tail.tail).2.1 6 1 (loopM st false (nxV ns.tail 4 + 1) { E with held := true } ns.tail.tail).2.2)
    else if nxV ns 12 = 9 then oneM 7 countS E (pubM E 6 0 ns.tail)
    else if nxV ns 12 = 10 then oneM 9 ⟨#[]⟩ E (pubM E 6 0 ns.tail)
    else if nxV ns 12 = 11 then ([stmE 8 ⟨#[]⟩ []], E, ns.tail)
    else oneM 1 (dig 112 E) E (pubM E 6 0 ns.tail)
def stmtM : Nat → Bool → Env → List UInt8 → Mk
  | 0 => fun _ E ns => ([], E, ns)
  | f + 1 => stmtB (stmtM f)

/-- What a thread of its own has. -/
def declsOf (k : Nat) : List Dcl := [⟨false, 0, ⟨#[112, digitB k]⟩, 0, ⟨#[]⟩, 0⟩, ⟨false, 0, ⟨#[113, digitB k]⟩, 4, ⟨#[]⟩, 0⟩, ⟨false, 1, ⟨#[115, digitB k]⟩, 0, ⟨#[]⟩, 0⟩, ⟨false, 1, ⟨#[116, digitB k]⟩, 4, ⟨#[]⟩, 0⟩]
def decls0 : List Dcl := [⟨true, 0, doorS, 0, ⟨#[]⟩, 0⟩, ⟨false, 0, sharedS, 0, doorS, 0⟩, ⟨false, 1, hiddenS, 0, doorS, 0⟩, ⟨false, 0, countS, 0, ⟨#[]⟩, 0⟩]
/-- The first threads: their declarations, their statements, the numbers left. -/
def threadsM : Nat → List UInt8 → List Dcl × List (List Stm) × List UInt8
  | 0, ns => (decls0, [], ns)
  | k + 1, ns =>
    let r := threadsM k ns
    let b := blockM (stmtM 5) false ⟨[], [], [], false, k, 0⟩ r.2.2
    (r.1 ++ declsOf k, r.2.1 ++ [b.1], b.2.2)
/-- The program of numbers (of up to 300). -/
def makeM (ns : List UInt8) : Prg := let r := threadsM (1 + nxV ns 3) ns.tail; ⟨r.1, r.2.1⟩

/-- What was entered stays; all else is as it was. -/
def growE (E E' : Env) : Prop := E'.held = E.held ∧ E'.thread = E.thread ∧ E'.deep = E.deep ∧ ∃ l s c, E'.loc = E.loc ++ l ∧ E'.sec = E.sec ++ s ∧ E'.cnt = E.cnt ++ c ∧ s.length = l.length ∧ c.length = l.length
theorem growE.refl (E : Env) : growE E E := ⟨rfl, rfl, rfl, [], [], [], by simp⟩
theorem growE.trans {a b c : Env} (h : growE a b) (k : growE b c) : growE a c := by
  obtain ⟨h1, h2, h3, l, s, c, h4, h5, h6, h7, h8⟩ := h
  obtain ⟨k1, k2, k3, l', s', c', k4, k5, k6, k7, k8⟩ := k
  exact ⟨k1.trans h1, k2.trans h2, k3.trans h3, l ++ l', s ++ s', c ++ c', by rw [k4, h4, List.append_assoc], by rw [k5, h5, List.append_assoc], by rw [k6, h6, List.append_assoc], by simp [h7, k7], by simp [h8, k8]⟩
theorem growE.enter (E : Env) (s : Bool) (c : Int) : growE E (enterE E s c) := ⟨rfl, rfl, rfl, [nameX E], [s], [c], rfl, rfl, rfl, rfl, rfl⟩
def fullE (E : Env) : Prop := E.sec.length = E.loc.length ∧ E.cnt.length = E.loc.length
theorem cutE_grow {E E' : Env} (hf : fullE E) (h : growE E E') : cutE E' E.loc.length = E := by
  obtain ⟨h1, h2, h3, l, s, c, h4, h5, h6, h7, h8⟩ := h
  obtain ⟨E1, E2, E3, E4, E5, E6⟩ := E
  obtain ⟨F1, F2, F3, F4, F5, F6⟩ := E'
  simp only at h1 h2 h3 h4 h5 h6
  subst h1 h2 h3 h4 h5 h6
  obtain ⟨g1, g2⟩ := hf
  simp only at g1 g2
  have a1 : (E1 ++ l).take E1.length = E1 := by simp
  have a2 : (E2 ++ s).take E1.length = E2 := by rw [← g1]; simp
  have a3 : (E3 ++ c).take E1.length = E3 := by rw [← g2]; simp
  simp only [cutE, a1, a2, a3]
theorem growE.full {E E' : Env} (hf : fullE E) (h : growE E E') : fullE E' := by
  obtain ⟨h1, h2, h3, l, s, c, h4, h5, h6, h7, h8⟩ := h
  obtain ⟨g1, g2⟩ := hf
  exact ⟨by simp [h4, h5, g1, h7], by simp [h4, h6, g2, h8]⟩
theorem enter_full {E : Env} (hf : fullE E) (s : Bool) (c : Int) : fullE (enterE E s c) := (growE.enter E s c).full hf

theorem loop_grow {st : Bool → Env → List UInt8 → Mk} {inside : Bool} (h : ∀ E ns, fullE E → growE E (st inside E ns).2.1) : ∀ (j : Nat) (E : Env) (ns : List UInt8), fullE E → growE E (loopM st inside j E ns).2.1
  | 0, E, ns, _ => growE.refl E
  | j + 1, E, ns, hf => by
    have ih := loop_grow h j E ns hf
    exact ih.trans (h _ _ (ih.full hf))
/-- A block leaves what it found. -/
theorem block_env {st : Bool → Env → List UInt8 → Mk} {inside : Bool} (h : ∀ E ns, fullE E → growE E (st inside E ns).2.1) (E : Env) (ns : List UInt8) (hf : fullE E) : (blockM st inside E ns).2.1 = E := by
  have g := loop_grow h (nxV ns 5 + 1) { E with deep := E.deep + 1 } ns.tail hf
  have e := cutE_grow (E := { E with deep := E.deep + 1 }) hf g
  show { cutE _ E.loc.length with deep := E.deep } = E
  have e' : cutE (loopM st inside (nxV ns 5 + 1) { E with deep := E.deep + 1 } ns.tail).2.1 E.loc.length = { E with deep := E.deep + 1 } := e
  rw [e']
theorem held_grow {E E' : Env} (h : growE { E with held := true } E') (hh : E.held = false) : growE E { E' with held := false } := by
  obtain ⟨h1, h2, h3, h4⟩ := h
  exact ⟨hh.symm, h2, h3, h4⟩
theorem loop_env {E : Env} {s : Bool} {c : Int} (hf : fullE E) : cutE (enterE E s c) ((enterE E s c).loc.length - 1) = E := by
  have : (enterE E s c).loc.length - 1 = E.loc.length := by simp [enterE]
  rw [this]
  exact cutE_grow hf (growE.enter E s c)
theorem grow_ite {E : Env} {c : Prop} [Decidable c] {x y : Mk} (h1 : c → growE E x.2.1) (h2 : ¬ c → growE E y.2.1) : growE E (if c then x else y).2.1 := by
  by_cases h : c
  · rw [if_pos h]; exact h1 h
  · rw [if_neg h]; exact h2 h
theorem stmt_grow : ∀ (f : Nat) (inside : Bool) (E : Env) (ns : List UInt8), fullE E → growE E (stmtM f inside E ns).2.1
  | 0, inside, E, ns, _ => growE.refl E
  | f + 1, inside, E, ns, hf => by
    have ih := stmt_grow f
    have hl := loop_grow (fun E ns hf => ih false E ns hf) (nxV ns.tail 4 + 1) { E with held := true } ns.tail.tail hf
    show growE E (stmtB (stmtM f) inside E ns).2.1
    exact grow_ite (fun _ => growE.enter _ _ _) fun _ => grow_ite (fun _ => growE.enter _ _ _) fun _ => grow_ite (fun _ => growE.refl _) fun _ => grow_ite (fun _ => growE.refl _) fun _ => grow_ite (fun _ => growE.refl _) fun _ => grow_ite (fun _ => growE.refl _) fun _ => grow_ite (fun _ => growE.refl _) fun _ => grow_ite (fun _ => growE.refl _) fun _ => grow_ite (fun _ => growE.refl _) fun _ => grow_ite (fun h => held_grow hl h.2) fun _ => grow_ite (fun _ => growE.refl _) fun _ => grow_ite (fun _ => growE.refl _) fun _ => grow_ite (fun _ => growE.refl _) fun _ => growE.refl _

/-- How much is left to go down. -/
def heldN (E : Env) : Nat := if E.held = true then 1 else 0
theorem grow_heldN {E E' : Env} (h : growE E E') : heldN E' = heldN E := by unfold heldN; rw [h.1]
theorem loop_len {st : Bool → Env → List UInt8 → Mk} {E : Env} {L : Nat} (hg : ∀ E ns, fullE E → growE E (st false E ns).2.1) (h : ∀ E' ns, growE E E' → (st false E' ns).1.length = L) (hf : fullE E) : ∀ (j : Nat) (ns : List UInt8), (loopM st false j E ns).1.length = j * L
  | 0, ns => by simp [loopM]
  | j + 1, ns => by
    have g := loop_grow hg j E ns hf
    show ((loopM st false j E ns).1 ++ (st false (loopM st false j E ns).2.1 (loopM st false j E ns).2.2).1).length = _
    rw [List.length_append, loop_len hg h hf j ns, h _ _ g, Nat.succ_mul]
def lenOK (E : Env) (x : Mk) : Prop := 1 ≤ x.1.length ∧ x.1.length ≤ 7 ∧ (E.held = true → x.1.length = 1)
theorem len_ite {E : Env} {c : Prop} [Decidable c] {x y : Mk} (h1 : c → lenOK E x) (h2 : ¬ c → lenOK E y) : lenOK E (if c then x else y) := by
  by_cases h : c
  · rw [if_pos h]; exact h1 h
  · rw [if_neg h]; exact h2 h
theorem len_one {E E' : Env} {s : Stm} {ns : List UInt8} : lenOK E ([s], E', ns) := ⟨by simp, by simp, fun _ => by simp⟩
theorem stmt_len : ∀ (f : Nat) (inside : Bool) (E : Env) (ns : List UInt8), fullE E → 1 ≤ f → 2 ≤ f + heldN E → lenOK E (stmtM f inside E ns)
  | 0, inside, E, ns, _, h, _ => by omega
  | f + 1, inside, E, ns, hf, _, h2 => by
    have hh : E.held = false → lenOK E (heldM (loopM (stmtM f) false (nxV ns.tail 4 + 1) { E with held := true } ns.tail.tail) (pubM (loopM (stmtM f) false (nxV ns.tail 4 + 1) { E with held := true } ns.tail.tail).2.1 6 1 (loopM (stmtM f) false (nxV ns.tail 4 + 1) { E with held := true } ns.tail.tail).2.2)) := fun hh => by
      have h1 : 1 ≤ f := by
        have : heldN E = 0 := by simp [heldN, hh]
        omega
      have hone : ∀ E' ns, growE { E with held := true } E' → (stmtM f false E' ns).1.length = 1 := fun E' ns g => by
        have e1 : heldN E' = 1 := by rw [grow_heldN g]; rfl
        exact (stmt_len f false E' ns (growE.full (E := { E with held := true }) hf g) h1 (by omega)).2.2 g.1
      have hl := loop_len (E := { E with held := true }) (L := 1) (fun E ns hf => stmt_grow f false E ns hf) hone hf (nxV ns.tail 4 + 1) ns.tail.tail
      have := nxV_lt ns.tail 4 (by omega)
      refine ⟨?_, ?_, fun e => by rw [hh] at e; cases e⟩ <;> (simp only [heldM, List.length_append, List.length_cons, List.length_nil, hl]; omega)
    show lenOK E (stmtB (stmtM f) inside E ns)
    exact len_ite (fun _ => len_one) fun _ => len_ite (fun _ => len_one) fun _ => len_ite (fun _ => len_one) fun _ => len_ite (fun _ => len_one) fun _ => len_ite (fun _ => len_one) fun _ => len_ite (fun _ => len_one) fun _ => len_ite (fun _ => len_one) fun _ => len_ite (fun _ => len_one) fun _ => len_ite (fun _ => len_one) fun _ => len_ite (fun h => hh h.2) fun _ => len_ite (fun _ => len_one) fun _ => len_ite (fun _ => len_one) fun _ => len_ite (fun _ => len_one) fun _ => len_one
/-- There is room for one more local in each block. -/
def roomE (E : Env) : Prop := E.loc.length + 1 ≤ 90 + E.deep
theorem room_ite {d : Nat} {c : Prop} [Decidable c] {x y : Mk} (h1 : c → x.2.1.loc.length + 1 ≤ 90 + d) (h2 : ¬ c → y.2.1.loc.length + 1 ≤ 90 + d) : (if c then x else y).2.1.loc.length + 1 ≤ 90 + d := by
  by_cases h : c
  · rw [if_pos h]; exact h1 h
  · rw [if_neg h]; exact h2 h
theorem loop_room {st : Bool → Env → List UInt8 → Mk} {inside : Bool} (hg : ∀ E ns, fullE E → growE E (st inside E ns).2.1) (h : ∀ E ns, fullE E → 1 ≤ E.deep → roomE E → roomE (st inside E ns).2.1) : ∀ (j : Nat) (E : Env) (ns : List UInt8), fullE E → 1 ≤ E.deep → roomE E → roomE (loopM st inside j E ns).2.1
  | 0, E, ns, _, _, hr => hr
  | j + 1, E, ns, hf, hd, hr => by
    have g := loop_grow hg j E ns hf
    exact h _ _ (g.full hf) (by rw [g.2.2.1]; exact hd) (loop_room hg h j E ns hf hd hr)
theorem stmt_room : ∀ (f : Nat) (inside : Bool) (E : Env) (ns : List UInt8), fullE E → 1 ≤ E.deep → roomE E → roomE (stmtM f inside E ns).2.1
  | 0, inside, E, ns, _, _, h => h
  | f + 1, inside, E, ns, hf, hd, h => by
    have hdeep := (stmt_grow (f + 1) inside E ns hf).2.2.1
    have hl := loop_room (fun E ns hf => stmt_grow f false E ns hf) (fun E ns hf hd hr => stmt_room f false E ns hf hd hr) (nxV ns.tail 4 + 1) { E with held := true } ns.tail.tail hf hd h
    have hld := (loop_grow (fun E ns hf => stmt_grow f false E ns hf) (nxV ns.tail 4 + 1) { E with held := true } ns.tail.tail hf).2.2.1
    unfold roomE at *
    rw [hdeep]
    show (stmtB (stmtM f) inside E ns).2.1.loc.length + 1 ≤ _
    exact room_ite (fun c => by simp [oneM, enterE]; omega) fun _ => room_ite (fun c => by simp [oneM, enterE]; omega) fun _ => room_ite (fun _ => h) fun _ => room_ite (fun _ => h) fun _ => room_ite (fun _ => h) fun _ => room_ite (fun _ => h) fun _ => room_ite (fun _ => h) fun _ => room_ite (fun _ => h) fun _ => room_ite (fun _ => h) fun _ => room_ite (fun _ => by rw [hld] at hl; exact hl) fun _ => room_ite (fun _ => h) fun _ => room_ite (fun _ => h) fun _ => room_ite (fun _ => h) fun _ => h
end Go.Proofs.YtfginegegaokbaaGreatDoor
