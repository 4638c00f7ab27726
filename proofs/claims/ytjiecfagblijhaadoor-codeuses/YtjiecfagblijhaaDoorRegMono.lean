/- A region whose order is drawn and whose operations turn nothing that was there: of each operation's value something is known that stays known when memory grows; guards let all operations through. No program. -/
import Derived.Test.YtjiecfagblijhaaDoorRegPos
import Derived.Below
namespace Go.Proofs.YtjiecfagblijhaaDoor
open Go Go.RowKit
set_option linter.unusedVariables false
set_option linter.unusedSimpArgs false

theorem wrap_val {a : Int} (h : -9223372036854775808 ≤ a ∧ a ≤ 9223372036854775807) : Value.int .i64 (IntKind.i64.wrap a) = .int .i64 a := by
  rw [IntKind.wrap_i64]
  congr 1
  omega
/-- Each guard is an operation that the guarded one waits for. -/
def guardsIn (ops : Array Oper) : Bool := (List.range ops.size).all fun i => match (ops[i]?).bind (·.guard) with
  | none => true
  | some (j, _) => (ops[i]?).any fun o => (o.after.any fun e => Region.binds .any e && e.on == j) && ((ops[j]?).bind (·.dst)).isSome
/-- All slots that are written are there. -/
def slotsIn (ops : Array Oper) (n : Nat) : Bool := ops.all fun o => match o.dst with | none => true | some s => decide (s < n)
theorem guardsIn_at {ops : Array Oper} (h : guardsIn ops = true) {i : Nat} {o : Oper} (ho : ops[i]? = some o) {j : Nat} {b : Bool} (hg : o.guard = some (j, b)) : (o.after.any fun e => Region.binds .any e && e.on == j) = true ∧ ∃ p s, ops[j]? = some p ∧ p.dst = some s := by
  have hi : i < ops.size := (Array.getElem?_eq_some_iff.1 ho).1
  have := List.all_eq_true.1 h i (List.mem_range.2 hi)
  rw [ho] at this
  simp only [Option.bind_some, hg, Option.any_some, Bool.and_eq_true] at this
  refine ⟨this.1, ?_⟩
  cases hp : ops[j]? with
  | none => rw [hp] at this; simp at this
  | some p =>
    rw [hp] at this
    simp only [Option.bind_some] at this
    cases hs : p.dst with
    | none => rw [hs] at this; simp at this
    | some s => exact ⟨p, s, rfl, hs⟩
theorem slotsIn_at {ops : Array Oper} {n : Nat} (h : slotsIn ops n = true) {i : Nat} {o : Oper} (ho : ops[i]? = some o) {s : Nat} (hs : o.dst = some s) : s < n := by
  have := (Array.all_eq_true_iff_forall_mem.1 h) o (Array.mem_of_getElem? ho)
  simpa [hs] using this
/-- What an operation that has come up has left, and what it waits for. -/
def Pre (ops : Array Oper) (R : Nat → Value → World → Prop) (o : Oper) (a : Act) (w : World) : Prop :=
  ∀ (j s : Nat), (o.after.any fun e => Region.binds .any e && e.on == j) = true → (ops[j]?).bind (·.dst) = some s → R j (a.tmps[s]?.getD undef) w

theorem wp_region_mono {P : Program} {ops : Array Oper} {Q : Exit → Act → World → Prop} {id : Nat} {a0 : Act} {w0 : World} (hm : P.follows .mixedOrders = true) (hl : lexOK ops = true) (hd : dstOK ops = true) (hgi : guardsIn ops = true) (hsl : slotsIn ops a0.tmps.size = true)
    (R : Nat → Value → World → Prop) (hmono : ∀ i v w w', Below w.heap.size w w' → R i v w → R i v w')
    (gs : List (Nat × Bool)) (hgs : (ops.all fun o => match o.guard with | none => true | some p => gs.contains p) = true) (hguard : ∀ p ∈ gs, ∀ (v : Value) (w : World), R p.1 v w → v = .bool p.2)
    (hstep : ∀ (a : Act) (w : World) (i : Nat) (o : Oper), ops[i]? = some o → Below w0.heap.size w0 w → (∀ s, (ops.all fun o => o.dst != some s) = true → a.tmps[s]?.getD undef = a0.tmps.getD s undef) → Pre ops R o a w →
      ∀ K : Act → World → Prop, (∀ v w', Below w.heap.size w w' → (o.dst ≠ none → R i v w') → K (a.put o.dst v) w') → o.wp P a w K Q)
    (hend : ∀ (V : Nat → Value) w, Below w0.heap.size w0 w → (∀ j, ((ops[j]?).bind (·.dst)).isSome = true → R j (V j) w) → Q .normal ⟨writeAll ops V a0.tmps, a0.defers⟩ w) : (Code.region id ops true).wp P Q a0 w0 := by
  have hdrew : Below w0.heap.size w0 w0.drew := ⟨rfl, rfl, rfl, Nat.le_refl _, fun _ _ => rfl⟩
  refine wp_region_inv hm hl (fun L a w => Below w0.heap.size w0 w ∧ a.defers = a0.defers ∧ a.tmps.size = a0.tmps.size ∧ (∀ s, (∀ (i : Nat) (o : Oper), ops[i]? = some o → o.dst ≠ some s) → a.tmps.getD s undef = a0.tmps.getD s undef) ∧ ∀ (i s : Nat), (ops[i]?).bind (·.dst) = some s → L i = true → R i (a.tmps[s]?.getD undef) w) ⟨hdrew, rfl, rfl, fun _ _ => rfl, fun _ _ _ h => by cases h⟩ ?_ ?_
  · rintro L a w i o ho hi hpre ⟨hb, h1, h2, h3, h4⟩
    have hP : Pre ops R o a w := fun j s hw hs => h4 j s hs (pre_at hpre j hw)
    unfold wpOp
    rw [ho]
    show if Region.wanted o (yielded ops a.tmps) then _ else _
    have hwant : Region.wanted o (yielded ops a.tmps) = true := by
      cases hg : o.guard with
      | none => simp [Region.wanted, hg]
      | some jb =>
        obtain ⟨j, b⟩ := jb
        obtain ⟨hw, p, s, hp, hs⟩ := guardsIn_at hgi ho hg
        have hmem : (j, b) ∈ gs := by
          have := (Array.all_eq_true_iff_forall_mem.1 hgs) o (Array.mem_of_getElem? ho)
          simpa [hg] using this
        have hv := hguard (j, b) hmem _ _ (hP j s hw (by rw [hp]; exact hs))
        have hlt : s < a.tmps.size := by rw [h2]; exact slotsIn_at hsl hp hs
        have he : a.tmps[s]? = some (.bool b) := by
          rw [Array.getElem?_eq_getElem hlt] at hv ⊢
          simpa using hv
        simp [Region.wanted, hg, yielded, hp, hs, he]
    rw [if_pos hwant]
    refine .inl (hstep a w i o ho hb (fun s hn => ?_) hP _ ?_)
    · rw [← Array.getD_eq_getD_getElem?]
      refine h3 s fun k p hk e => ?_
      have := (Array.all_eq_true_iff_forall_mem.1 hn) p (Array.mem_of_getElem? hk)
      simp [e] at this
    · intro v w' hbw hR
      have hbw0 : Below w0.heap.size w0 w' := hb.trans (hbw.mono hb.size)
      cases hs : o.dst with
      | none =>
        refine ⟨hbw0, h1, h2, h3, fun j s hj hL => ?_⟩
        by_cases hji : j = i
        · subst hji; rw [ho] at hj; simp [hs] at hj
        · exact hmono _ _ _ _ hbw (h4 j s hj (by simpa [hji] using hL))
      | some t =>
        have htl : t < a.tmps.size := by rw [h2]; exact slotsIn_at hsl ho hs
        refine ⟨hbw0, h1, by simpa [Act.put] using h2, fun s hn => ?_, fun j s hj hL => ?_⟩
        · have hne : t ≠ s := fun e => hn i o ho (by rw [hs, e])
          show (a.tmps.setIfInBounds t v).getD s undef = _
          rw [Array.getD_eq_getD_getElem?, Array.getElem?_setIfInBounds_ne hne, ← Array.getD_eq_getD_getElem?]
          exact h3 s hn
        · show R j ((a.tmps.setIfInBounds t v)[s]?.getD undef) w'
          by_cases hji : j = i
          · subst hji
            rw [ho] at hj
            obtain rfl : t = s := by simpa [hs] using hj
            rw [Array.getElem?_setIfInBounds_self_of_lt htl]
            exact hR (by simp [hs])
          · have hne : t ≠ s := fun e => by
              subst e
              cases hp : ops[j]? with
              | none => rw [hp] at hj; cases hj
              | some p => rw [hp] at hj; exact hji (dstOK_at hd hp ho hj hs)
            rw [Array.getElem?_setIfInBounds_ne hne]
            exact hmono _ _ _ _ hbw (h4 j s hj (by simpa [hji] using hL))
  · rintro L a w hL ⟨hb, h1, h2, h3, h4⟩
    have hS : Slots ops a0 L (fun j => a.tmps[((ops[j]?).bind (·.dst)).getD 0]?.getD undef) a := by
      refine ⟨h1, h2, fun i o s ho hs hLi hlt => ?_, h3⟩
      simp only [ho, Option.bind_some, hs, Option.getD_some]
      rw [Array.getD_eq_getD_getElem?]
    rw [hS.all hd hL]
    refine hend _ w hb fun j hj => ?_
    cases hs : (ops[j]?).bind (·.dst) with
    | none => rw [hs] at hj; cases hj
    | some s =>
      simp only [hs, Option.getD_some]
      have hjl : j < ops.size := by
        rcases Nat.lt_or_ge j ops.size with h | h
        · exact h
        · rw [Array.getElem?_eq_none h] at hs; cases hs
      exact h4 j s hs (hL j hjl)
def prs (ss : List Nat) (V : Nat → Value) : List (Nat × Value) := ss.zipIdx.map fun p => (p.1, V p.2)
/-- A region's slots, one by one. -/
theorem at_all {ops : Array Oper} {V : Nat → Value} {t : Array Value} {Q : Exit → Act → World → Prop} {d : List Deferred} {w : World} (l : List (Nat × Value)) (e : ∀ t, writeAll ops V t = l.foldl (fun t p => t.setIfInBounds p.1 p.2) t) (h : Q .normal ⟨l.foldl (fun t p => t.setIfInBounds p.1 p.2) t, d⟩ w) : Q .normal ⟨writeAll ops V t, d⟩ w := by
  rw [e]; exact h
end Go.Proofs.YtjiecfagblijhaaDoor
