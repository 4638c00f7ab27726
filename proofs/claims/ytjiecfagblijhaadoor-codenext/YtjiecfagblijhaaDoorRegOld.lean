/- A region whose order is drawn and whose operations make blocks, where an operation reads a slot that a later one writes. No program. -/
import Derived.Test.YtjiecfagblijhaaDoorRegPos
namespace Go.Proofs.YtjiecfagblijhaaDoor
open Go
set_option linter.unusedVariables false

/-- The slots of operations that have not come up hold what they held. -/
def Old (ops : Array Oper) (a0 : Act) (L : Nat → Bool) (a : Act) : Prop := ∀ (i : Nat) (o : Oper) (s : Nat), ops[i]? = some o → o.dst = some s → L i = false → a.tmps.getD s undef = a0.tmps.getD s undef
theorem old_put {ops : Array Oper} {a0 a : Act} {L : Nat → Bool} (hd : dstOK ops = true) (h : Old ops a0 L a) {i : Nat} {o : Oper} (ho : ops[i]? = some o) (v : Value) : Old ops a0 (fun j => if j = i then true else L j) (a.put o.dst v) := by
  intro j p s hp hps hL
  by_cases hji : j = i
  · simp [hji] at hL
  · have hL' : L j = false := by simpa [hji] using hL
    have := h j p s hp hps hL'
    cases ht : o.dst with
    | none => exact this
    | some t =>
      have hne : t ≠ s := fun e => by subst e; exact hji (dstOK_at hd hp ho hps ht)
      show (a.tmps.setIfInBounds t v).getD s undef = _
      rw [Array.getD_eq_getD_getElem?, Array.getElem?_setIfInBounds_ne hne, ← Array.getD_eq_getD_getElem?]
      exact this
theorem Old.at {ops : Array Oper} {a0 a : Act} {L : Nat → Bool} (h : Old ops a0 L a) (i s : Nat) (hs : (ops[i]?).bind (·.dst) = some s) (hL : L i = false) : a.tmps[s]?.getD undef = a0.tmps.getD s undef := by
  rw [← Array.getD_eq_getD_getElem?]
  cases ho : ops[i]? with
  | none => rw [ho] at hs; cases hs
  | some o => rw [ho] at hs; exact h i o s ho hs hL

theorem wp_region_slots2 {P : Program} {ops : Array Oper} {Q : Exit → Act → World → Prop} {id : Nat} {a0 : Act} {w : World} (hm : P.follows .mixedOrders = true) (hl : lexOK ops = true) (hd : dstOK ops = true) (hg : (ops.all fun o => o.guard.isNone) = true)
    {G : Type} (V : G → Nat → Value) (Inv : (Nat → Bool) → G → World → Prop) (g0 : G) (h0 : Inv (fun _ => false) g0 w.drew)
    (hstep : ∀ (L : Nat → Bool) (g : G) a w i o, ops[i]? = some o → L i = false → (∀ e ∈ o.after, Region.binds .any e = true → L e.on = true) → Closed ops L → Inv L g w → Slots ops a0 L (V g) a → Old ops a0 L a →
      ∀ K : Act → World → Prop, (∀ v w', (∃ g', (o.dst ≠ none → v = V g' i) ∧ (∀ j, j ≠ i → L j = true → V g' j = V g j) ∧ Inv (fun j => if j = i then true else L j) g' w') → K (a.put o.dst v) w') → o.wp P a w K Q)
    (hend : ∀ (L : Nat → Bool) (g : G) w, (∀ j, j < ops.size → L j = true) → Inv L g w → Q .normal ⟨writeAll ops (V g) a0.tmps, a0.defers⟩ w) : (Code.region id ops true).wp P Q a0 w := by
  refine wp_region_inv hm hl (fun L a w => Closed ops L ∧ Old ops a0 L a ∧ ∃ g, Inv L g w ∧ Slots ops a0 L (V g) a) ⟨fun _ _ _ _ h => (by cases h), fun _ _ _ _ _ _ => rfl, g0, h0, rfl, rfl, (fun _ _ _ _ _ h => by cases h), fun _ _ => rfl⟩ ?_ ?_
  · rintro L a w i o ho hi hpre ⟨hC, hO, g, hI, hS⟩
    have hgi : o.guard = none := by
      have := (Array.all_eq_true_iff_forall_mem.1 hg) o (Array.mem_of_getElem? ho)
      simpa using this
    unfold wpOp
    rw [ho]
    show if Region.wanted o (yielded ops a.tmps) then _ else _
    have hwant : Region.wanted o (yielded ops a.tmps) = true := by simp [Region.wanted, hgi]
    rw [if_pos hwant]
    refine .inl (hstep L g a w i o ho hi hpre hC hI hS hO _ ?_)
    rintro v w' ⟨g', hv, hV, hI'⟩
    refine ⟨fun j p e hp hL he hb => ?_, old_put hd hO ho v, g', hI', slots_put hd hS ho hv hV⟩
    by_cases hji : j = i
    · subst hji
      rw [ho] at hp; cases hp
      have := hpre e he hb
      simp [this]
    · have hL' : L j = true := by simpa [hji] using hL
      have := hC j p e hp hL' he hb
      simp [this]
  · rintro L a w hL ⟨_, _, g, hI, hS⟩
    rw [hS.all hd hL]
    exact hend L g w hL hI
end Go.Proofs.YtjiecfagblijhaaDoor
