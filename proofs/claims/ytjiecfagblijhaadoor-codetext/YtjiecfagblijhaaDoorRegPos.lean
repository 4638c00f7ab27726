/- A region whose order is drawn and whose operations make blocks: what each has made stands in its slot; where, is a ghost. No program. -/
import Derived.Test.YtjiecfagblijhaaDoorRegInv
namespace Go.Proofs.YtjiecfagblijhaaDoor
open Go
set_option linter.unusedVariables false

/-- The slots of a region's operations, some of which have come up. -/
def Slots (ops : Array Oper) (a0 : Act) (L : Nat → Bool) (V : Nat → Value) (a : Act) : Prop :=
  a.defers = a0.defers ∧ a.tmps.size = a0.tmps.size ∧ (∀ (i : Nat) (o : Oper) (s : Nat), ops[i]? = some o → o.dst = some s → L i = true → s < a0.tmps.size → a.tmps.getD s undef = V i) ∧ (∀ (s : Nat), (∀ (i : Nat) (o : Oper), ops[i]? = some o → o.dst ≠ some s) → a.tmps.getD s undef = a0.tmps.getD s undef)
/-- No two operations have one slot. -/
def dstOK (ops : Array Oper) : Bool := (List.range ops.size).all fun i => (List.range ops.size).all fun j => i == j || ((ops[i]?).bind (·.dst)).isNone || ((ops[i]?).bind (·.dst)) != ((ops[j]?).bind (·.dst))
theorem dstOK_at {ops : Array Oper} (h : dstOK ops = true) {i j s : Nat} {o p : Oper} (ho : ops[i]? = some o) (hp : ops[j]? = some p) (hs : o.dst = some s) (ht : p.dst = some s) : i = j := by
  have hi : i < ops.size := (Array.getElem?_eq_some_iff.1 ho).1
  have hj : j < ops.size := (Array.getElem?_eq_some_iff.1 hp).1
  have := List.all_eq_true.1 (List.all_eq_true.1 h i (List.mem_range.2 hi)) j (List.mem_range.2 hj)
  rw [ho, hp] at this
  simpa [hs, ht] using this
theorem slots_put {ops : Array Oper} {a0 a : Act} {L : Nat → Bool} {V V' : Nat → Value} (hd : dstOK ops = true) (h : Slots ops a0 L V a) {i : Nat} {o : Oper} (ho : ops[i]? = some o) {v : Value} (hv : o.dst ≠ none → v = V' i) (hV : ∀ j, j ≠ i → L j = true → V' j = V j) : Slots ops a0 (fun j => if j = i then true else L j) V' (a.put o.dst v) := by
  obtain ⟨h1, h2, h3, h4⟩ := h
  cases hs : o.dst with
  | none =>
    refine ⟨h1, h2, fun j p s hp hps hL hlt => ?_, h4⟩
    by_cases hji : j = i
    · subst hji; rw [ho] at hp; cases hp; rw [hs] at hps; cases hps
    · replace hL : L j = true := by simpa [hji] using hL
      exact (h3 j p s hp hps hL hlt).trans (hV j hji hL).symm
  | some t =>
    refine ⟨h1, by simpa [Act.put] using h2, fun j p s hp hps hL hlt => ?_, fun s hn => ?_⟩
    · by_cases hji : j = i
      · subst hji
        rw [ho] at hp; cases hp
        rw [hs] at hps; cases hps
        show (a.tmps.setIfInBounds t v).getD t undef = _
        rw [Array.getD_eq_getD_getElem?, Array.getElem?_setIfInBounds_self_of_lt (by omega)]
        exact hv (by simp [hs])
      · replace hL : L j = true := by simpa [hji] using hL
        have hne : t ≠ s := fun e => by subst e; exact hji (dstOK_at hd hp ho hps hs)
        show (a.tmps.setIfInBounds t v).getD s undef = _
        rw [Array.getD_eq_getD_getElem?, Array.getElem?_setIfInBounds_ne hne, ← Array.getD_eq_getD_getElem?]
        exact (h3 j p s hp hps hL hlt).trans (hV j hji hL).symm
    · have hne : t ≠ s := fun e => hn i o ho (by rw [hs, e])
      show (a.tmps.setIfInBounds t v).getD s undef = _
      rw [Array.getD_eq_getD_getElem?, Array.getElem?_setIfInBounds_ne hne, ← Array.getD_eq_getD_getElem?]
      exact h4 s hn
/-- A slot that no operation writes. -/
theorem Slots.old {ops : Array Oper} {a0 a : Act} {L : Nat → Bool} {V : Nat → Value} (h : Slots ops a0 L V a) (s : Nat) (hn : (ops.all fun o => o.dst != some s) = true) : a.tmps.getD s undef = a0.tmps.getD s undef := by
  refine h.2.2.2 s fun i o ho e => ?_
  have := (Array.all_eq_true_iff_forall_mem.1 hn) o (Array.mem_of_getElem? ho)
  simp [e] at this
/-- A slot that an operation has written. -/
theorem Slots.new {ops : Array Oper} {a0 a : Act} {L : Nat → Bool} {V : Nat → Value} (h : Slots ops a0 L V a) (i s : Nat) (hs : (ops[i]?).bind (·.dst) = some s) (hL : L i = true) (hlt : s < a0.tmps.size) : a.tmps.getD s undef = V i := by
  cases ho : ops[i]? with
  | none => rw [ho] at hs; cases hs
  | some o => rw [ho] at hs; exact h.2.2.1 i o s ho hs hL hlt
theorem Slots.old2 {ops : Array Oper} {a0 a : Act} {L : Nat → Bool} {V : Nat → Value} (h : Slots ops a0 L V a) (s : Nat) (hn : (ops.all fun o => o.dst != some s) = true) : a.tmps[s]?.getD undef = a0.tmps.getD s undef := by
  rw [← Array.getD_eq_getD_getElem?]; exact h.old s hn
theorem Slots.new2 {ops : Array Oper} {a0 a : Act} {L : Nat → Bool} {V : Nat → Value} (h : Slots ops a0 L V a) (i s : Nat) (hs : (ops[i]?).bind (·.dst) = some s) (hL : L i = true) (hlt : s < a0.tmps.size) : a.tmps[s]?.getD undef = V i := by
  rw [← Array.getD_eq_getD_getElem?]; exact h.new i s hs hL hlt
def putDst (ops : Array Oper) (V : Nat → Value) (t : Array Value) (i : Nat) : Array Value := match (ops[i]?).bind (·.dst) with | some s => t.setIfInBounds s (V i) | none => t
/-- All slots, when all have come up. -/
def writeAll (ops : Array Oper) (V : Nat → Value) (t : Array Value) : Array Value := (List.range ops.size).foldl (putDst ops V) t
theorem writeAll_step {ops : Array Oper} (hd : dstOK ops = true) (V : Nat → Value) (t0 : Array Value) : ∀ (l : List Nat) (t : Array Value), (∀ i ∈ l, i < ops.size) → t.size = t0.size →
    (l.foldl (putDst ops V) t).size = t0.size ∧
    ∀ s, s < t0.size → (l.foldl (putDst ops V) t)[s]? = if h : ∃ i, i ∈ l ∧ (ops[i]?).bind (·.dst) = some s then some (V h.choose) else t[s]?
  | [], t, _, hs => ⟨hs, fun s _ => by simp⟩
  | i :: l, t, hl, hs => by
    have hsz : (putDst ops V t i).size = t0.size := by unfold putDst; split <;> simp [hs]
    have ih := writeAll_step hd V t0 l _ (fun j hj => hl j (List.mem_cons_of_mem _ hj)) hsz
    refine ⟨ih.1, fun s hlt => ?_⟩
    rw [List.foldl_cons, ih.2 s hlt]
    have uniq : ∀ {x y : Nat}, (ops[x]?).bind (·.dst) = some s → (ops[y]?).bind (·.dst) = some s → x = y := fun {x y} hx hy => by
      cases hx' : ops[x]? with
      | none => rw [hx'] at hx; cases hx
      | some o => cases hy' : ops[y]? with
        | none => rw [hy'] at hy; cases hy
        | some p => rw [hx'] at hx; rw [hy'] at hy; exact dstOK_at hd hx' hy' hx hy
    by_cases h1 : ∃ j, j ∈ l ∧ (ops[j]?).bind (·.dst) = some s
    · have h2 : ∃ j, j ∈ i :: l ∧ (ops[j]?).bind (·.dst) = some s := ⟨_, List.mem_cons_of_mem _ h1.choose_spec.1, h1.choose_spec.2⟩
      rw [dif_pos h1, dif_pos h2, uniq h1.choose_spec.2 h2.choose_spec.2]
    · rw [dif_neg h1]
      by_cases hi : (ops[i]?).bind (·.dst) = some s
      · have h2 : ∃ j, j ∈ i :: l ∧ (ops[j]?).bind (·.dst) = some s := ⟨i, List.mem_cons_self, hi⟩
        rw [dif_pos h2, uniq h2.choose_spec.2 hi, putDst, hi]
        exact Array.getElem?_setIfInBounds_self_of_lt (by omega)
      · have h2 : ¬ ∃ j, j ∈ i :: l ∧ (ops[j]?).bind (·.dst) = some s := fun ⟨j, hj, hjs⟩ => by
          rcases List.mem_cons.1 hj with rfl | hj
          · exact hi hjs
          · exact h1 ⟨j, hj, hjs⟩
        rw [dif_neg h2, putDst]
        split
        · next u hu => exact Array.getElem?_setIfInBounds_ne (fun e => hi (by rw [hu, e]))
        · rfl
theorem Slots.all {ops : Array Oper} {a0 a : Act} {L : Nat → Bool} {V : Nat → Value} (hd : dstOK ops = true) (h : Slots ops a0 L V a) (hL : ∀ j, j < ops.size → L j = true) : a = ⟨writeAll ops V a0.tmps, a0.defers⟩ := by
  obtain ⟨tm, df⟩ := a
  obtain ⟨h1, h2, h3, h4⟩ := h
  simp only at h1 h2 h3 h4
  subst h1
  congr 1
  have W := writeAll_step hd V a0.tmps (List.range ops.size) a0.tmps (fun i hi => List.mem_range.1 hi) rfl
  apply Array.ext_getElem?
  intro s
  by_cases hlt : s < a0.tmps.size
  · show _ = (writeAll ops V a0.tmps)[s]?
    unfold writeAll
    rw [W.2 s hlt]
    by_cases hx : ∃ i, i ∈ List.range ops.size ∧ (ops[i]?).bind (·.dst) = some s
    · rw [dif_pos hx]
      obtain ⟨hm, hb⟩ := hx.choose_spec
      generalize hx.choose = i at hm hb
      cases ho : ops[i]? with
      | none => rw [ho] at hb; cases hb
      | some o =>
        rw [ho] at hb
        have := h3 i o s ho hb (hL i (List.mem_range.1 hm)) hlt
        rw [← this, Array.getD_eq_getD_getElem?, Array.getElem?_eq_getElem (by omega)]
        rfl
    · rw [dif_neg hx]
      have := h4 s fun i o ho e => hx ⟨i, List.mem_range.2 (Array.getElem?_eq_some_iff.1 ho).1, by rw [ho]; exact e⟩
      rw [Array.getD_eq_getD_getElem?, Array.getD_eq_getD_getElem?, Array.getElem?_eq_getElem (by omega), Array.getElem?_eq_getElem hlt] at this
      rw [Array.getElem?_eq_getElem (by omega), Array.getElem?_eq_getElem hlt]
      exact congrArg some this
  · rw [Array.getElem?_eq_none (by omega), Array.getElem?_eq_none (by unfold writeAll; rw [W.1]; omega)]

/-- What has come up came up behind what it waits for. -/
def Closed (ops : Array Oper) (L : Nat → Bool) : Prop := ∀ (j : Nat) (p : Oper) (e : Edge), ops[j]? = some p → L j = true → e ∈ p.after → Region.binds .any e = true → L e.on = true
theorem Closed.at {ops : Array Oper} {L : Nat → Bool} (h : Closed ops L) (j k : Nat) (hw : ((ops[j]?).map fun p => p.after.any fun e => Region.binds .any e && e.on == k).getD false = true) (hj : L j = true) : L k = true := by
  cases ho : ops[j]? with
  | none => rw [ho] at hw; cases hw
  | some p =>
    rw [ho] at hw
    simp only [Option.map_some, Option.getD_some, Array.any_eq_true'] at hw
    obtain ⟨e, he, hb⟩ := hw
    simp only [Bool.and_eq_true, beq_iff_eq] at hb
    exact hb.2 ▸ h j p e ho hj he hb.1
theorem pre_at {o : Oper} {L : Nat → Bool} (h : ∀ e ∈ o.after, Region.binds .any e = true → L e.on = true) (k : Nat) (hw : (o.after.any fun e => Region.binds .any e && e.on == k) = true) : L k = true := by
  simp only [Array.any_eq_true'] at hw
  obtain ⟨e, he, hb⟩ := hw
  simp only [Bool.and_eq_true, beq_iff_eq] at hb
  exact hb.2 ▸ h e he hb.1

theorem wp_region_slots {P : Program} {ops : Array Oper} {Q : Exit → Act → World → Prop} {id : Nat} {a0 : Act} {w : World} (hm : P.follows .mixedOrders = true) (hl : lexOK ops = true) (hd : dstOK ops = true) (hg : (ops.all fun o => o.guard.isNone) = true)
    {G : Type} (V : G → Nat → Value) (Inv : (Nat → Bool) → G → World → Prop) (g0 : G) (h0 : Inv (fun _ => false) g0 w.drew)
    (hstep : ∀ (L : Nat → Bool) (g : G) a w i o, ops[i]? = some o → L i = false → (∀ e ∈ o.after, Region.binds .any e = true → L e.on = true) → Closed ops L → Inv L g w → Slots ops a0 L (V g) a →
      ∀ K : Act → World → Prop, (∀ v w', (∃ g', (o.dst ≠ none → v = V g' i) ∧ (∀ j, j ≠ i → L j = true → V g' j = V g j) ∧ Inv (fun j => if j = i then true else L j) g' w') → K (a.put o.dst v) w') → o.wp P a w K Q)
    (hend : ∀ (L : Nat → Bool) (g : G) w, (∀ j, j < ops.size → L j = true) → Inv L g w → Q .normal ⟨writeAll ops (V g) a0.tmps, a0.defers⟩ w) : (Code.region id ops true).wp P Q a0 w := by
  refine wp_region_inv hm hl (fun L a w => Closed ops L ∧ ∃ g, Inv L g w ∧ Slots ops a0 L (V g) a) ⟨fun _ _ _ _ h => (by cases h), g0, h0, rfl, rfl, (fun _ _ _ _ _ h => by cases h), fun _ _ => rfl⟩ ?_ ?_
  · rintro L a w i o ho hi hpre ⟨hC, g, hI, hS⟩
    have hgi : o.guard = none := by
      have := (Array.all_eq_true_iff_forall_mem.1 hg) o (Array.mem_of_getElem? ho)
      simpa using this
    unfold wpOp
    rw [ho]
    show if Region.wanted o (yielded ops a.tmps) then _ else _
    have hwant : Region.wanted o (yielded ops a.tmps) = true := by simp [Region.wanted, hgi]
    rw [if_pos hwant]
    refine .inl (hstep L g a w i o ho hi hpre hC hI hS _ ?_)
    rintro v w' ⟨g', hv, hV, hI'⟩
    refine ⟨fun j p e hp hL he hb => ?_, g', hI', slots_put hd hS ho hv hV⟩
    by_cases hji : j = i
    · subst hji
      rw [ho] at hp; cases hp
      have := hpre e he hb
      simp [this]
    · have hL' : L j = true := by simpa [hji] using hL
      have := hC j p e hp hL' he hb
      simp [this]
  · rintro L a w hL ⟨_, g, hI, hS⟩
    rw [hS.all hd hL]
    exact hend L g w hL hI
end Go.Proofs.YtjiecfagblijhaaDoor
