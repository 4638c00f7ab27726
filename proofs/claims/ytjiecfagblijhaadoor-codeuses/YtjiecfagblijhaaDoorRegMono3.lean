/- As RegMono2's, where an operation that was not run may be a guard, too. No program. -/
import Derived.Test.YtjiecfagblijhaaDoorRegMono
namespace Go.Proofs.YtjiecfagblijhaaDoor
open Go Go.RowKit
set_option linter.unusedVariables false
set_option linter.unusedSimpArgs false

theorem wp_region_mono3 {P : Program} {ops : Array Oper} {Q : Exit → Act → World → Prop} {id : Nat} {a0 : Act} {w0 : World} (hm : P.follows .mixedOrders = true) (hl : lexOK ops = true) (hd : dstOK ops = true) (hgi : guardsIn ops = true) (hsl : slotsIn ops a0.tmps.size = true)
    (R : Nat → Value → World → Prop) (hmono : ∀ i v w w', Below w.heap.size w w' → R i v w → R i v w')
    (gs off : List (Nat × Bool)) (hgs : (ops.all fun o => match o.guard with | none => true | some p => gs.contains p || off.contains p) = true) (hguard : ∀ p ∈ gs, ∀ (v : Value) (w : World), R p.1 v w → v = .bool p.2)
    (hoff : ∀ p ∈ off, ∀ (v : Value) (w : World), R p.1 v w → v = .bool (!p.2) ∨ v = undef) (htriv : ∀ (i : Nat) (o : Oper) (p : Nat × Bool), ops[i]? = some o → o.guard = some p → p ∈ off → ∀ (w : World), R i undef w)
    (hstep : ∀ (a : Act) (w : World) (i : Nat) (o : Oper), ops[i]? = some o → (∀ p, o.guard = some p → p ∉ off) → Below w0.heap.size w0 w → (∀ s, (ops.all fun o => o.dst != some s) = true → a.tmps[s]?.getD undef = a0.tmps.getD s undef) → Pre ops R o a w →
      ∀ K : Act → World → Prop, (∀ v w', Below w.heap.size w w' → (o.dst ≠ none → R i v w') → K (a.put o.dst v) w') → o.wp P a w K Q)
    (hend : ∀ (V : Nat → Value) w, Below w0.heap.size w0 w → (∀ j, ((ops[j]?).bind (·.dst)).isSome = true → R j (V j) w) → Q .normal ⟨writeAll ops V a0.tmps, a0.defers⟩ w) : (Code.region id ops true).wp P Q a0 w0 := by
  have hdrew : Below w0.heap.size w0 w0.drew := ⟨rfl, rfl, rfl, Nat.le_refl _, fun _ _ => rfl⟩
  refine wp_region_inv hm hl (fun L a w => Below w0.heap.size w0 w ∧ a.defers = a0.defers ∧ a.tmps.size = a0.tmps.size ∧ (∀ s, (∀ (i : Nat) (o : Oper), ops[i]? = some o → o.dst ≠ some s) → a.tmps.getD s undef = a0.tmps.getD s undef) ∧ ∀ (i s : Nat), (ops[i]?).bind (·.dst) = some s → L i = true → R i (a.tmps[s]?.getD undef) w) ⟨hdrew, rfl, rfl, fun _ _ => rfl, fun _ _ _ h => by cases h⟩ ?_ ?_
  · rintro L a w i o ho hi hpre ⟨hb, h1, h2, h3, h4⟩
    have hP : Pre ops R o a w := fun j s hw hs => h4 j s hs (pre_at hpre j hw)
    unfold wpOp
    rw [ho]
    show if Region.wanted o (yielded ops a.tmps) then _ else _
    have hval : ∀ (j : Nat) (b : Bool) (c : Bool), o.guard = some (j, b) → (∀ (v : Value) (w : World), R j v w → v = .bool c) → yielded ops a.tmps j = some c := fun j b c hg hv0 => by
      obtain ⟨hw, p, s, hp, hs⟩ := guardsIn_at hgi ho hg
      have hv := hv0 _ _ (hP j s hw (by rw [hp]; exact hs))
      have hlt : s < a.tmps.size := by rw [h2]; exact slotsIn_at hsl hp hs
      have he : a.tmps[s]? = some (.bool c) := by
        rw [Array.getElem?_eq_getElem hlt] at hv ⊢
        simpa using hv
      simp [yielded, hp, hs, he]
    have hput : ∀ (v : Value) (w' : World), Below w.heap.size w w' → (o.dst ≠ none → R i v w') → (fun (L : Nat → Bool) (a : Act) (w : World) => Below w0.heap.size w0 w ∧ a.defers = a0.defers ∧ a.tmps.size = a0.tmps.size ∧ (∀ s, (∀ (i : Nat) (o : Oper), ops[i]? = some o → o.dst ≠ some s) → a.tmps.getD s undef = a0.tmps.getD s undef) ∧ ∀ (i s : Nat), (ops[i]?).bind (·.dst) = some s → L i = true → R i (a.tmps[s]?.getD undef) w) (fun j => if j = i then true else L j) (a.put o.dst v) w' := by
      intro v w' hbw hR
      have hbw0 : Below w0.heap.size w0 w' := hb.trans (hbw.mono hb.size)
      cases hs : o.dst with
      | none =>
        refine ⟨hbw0, h1, h2, h3, fun j s hj hL => ?_⟩
        by_cases hji : j = i
        · subst hji; rw [ho] at hj; simp [hs] at hj
        · exact hmono _ _ _ _ hbw (h4 j s hj (by simpa [hji] using hL))
      | some t =>
        have htl : t < a.tmps.size := by rw [h2]; exact slotsIn_at hsl ho hs
        refine ⟨hbw0, h1, by simpa [Act.put] using h2, fun s hn => ?_, fun j s hj hL => ?_⟩
        · have hne : t ≠ s := fun e => hn i o ho (by rw [hs, e])
          show (a.tmps.setIfInBounds t v).getD s undef = _
          rw [Array.getD_eq_getD_getElem?, Array.getElem?_setIfInBounds_ne hne, ← Array.getD_eq_getD_getElem?]
          exact h3 s hn
        · show R j ((a.tmps.setIfInBounds t v)[s]?.getD undef) w'
          by_cases hji : j = i
          · subst hji
            rw [ho] at hj
            obtain rfl : t = s := by simpa [hs] using hj
            rw [Array.getElem?_setIfInBounds_self_of_lt htl]
            exact hR (by simp [hs])
          · have hne : t ≠ s := fun e => by
              subst e
              cases hp : ops[j]? with
              | none => rw [hp] at hj; cases hj
              | some p => rw [hp] at hj; exact hji (dstOK_at hd hp ho hj hs)
            rw [Array.getElem?_setIfInBounds_ne hne]
            exact hmono _ _ _ _ hbw (h4 j s hj (by simpa [hji] using hL))
    by_cases hO : ∃ p, o.guard = some p ∧ p ∈ off
    · obtain ⟨⟨j, b⟩, hg, hm2⟩ := hO
      have hno : Region.wanted o (yielded ops a.tmps) = false := by
        obtain ⟨hw, p, s, hp, hs⟩ := guardsIn_at hgi ho hg
        have hlt : s < a.tmps.size := by rw [h2]; exact slotsIn_at hsl hp hs
        rcases hoff _ hm2 _ _ (hP j s hw (by rw [hp]; exact hs)) with hv | hv
        · have he : a.tmps[s]? = some (.bool (!b)) := by
            rw [Array.getElem?_eq_getElem hlt] at hv ⊢
            simpa using hv
          have hy : yielded ops a.tmps j = some (!b) := by simp [yielded, hp, hs, he]
          cases b <;> simp [Region.wanted, hg, hy]
        · have he : a.tmps[s]? = some undef := by
            rw [Array.getElem?_eq_getElem hlt] at hv ⊢
            simpa using hv
          have hy : yielded ops a.tmps j = none := by simp [yielded, hp, hs, he, undef]
          cases b <;> simp [Region.wanted, hg, hy]
      rw [if_neg (by rw [hno]; simp)]
      exact hput undef w (Below.refl _ _) (fun _ => htriv _ o _ ho hg hm2 _)
    have hnO : ∀ p, o.guard = some p → p ∉ off := fun p hg hm2 => hO ⟨p, hg, hm2⟩
    have hwant : Region.wanted o (yielded ops a.tmps) = true := by
      cases hg : o.guard with
      | none => simp [Region.wanted, hg]
      | some jb =>
        obtain ⟨j, b⟩ := jb
        have hmem : (j, b) ∈ gs := by
          have := (Array.all_eq_true_iff_forall_mem.1 hgs) o (Array.mem_of_getElem? ho)
          simp only [hg, Bool.or_eq_true, List.contains_iff_mem] at this
          exact this.resolve_right (hnO _ hg)
        have hy := hval j b b hg (hguard _ hmem)
        simp [Region.wanted, hg, hy]
    rw [if_pos hwant]
    refine .inl (hstep a w i o ho hnO hb (fun s hn => ?_) hP _ ?_)
    · rw [← Array.getD_eq_getD_getElem?]
      refine h3 s fun k p hk e => ?_
      have := (Array.all_eq_true_iff_forall_mem.1 hn) p (Array.mem_of_getElem? hk)
      simp [e] at this
    · exact hput
  · rintro L a w hL ⟨hb, h1, h2, h3, h4⟩
    have hS : Slots ops a0 L (fun j => a.tmps[((ops[j]?).bind (·.dst)).getD 0]?.getD undef) a := by
      refine ⟨h1, h2, fun i o s ho hs hLi hlt => ?_, h3⟩
      simp only [ho, Option.bind_some, hs, Option.getD_some]
      rw [Array.getD_eq_getD_getElem?]
    rw [hS.all hd hL]
    refine hend _ w hb fun j hj => ?_
    cases hs : (ops[j]?).bind (·.dst) with
    | none => rw [hs] at hj; cases hj
    | some s =>
      simp only [hs, Option.getD_some]
      have hjl : j < ops.size := by
        rcases Nat.lt_or_ge j ops.size with h | h
        · exact h
        · rw [Array.getElem?_eq_none h] at hs; cases hs
      exact h4 j s hs (hL j hjl)
end Go.Proofs.YtjiecfagblijhaaDoor
