/- Expressions in memory in any set of blocks; what the reader's functions that answer expressions leave; named and three. Conditions: as in PRead. -/
import Derived.Test.YtfginegegaokbaaGreatDoorPExprA
import Derived.Test.YtfginegegaokbaaGreatDoorMakeFin
namespace Go.Proofs.YtfginegegaokbaaGreatDoor.Pr
open Go.ChangeShapes Go.WideShapes Go.ChangeAt Go.RowKit
open Lx (Tok)
set_option linter.unusedVariables false
set_option linter.unusedSimpArgs false

/-- A slice of expressions in blocks of X. -/
def KidsX (X : Nat → Prop) (w : World) (R : Value → Tree → Prop) (v : Value) (ks : List Tree) : Prop :=
  ∃ ao cap, v = .slice ao ks.length cap ∧ ks.length ≤ 4294967296 ∧ ∀ i k, ks[i]? = some k → ∃ g off c0 c1 c2 c3 c4 c5, ao = some ⟨g, off, none⟩ ∧ X g ∧ (∃ cs fr, w.heap[g]? = some (.cells cs 57 fr)) ∧
    w.cell? ⟨g, off + i * 6, none⟩ = some c0 ∧ w.cell? ⟨g, off + i * 6 + 1, none⟩ = some c1 ∧ w.cell? ⟨g, off + i * 6 + 2, none⟩ = some c2 ∧ w.cell? ⟨g, off + i * 6 + 3, none⟩ = some c3 ∧ w.cell? ⟨g, off + i * 6 + 4, none⟩ = some c4 ∧ w.cell? ⟨g, off + i * 6 + 5, none⟩ = some c5 ∧
    R (.agg #[c0, c1, c2, c3, c4, c5]) k
def ERepX (X : Nat → Prop) (w : World) : Nat → Value → Tree → Prop
  | 0, _, _ => False
  | n + 1, v, t => t.value < 18446744073709551616 ∧ ∃ kv, v = .agg #[.int .i64 t.kind, .int .i64 t.op, .string t.name, .int .u64 t.value, kv, .int .i64 t.at_] ∧ KidsX X w (fun v' t' => ERepX X w n v' t') kv t.kids
/-- Blocks of expressions of X stand as they stood. -/
def SameX (X : Nat → Prop) (w w' : World) : Prop := ∀ (g : Nat) (cs : Array Value) (fr : Nat × Nat), X g → w.heap[g]? = some (.cells cs 57 fr) → w'.heap[g]? = some (.cells cs 57 fr)
theorem KidsX.carry {X X' : Nat → Prop} {w w' : World} {R R' : Value → Tree → Prop} {v : Value} {ks : List Tree} (h : KidsX X w R v ks) (hX : ∀ g, X g → X' g) (hb : SameX X w w') (hR : ∀ v k, R v k → R' v k) : KidsX X' w' R' v ks := by
  obtain ⟨ao, cap, rfl, hl, h⟩ := h
  refine ⟨ao, cap, rfl, hl, fun i k hk => ?_⟩
  obtain ⟨g, off, c0, c1, c2, c3, c4, c5, e, hg, ⟨cs, fr, hc⟩, h0, h1, h2, h3, h4, h5, hr⟩ := h i k hk
  have hc' := hb g cs fr hg hc
  have key : ∀ o, w'.cell? ⟨g, o, none⟩ = w.cell? ⟨g, o, none⟩ := fun o => World.cell?_of_block (by rw [hc', hc])
  exact ⟨g, off, c0, c1, c2, c3, c4, c5, e, hX g hg, ⟨cs, fr, hc'⟩, (key _).trans h0, (key _).trans h1, (key _).trans h2, (key _).trans h3, (key _).trans h4, (key _).trans h5, hR _ _ hr⟩
theorem ERepX.carry {X X' : Nat → Prop} {w w' : World} (hX : ∀ g, X g → X' g) (hb : SameX X w w') : ∀ {n : Nat} {v : Value} {t : Tree}, ERepX X w n v t → ERepX X' w' n v t
  | 0, _, _, h => h.elim
  | n + 1, v, t, ⟨h1, kv, h2, h3⟩ => ⟨h1, kv, h2, h3.carry hX hb fun _ _ hr => ERepX.carry hX hb hr⟩
theorem ERepX.lift {X : Nat → Prop} {w : World} : ∀ {n : Nat} {v : Value} {t : Tree}, ERepX X w n v t → ERepX X w (n + 1) v t
  | 0, _, _, h => h.elim
  | n + 1, v, t, ⟨h1, kv, h2, h3⟩ => ⟨h1, kv, h2, h3.carry (fun _ h => h) (fun _ _ _ _ h => h) fun _ _ hr => ERepX.lift hr⟩
theorem ERepX.up {X : Nat → Prop} {w : World} {n : Nat} {v : Value} {t : Tree} (h : ERepX X w n v t) : ∀ {m : Nat}, n ≤ m → ERepX X w m v t := fun {m} hm => by
  induction m with
  | zero => obtain rfl : n = 0 := by omega
            exact h
  | succ m ih =>
    by_cases e : n = m + 1
    · subst e; exact h
    · exact (ih (by omega)).lift
theorem ERep.toX {lo B : Nat} {w : World} {X : Nat → Prop} (hX : ∀ g, lo ≤ g → g < B → X g) : ∀ {n : Nat} {v : Value} {t : Tree}, ERep lo B w n v t → ERepX X w n v t
  | 0, _, _, h => h.elim
  | n + 1, v, t, ⟨h1, kv, h2, ao, cap, e, hl, h⟩ => ⟨h1, kv, h2, ao, cap, e, hl, fun i k hk => by
    obtain ⟨g, off, c0, c1, c2, c3, c4, c5, e, hg1, hg2, hc, h0, h1, h2, h3, h4, h5, hr⟩ := h i k hk
    exact ⟨g, off, c0, c1, c2, c3, c4, c5, e, hX g hg1 hg2, hc, h0, h1, h2, h3, h4, h5, ERep.toX hX hr⟩⟩
theorem ERepX.toE {lo B : Nat} {w : World} {X : Nat → Prop} (hX : ∀ g, X g → lo ≤ g ∧ g < B) : ∀ {n : Nat} {v : Value} {t : Tree}, ERepX X w n v t → ERep lo B w n v t
  | 0, _, _, h => h.elim
  | n + 1, v, t, ⟨h1, kv, h2, ao, cap, e, hl, h⟩ => ⟨h1, kv, h2, ao, cap, e, hl, fun i k hk => by
    obtain ⟨g, off, c0, c1, c2, c3, c4, c5, e, hg, hc, h0, h1, h2, h3, h4, h5, hr⟩ := h i k hk
    exact ⟨g, off, c0, c1, c2, c3, c4, c5, e, (hX g hg).1, (hX g hg).2, hc, h0, h1, h2, h3, h4, h5, ERepX.toE hX hr⟩⟩
theorem erep_agg {lo B n : Nat} {w : World} {v : Value} {t : Tree} (h : ERep lo B w n v t) : ∃ ao kl cap, v = .agg #[.int .i64 t.kind, .int .i64 t.op, .string t.name, .int .u64 t.value, .slice ao kl cap, .int .i64 t.at_] := by
  cases n with
  | zero => exact h.elim
  | succ n => obtain ⟨_, kv, e, ao, cap, rfl, _⟩ := h; exact ⟨ao, _, cap, e⟩

/-- How deep what was read may be. -/
def gap (r r' : Rd) : Nat := r.ts.length + 1 - r'.ts.length
/-- What a function of the reader's that answers an expression leaves. -/
def Mde (B br : Nat) (w : World) (r : Rd) (tn : Tree × Rd) (e : Ending) (w' : World) : Prop :=
  ∃ v, e = .returned v ∧ ERep w.heap.size w'.heap.size w' (gap r tn.2) v tn.1 ∧ RdAt B br tn.2 w' ∧ w.grownBy w' (some br)
def RExC (f : Nat) : Prop := ∀ (B br tight deep : Nat) (r : Rd) (w : World), RdAt B br r w → tight ≤ 7 → deep + f = 41 →
  Calls Tryz.prog 129 #[.pointer (some ⟨br, 0, none⟩), .int .i64 (tight : Int), .int .i64 (deep : Int)] w (Mde B br w r (exprP f tight deep r))
def RUnC (f : Nat) : Prop := ∀ (B br deep : Nat) (r : Rd) (w : World), RdAt B br r w → deep + f = 41 →
  Calls Tryz.prog 142 #[.pointer (some ⟨br, 0, none⟩), .int .i64 (deep : Int)] w (Mde B br w r (unaryP f deep r))
theorem notRd : ¬ rdType 57 := by unfold rdType; decide
theorem RdAt.put6 {B br : Nat} {r : Rd} {w : World} (h : RdAt B br r w) {k : Nat} {x0 x1 x2 x3 x4 x5 : Value} (hr : w.heap[k]? = some (.cells #[x0, x1, x2, x3, x4, x5] 57 (0, 0))) (u0 u1 u2 u3 u4 u5 : Value) : RdAt B br r (put6 w k u0 u1 u2 u3 u4 u5) :=
  h.step (put6_grown w k u0 u1 u2 u3 u4 u5) hr notRd
/-- Behind the reader's functions a block of expressions stands as it stood. -/
theorem RdAt.heap {B br : Nat} {r : Rd} {w w' : World} (h : RdAt B br r w) (hg : w.grownBy w' (some br)) {k : Nat} {cs : Array Value} {t : TypeId} {fr : Nat × Nat} (hr : w.heap[k]? = some (.cells cs t fr)) (ht : t ≠ 81) : w'.heap[k]? = some (.cells cs t fr) := by
  obtain ⟨_, _, _, g, off, cap, sg, ev, hb, _⟩ := h
  exact (hg.block k (heap_lt hr) (fun e => by simp only [Option.some.injEq] at e; subst e; rw [hb] at hr; cases hr; exact ht rfl)).trans hr
theorem RdAt.same35 {B br : Nat} {r : Rd} {w w' : World} (h : RdAt B br r w) (hg : w.grownBy w' (some br)) (lo hi : Nat) : Same35 lo hi w w' := fun k cs fr _ _ hk => h.heap hg hk (by decide)
/-- A new block is written: what is old stands. -/
theorem grown_put6 {w w5 : World} {br R : Nat} (hg : w.grownBy w5 (some br)) (hR : w.heap.size ≤ R) (u0 u1 u2 u3 u4 u5 : Value) : w.grownBy (put6 w5 R u0 u1 u2 u3 u4 u5) (some br) := by
  have hp := put6_grown w5 R u0 u1 u2 u3 u4 u5
  refine ⟨hp.os.trans hg.os, hp.tape.trans hg.tape, hp.output.trans hg.output, by rw [put6_size]; exact hg.size, fun k hk hkr => ?_⟩
  rw [put6_other _ _ _ _ _ _ _ _ k (by omega), hg.block k hk hkr]
theorem grown_set {w w5 : World} {br R : Nat} (hg : w.grownBy w5 (some br)) (hR : w.heap.size ≤ R) (j : Nat) (u : Value) : w.grownBy (w5.setCell ⟨R, j, none⟩ u) (some br) := by
  have hp := set_grown w5 R j u
  refine ⟨hp.os.trans hg.os, hp.tape.trans hg.tape, hp.output.trans hg.output, by simp [World.setCell]; exact hg.size, fun k hk hkr => ?_⟩
  rw [Below.heap_setCell w5 ⟨R, j, none⟩ u k (show k ≠ R by omega), hg.block k hk hkr]
theorem grown_alloc {w w5 : World} {br : Nat} (hg : w.grownBy w5 (some br)) (o : Obj) : w.grownBy (w5.alloc o) (some br) := grownBy_trans hg (World.grownBy_alloc _ _ _)
end Go.Proofs.YtfginegegaokbaaGreatDoor.Pr
