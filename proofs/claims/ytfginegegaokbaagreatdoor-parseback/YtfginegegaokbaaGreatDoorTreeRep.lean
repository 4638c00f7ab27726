/- An expression in memory, as plain data. -/
import Derived.Test.YtfginegegaokbaaGreatDoorTreeNum
namespace Go.Proofs.YtfginegegaokbaaGreatDoor
open Go.ChangeShapes Go.WideShapes Go.ChangeAt Go.RowKit
set_option linter.unusedVariables false
set_option linter.unusedSimpArgs false

/-- A slice of expressions that lies in blocks of expressions from lo on and below block B, each of which is as R says. -/
def Kids (lo B : Nat) (w : World) (R : Value → Tree → Prop) (v : Value) (ks : List Tree) : Prop :=
  ∃ ao cap, v = .slice ao ks.length cap ∧ ks.length ≤ 4294967296 ∧ ∀ i k, ks[i]? = some k → ∃ g off c0 c1 c2 c3 c4 c5, ao = some ⟨g, off, none⟩ ∧ lo ≤ g ∧ g < B ∧ (∃ cs fr, w.heap[g]? = some (.cells cs 57 fr)) ∧
    w.cell? ⟨g, off + i * 6, none⟩ = some c0 ∧ w.cell? ⟨g, off + i * 6 + 1, none⟩ = some c1 ∧ w.cell? ⟨g, off + i * 6 + 2, none⟩ = some c2 ∧ w.cell? ⟨g, off + i * 6 + 3, none⟩ = some c3 ∧ w.cell? ⟨g, off + i * 6 + 4, none⟩ = some c4 ∧ w.cell? ⟨g, off + i * 6 + 5, none⟩ = some c5 ∧
    R (.agg #[c0, c1, c2, c3, c4, c5]) k

/-- The value is this tree. -/
def ERep (lo B : Nat) (w : World) : Nat → Value → Tree → Prop
  | 0, _, _ => False
  | n + 1, v, t => t.value < 18446744073709551616 ∧ ∃ kv, v = .agg #[.int .i64 t.kind, .int .i64 t.op, .string t.name, .int .u64 t.value, kv, .int .i64 t.at_] ∧ Kids lo B w (fun v' t' => ERep lo B w n v' t') kv t.kids

/-- Blocks of expressions from lo on and below B stand as they stood. -/
def Same35 (lo B : Nat) (w w' : World) : Prop := ∀ g cs fr, lo ≤ g → g < B → w.heap[g]? = some (.cells cs 57 fr) → w'.heap[g]? = some (.cells cs 57 fr)
theorem Same35.of_below {lo B : Nat} {w w' : World} (hb : Below B w w') : Same35 lo B w w' := fun g cs fr _ hg h => (hb.block g hg).trans h
theorem Same35.refl (lo B : Nat) (w : World) : Same35 lo B w w := fun _ _ _ _ _ h => h
theorem Kids.carry {lo lo' B B' : Nat} {w w' : World} {R R' : Value → Tree → Prop} {v : Value} {ks : List Tree} (h : Kids lo B w R v ks) (hlo : lo' ≤ lo) (hB : B ≤ B') (hb : Same35 lo B w w') (hR : ∀ v k, R v k → R' v k) : Kids lo' B' w' R' v ks := by
  obtain ⟨ao, cap, rfl, hl, h⟩ := h
  refine ⟨ao, cap, rfl, hl, fun i k hk => ?_⟩
  obtain ⟨g, off, c0, c1, c2, c3, c4, c5, e, hgl, hg, ⟨cs, fr, hc⟩, h0, h1, h2, h3, h4, h5, hr⟩ := h i k hk
  have hc' := hb g cs fr hgl hg hc
  have key : ∀ o, w'.cell? ⟨g, o, none⟩ = w.cell? ⟨g, o, none⟩ := fun o => World.cell?_of_block (by rw [hc', hc])
  exact ⟨g, off, c0, c1, c2, c3, c4, c5, e, by omega, by omega, ⟨cs, fr, hc'⟩, (key _).trans h0, (key _).trans h1, (key _).trans h2, (key _).trans h3, (key _).trans h4, (key _).trans h5, hR _ _ hr⟩
theorem ERep.carry {lo lo' B B' : Nat} {w w' : World} (hlo : lo' ≤ lo) (hB : B ≤ B') (hb : Same35 lo B w w') : ∀ {n : Nat} {v : Value} {t : Tree}, ERep lo B w n v t → ERep lo' B' w' n v t
  | 0, _, _, h => h.elim
  | n + 1, v, t, ⟨h1, kv, h2, h3⟩ => ⟨h1, kv, h2, h3.carry hlo hB hb fun _ _ hr => ERep.carry hlo hB hb hr⟩
theorem ERep.mono {lo B B' : Nat} {w w' : World} (hB : B ≤ B') (hb : Below B w w') {n : Nat} {v : Value} {t : Tree} (h : ERep lo B w n v t) : ERep lo B' w' n v t := h.carry (Nat.le_refl _) hB (Same35.of_below hb)
theorem Kids.on {lo B : Nat} {w w' : World} {n : Nat} {v : Value} {ks : List Tree} (h : Kids lo B w (fun v' t' => ERep lo B w n v' t') v ks) (hb : Below B w w') : Kids lo B w' (fun v' t' => ERep lo B w' n v' t') v ks :=
  h.carry (Nat.le_refl _) (Nat.le_refl _) (Same35.of_below hb) fun _ _ hr => hr.mono (Nat.le_refl _) hb
theorem ERep.lift {lo B : Nat} {w : World} : ∀ {n : Nat} {v : Value} {t : Tree}, ERep lo B w n v t → ERep lo B w (n + 1) v t
  | 0, _, _, h => h.elim
  | n + 1, v, t, ⟨h1, kv, h2, h3⟩ => ⟨h1, kv, h2, h3.carry (Nat.le_refl _) (Nat.le_refl _) (Same35.refl _ _ _) fun _ _ hr => ERep.lift hr⟩
theorem ERep.up {lo B : Nat} {w : World} {n : Nat} {v : Value} {t : Tree} (h : ERep lo B w n v t) : ∀ {m : Nat}, n ≤ m → ERep lo B w m v t := fun {m} hm => by
  induction m with
  | zero => obtain rfl : n = 0 := by omega
            exact h
  | succ m ih =>
    by_cases e : n = m + 1
    · subst e; exact h
    · exact (ih (by omega)).lift

/-- What a writing method of the page has done. -/
def Wrote (B b : Nat) (l : List UInt8) (d : Int) (w : World) (x : List UInt8) (e : Ending) (w' : World) : Prop := e = .returned (.tuple #[]) ∧ PageAt B b (l ++ x) d w' ∧ Stay B b w w'

/-- What page.expr does, up to a depth. -/
def ExprC (n : Nat) : Prop := ∀ (B b : Nat) (l : List UInt8) (d : Int) (t : Tree) (v : Value) (p : Nat) (w : World), PageAt B b l d w → ERep 0 B w n v t → Vars B w → p ≤ 100 → l.length + (etext n t p).length ≤ 70368744177664 →
    Calls Tryz.prog 102 #[.pointer (some ⟨b, 0, none⟩), v, .int .i64 p] w (Wrote B b l d w (etext n t p))
end Go.Proofs.YtfginegegaokbaaGreatDoor
