/- What represents a program stays so in a world that grew, and at any greater depth. Conditions: none. -/
import Derived.Test.YtfginegegaokbaaGreatDoorGMakeZ
namespace Go.Proofs.YtfginegegaokbaaGreatDoor.Pr
open Go.ChangeShapes Go.WideShapes Go.ChangeAt Go.RowKit
set_option linter.unusedVariables false
set_option linter.unusedSimpArgs false

theorem SRep.wide {lo B m m' : Nat} {w : World} (hm : m ≤ m') : ∀ {n n' : Nat} {v : Value} {s : Stm}, n ≤ n' → SRep lo B w m n v s → SRep lo B w m' n' v s
  | 0, _, _, _, _, h => h.elim
  | n + 1, 0, _, _, hn, _ => by omega
  | n + 1, n' + 1, _, _, hn, ⟨h1, h2, h3, eao, ecap, bao, bcap, lao, lcap, h4, h5, h6, h7⟩ =>
    ⟨h1, h2, h3, eao, ecap, bao, bcap, lao, lcap, h4, h5.carry (Nat.le_refl _) (Nat.le_refl _) (fun _ _ _ _ _ h => h) (fun _ _ hr => ERep.up hr hm), h6.carry (Nat.le_refl _) (Nat.le_refl _) (fun _ _ _ _ _ h => h) (fun _ _ hr => SRep.wide hm (by omega) hr), h7.carry (Nat.le_refl _) (Nat.le_refl _) (fun _ _ _ _ _ h => h) (fun _ _ hr => SRep.wide hm (by omega) hr)⟩
theorem Dcls.grow {lo B B' : Nat} {w w' : World} {v : Value} {ds : List Dcl} (h : Dcls lo B w v ds) (hb : Below B w w') (hB : B ≤ B') : Dcls 0 B' w' v ds := by
  obtain ⟨ao, cap, rfl, hl, h⟩ := h.on hb
  refine ⟨ao, cap, rfl, hl, fun i d hd => ?_⟩
  obtain ⟨hf, g, off, e, hlo, hg, r⟩ := h i d hd
  exact ⟨hf, g, off, e, Nat.zero_le _, by omega, r⟩
theorem Thrs.grow {lo B B' m n m' n' : Nat} {w w' : World} {v : Value} {ts : List (List Stm)} (h : Thrs lo B m n w v ts) (hb : Below B w w') (hB : B ≤ B') (hm : m ≤ m') (hn : n ≤ n') : Thrs 0 B' m' n' w' v ts := by
  obtain ⟨ao, cap, rfl, hl, h⟩ := h.on hb
  refine ⟨ao, cap, rfl, hl, fun i ss hs => ?_⟩
  obtain ⟨g, off, tao, tcap, e, hlo, hg, hc, h0, h1⟩ := h i ss hs
  exact ⟨g, off, tao, tcap, e, Nat.zero_le _, by omega, hc, h0, h1.carry (Nat.zero_le _) hB (fun _ _ _ _ _ h => h) fun _ _ hr => SRep.wide hm hn (hr.carry (Nat.zero_le _) hB (Same35.refl _ _ _) (fun _ _ _ _ _ h => h))⟩
end Go.Proofs.YtfginegegaokbaaGreatDoor.Pr
