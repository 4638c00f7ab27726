/- Own texts laid together: CAw0, CAwake. Conditions: as each theorem says. -/
import Derived.Test.YtclmeachbojopaaGreatDoorHPPlain
import Derived.Test.YtclmeachbojopaaGreatDoorGPValueA
import Derived.Test.YtclmeachbojopaaGreatDoorGCoA
import Derived.Test.YtclmeachbojopaaGreatDoorGPProgA
set_option linter.unusedVariables false
set_option linter.unusedSimpArgs false
namespace Go.Proofs.YtclmeachbojopaaGreatDoor.Co
open Pr (bigM parseP)
def awT : List UInt8 := [112, 117, 98, 108, 105, 99, 32, 97, 59, 32, 116, 104, 114, 101, 97, 100, 32, 123, 32, 108, 111, 111, 112, 32, 105, 32, 49, 48, 32, 123, 32, 97, 32, 61, 32, 49, 59, 32, 125, 32, 125]
def awB : Bool := match parseP awT with
  | .ok p => match p.threads with
    | [ss] => bcost bigM 41 ss == 94
    | _ => false
  | .error _ => false
theorem awB_true : awB = true := by kernel_rfl
theorem aw_is : ∃ ds ss, parseP awT = .ok ⟨ds, [ss]⟩ /\ bcost bigM 41 ss = 94 := by
  have h := awB_true
  unfold awB at h
  split at h
  · rename_i p hp
    obtain ⟨ds, ts⟩ := p
    split at h
    · rename_i ss hs
      simp only at hs
      subst hs
      exact ⟨ds, ss, hp, by simpa using h⟩
    · cases h
  · cases h
end Go.Proofs.YtclmeachbojopaaGreatDoor.Co
namespace Go.Proofs.YtclmeachbojopaaGreatDoor.Co
open Go.ChangeShapes Go.WideShapes Go.ChangeAt Go.RowKit
theorem lo_zero {lo m n : Nat} {w : World} {v : Value} {ss : List Stm} (h : Stms lo w.heap.size w (fun v' s' => SRep lo w.heap.size w m n v' s') v ss) : Stms 0 w.heap.size w (fun v' s' => SRep 0 w.heap.size w m n v' s') v ss :=
  h.carry (Nat.zero_le _) (Nat.le_refl _) (fun _ _ _ _ _ h => h) fun _ _ hr => hr.carry (Nat.zero_le _) (Nat.le_refl _) (Same35.refl _ _ _) (fun _ _ _ _ _ h => h)
set_option maxHeartbeats 4000000 in
set_option maxRecDepth 100000 in
theorem awake_any (w : World) (hV : Lx.Vars w) : Calls Tryz.prog 7 #[] w fun e w' => e = .returned (.bool true) /\ Below w.heap.size w w' := by
  obtain ⟨ds, ss, hp, hc⟩ := aw_is
  have P1 := Pr.program_ok ⟨⟨awT⟩⟩ ⟨ds, [ss]⟩ w (by decide) hV hp
  have HC := Lib.hid hc
  clear hp hc hV
  go_enter Tryz.func7, Tryz.ntmps7
  go_wp2_with (first
    | (go_at_call 9; refine (PB _).mono ?_; rintro e w2 ⟨rfl, hb2⟩)
    | (go_at_call 17; refine P1.mono ?_; rintro e w1 ⟨dv, tv, rfl, D1, T1, hb1⟩; obtain ⟨dao, dcap, rfl, _⟩ := D1; obtain ⟨tao, tcap, rfl, _, hT⟩ := T1; obtain ⟨g, off, tao2, tcap2, rfl, _, hg, _, hc0, hS⟩ := hT 0 ss rfl; have hg' : g < w1.heap.size := hg; rw [Nat.add_zero] at hc0; have PB := fun o => block_all Pr.bigM 41 _ _ (w1.alloc o) (stms_later (lo_zero hS) ((Below.refl _ _).alloc (Nat.le_refl _) o)); rw [HC.out] at PB; clear hT hS))

  go_ret
  exact ⟨rfl, (hb1.alloc hb1.size _).trans (hb2.mono (by rw [alloc_size]; have := hb1.size; omega))⟩
end Go.Proofs.YtclmeachbojopaaGreatDoor.Co
