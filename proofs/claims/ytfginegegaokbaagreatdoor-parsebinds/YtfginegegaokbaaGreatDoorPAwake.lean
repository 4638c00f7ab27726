/- The law's awake answers true. Conditions: lex's variables are as they are laid. -/
import Derived.Test.YtfginegegaokbaaGreatDoorPAwake0
import Derived.Test.YtfginegegaokbaaGreatDoorPProg3
import Derived.Test.YtfginegegaokbaaGreatDoorErrAs2
namespace Go.Proofs.YtfginegegaokbaaGreatDoor.Pr
open Go.ChangeShapes Go.WideShapes Go.ChangeAt Go.RowKit
open Lx (Tok)
set_option linter.unusedVariables false
set_option linter.unusedSimpArgs false

theorem lx_below {w w' : World} (h : Lx.Vars w) (hb : Below w.heap.size w w') : Lx.Vars w' := h.grown hb h.lt
theorem below_keep {w w' : World} {k : Nat} {o : Obj} (hb : Below w.heap.size w w') (h : w.heap[k]? = some o) : w'.heap[k]? = some o := (hb.block k (heap_lt h)).trans h
theorem below_none {w w' : World} (h : w.grownBy w' none) : Below w.heap.size w w' :=
  { os := h.os, tape := h.tape, output := h.output, size := h.size, block := fun k hk => h.block k hk (fun e => by cases e) }
@[reducible] def progO (a b : Value) : Obj := .cells #[a, b] 27
set_option maxHeartbeats 4000000 in
set_option maxRecDepth 100000 in
theorem awake_any (w : World) (hV : Lx.Vars w) : Calls Tryz.prog 10 #[] w fun e w' => e = .returned (.bool true) ∧ Below w.heap.size w w' := by
  have P1 := program_ok ⟨#[116, 104, 114, 101, 97, 100, 32, 123, 32, 125]⟩ ⟨[], [[]]⟩ w (by decide) hV aw1
  have P2 := fun w' hv => program_err ⟨#[116, 104, 114, 101, 97, 100, 32, 123, 32, 97, 32, 61, 32, 49, 32, 125]⟩ 2 15 w' (by decide) hv aw2
  have P3 := fun w' hv => program_err ⟨#[]⟩ 2 0 w' (by decide) hv aw3
  have HV := Lib.hid hV
  clear hV
  go_enter Tryz.func10, Tryz.ntmps10
  go_wp2_with (first
    | (go_at_call 15; refine (place_any fb3 _ _ _ V7.out.1 k7.out).mono ?_; rintro e w8 ⟨rfl, hb8⟩; have G8 := Lib.hid (grownBy_trans G7.out (below_grown hb8 none)); clear hb8)
    | (go_at_call 17; refine (number_any fb3 _ _ _ V6.out.1 k6.out).mono ?_; rintro e w7 ⟨rfl, hb7⟩; have G7 := Lib.hid (grownBy_trans G6.out (below_grown hb7 none)); have V7 := Lib.hid (lx_below V6.out hb7); have k7 := Lib.hid (below_keep hb7 k6.out); clear hb7)
    | (go_at_call 15; refine (place_any fb2 _ _ _ V5.out.1 j5.out).mono ?_; rintro e w6 ⟨rfl, hb6⟩; have G6 := Lib.hid (grownBy_trans G5.out (below_grown hb6 none)); have V6 := Lib.hid (lx_below V5.out hb6); have k6 := Lib.hid (below_keep hb6 k5.out); clear hb6)
    | (go_at_call 17; refine (number_any fb2 _ _ _ V4.out.1 j4.out).mono ?_; rintro e w5 ⟨rfl, hb5⟩; have G5 := Lib.hid (grownBy_trans G4.out (below_grown hb5 none)); have V5 := Lib.hid (lx_below V4.out hb5); have k5 := Lib.hid (below_keep hb5 k4.out); have j5 := Lib.hid (below_keep hb5 j4.out); clear hb5)
    | (go_at_call 12; refine (P3 _ V3.out).mono ?_; rintro e w3 ⟨fb3, rfl, hf3, hb3⟩; have G4 := Lib.hid (grownBy_trans (grownBy_trans G3.out (below_grown hb3 none)) (World.grownBy_alloc w3 zeroP none)); have V4 := Lib.hid (lx_alloc (lx_below V3.out hb3) zeroP); have k4 := Lib.hid (alloc_keep hf3 zeroP); have j4 := Lib.hid (alloc_keep (below_keep hb3 j3.out) zeroP); have b4 := alloc_keep (below_keep hb3 b3.out) zeroP; obtain ⟨q0, q1, _, _⟩ := two_cells b4; have hl4 := heap_lt b4; have q0' := (two_cells (below_keep hb3 b3.out)).1; have q1' := (two_cells (below_keep hb3 b3.out)).2.1; have hl4' := heap_lt (below_keep hb3 b3.out); clear hb3 hf3 b4)
    | (go_at_call 12; refine (P2 _ V2.out).mono ?_; rintro e w2 ⟨fb2, rfl, hf2, hb2⟩; have G3 := Lib.hid (grownBy_trans (grownBy_trans G2.out (below_grown hb2 none)) (World.grownBy_alloc w2 zeroP none)); have V3 := Lib.hid (lx_alloc (lx_below V2.out hb2) zeroP); have j3 := Lib.hid (alloc_keep hf2 zeroP); have b3 := Lib.hid (alloc_keep (below_keep hb2 b2.out) zeroP); clear hb2 hf2)
    | (go_at_call 12; refine P1.mono ?_; rintro e w1 ⟨dv, tv, rfl, D1, T1, hb1⟩; obtain ⟨dao, dcap, rfl⟩ := dcls_slice D1; obtain ⟨tao, tcap, rfl⟩ := thrs_slice T1; have G2 := Lib.hid (grownBy_trans (below_grown hb1 none) (World.grownBy_alloc w1 (progO (.slice dao 0 dcap) (.slice tao 1 tcap)) none)); have V2 := Lib.hid (lx_alloc (lx_below HV.out hb1) (progO (.slice dao 0 dcap) (.slice tao 1 tcap))); have b2 : Hid ((w1.alloc (progO (.slice dao 0 dcap) (.slice tao 1 tcap))).heap[w1.heap.size]? = some (progO (.slice dao 0 dcap) (.slice tao 1 tcap))) := (by show _ = _; rw [alloc_at, if_pos rfl]); clear D1 T1 hb1))
  go_ret
  exact ⟨rfl, below_none G8.out⟩
end Go.Proofs.YtfginegegaokbaaGreatDoor.Pr
