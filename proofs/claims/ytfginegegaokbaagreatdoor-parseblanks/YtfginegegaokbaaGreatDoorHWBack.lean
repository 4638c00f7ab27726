/- The walk of ParseBack: on every list of numbers it returns true. Conditions: the table of powers and lex's variables are as they are laid. -/
import Derived.Test.YtfginegegaokbaaGreatDoorGPProgA
import Derived.Test.YtfginegegaokbaaGreatDoorHPMade
import Derived.Test.YtfginegegaokbaaGreatDoorHPSame
import Derived.Test.YtfginegegaokbaaGreatDoorHPGrow
import Derived.Test.YtfginegegaokbaaGreatDoorGTextW
import Derived.Test.YtfginegegaokbaaGreatDoorGMakeP
import Derived.Test.YtfginegegaokbaaGreatDoorHWNums
namespace Go.Proofs.YtfginegegaokbaaGreatDoor.Pr
open Go.ChangeShapes Go.WideShapes Go.ChangeAt Go.RowKit
set_option linter.unusedVariables false
set_option linter.unusedSimpArgs false

theorem made_back (ns : List UInt8) (h : ns.length ≤ 300) : ∃ q, parseP (ptext 13 5 (makeM ns)) = .ok q ∧ eqP 13 5 q (makeM ns) :=
  text_back 13 5 _ (made_gP ns) (by have := made_len 5 ns h; omega)
theorem made_ne (ns : List UInt8) : ptext 13 5 (makeM ns) ≠ [] := by
  have h3 := nxV_lt ns 3 (by omega)
  have hl := made_lens (1 + nxV ns 3) ns.tail
  have e2 : (makeM ns).threads = (threadsM (1 + nxV ns 3) ns.tail).2.1 := rfl
  obtain ⟨_, _, _, Q, hQ⟩ := made_counts 5 ns (by rw [e2, hl.2]; omega)
  rw [hQ]; simp
set_option maxHeartbeats 4000000 in
set_option maxRecDepth 100000 in
theorem back_walk (v0 : Value) (zs0 : List Int) (w : World) (h0 : IntsAt w .u8 v0 zs0) (z0 : ∀ n ∈ zs0, (Lit.int .u8 n).wf = true) (n0 : zs0.length * 1 ≤ 140737488351232) (hT : Vars w.heap.size w) (hL : Lx.Vars w) :
    Calls Tryz.prog 3 #[v0] w fun e w' => e = .returned (.bool true) ∧ Below w.heap.size w w' := by
  obtain ⟨m, hm, hm2⟩ : ∃ m, m = min zs0.length 300 ∧ m ≤ zs0.length := ⟨_, rfl, by omega⟩
  obtain ⟨ao, cap, rfl, hlc, hN⟩ := nsAt_of_ints h0 z0 m hm2
  have hmI : min (zs0.length : Int) 300 = (m : Int) := by omega
  have hmc : m ≤ cap := by omega
  obtain ⟨ns, hns⟩ : ∃ ns, ns = (byteL zs0).take m := ⟨_, rfl⟩
  have hnl : ns.length ≤ 300 := by rw [hns]; simp [byteL]; omega
  rw [← hns] at hN
  obtain ⟨p, hp⟩ : ∃ p, p = makeM ns := ⟨_, rfl⟩
  have hlen := made_len 5 ns hnl
  have hne := made_ne ns
  obtain ⟨q, hq, heq⟩ := made_back ns hnl
  rw [← hp] at hlen hne hq heq
  have hsame := peqP_of (m := bigM) (j := 41) (show 13 ≤ bigM by unfold bigM; omega) (by omega) heq
  have HM := fun (w' : World) (hb : Below w.heap.size w w') => make_any ao zs0.length cap m ns w' (by
    obtain ⟨a, b, c, d, e, f⟩ := hN.on hb.block
    exact ⟨a, b, c, d, e, fun i x hx => by obtain ⟨g, off, h1, h2, h3⟩ := f i x hx; exact ⟨g, off, h1, by have := hb.size; omega, h3⟩⟩) hmI hmc hlc (by omega)
  rw [← hp] at HM
  have H0 := awake_any w hL
  have hsz : (bstr (ptext 13 5 p)).size ≤ maxLen := by rw [bstr_size]; unfold maxLen; omega
  have HQ : Hid (parseP (bys (bstr (ptext 13 5 p))) = .ok q) := hq
  have HSame := Lib.hid hsame
  have HLen := Lib.hid hlen
  have HNe := Lib.hid hne
  have HT := Lib.hid hT
  have HL := Lib.hid hL
  clear hlen hne hq heq hsame hp hN hns hm hT hL hnl
  go_enter Tryz.func3, Tryz.ntmps3
  go_wp2_with (first
    | (go_at_call 14; refine (same_any bigM 41 p q (.slice dao p.decls.length dcap) (.slice tao p.threads.length tcap) (.slice dao' q.decls.length dcap') (.slice tao' q.threads.length tcap') (w4.alloc (progO (.slice dao' q.decls.length dcap') (.slice tao' q.threads.length tcap'))) D4.out T4.out D5.out T5.out).mono ?_; rintro e w5 ⟨rfl, hb5⟩; have B5 := Lib.hid (B4.out.trans (hb5.mono (B4.out.size))); clear hb5)
    | (go_at_call 12; refine (program_ok (bstr (ptext 13 5 p)) q w3 hsz (HL.out.grown B3.out HL.out.lt) HQ).mono ?_; rintro e w4 ⟨dv', tv', rfl, hD4, hT4, hb4⟩; obtain ⟨dao', dcap', rfl⟩ := dcls_slice hD4; obtain ⟨tao', tcap', rfl⟩ := thrs_slice hT4; have hbA := (Below.refl w4.heap.size w4).alloc (Nat.le_refl _) (progO (.slice dao' q.decls.length dcap') (.slice tao' q.threads.length tcap')); have hbB := hb4.trans (hbA.mono hb4.size); have B4 := Lib.hid (B3.out.trans (hbB.mono B3.out.size)); have D4 := Lib.hid (Dcls.grow D3.out hbB hbB.size); have T4 := Lib.hid (Thrs.grow T3.out hbB hbB.size (show 13 ≤ bigM by unfold bigM; omega) (show 5 ≤ 41 by omega)); have D5 := Lib.hid (Dcls.grow hD4 hbA hbA.size); have T5 := Lib.hid (Thrs.grow hT4 hbA hbA.size (Nat.le_refl _) (Nat.le_refl _)); have b4 := alloc_keep (below_keep hb4 b3.out) (progO (.slice dao' q.decls.length dcap') (.slice tao' q.threads.length tcap')); obtain ⟨q0, q1, _, _⟩ := two_cells b4; have hl4 := heap_lt b4; clear hD4 hT4 hb4 hbA hbB b4)
    | (go_at_call 13; refine (text_any 13 5 p (.slice dao p.decls.length dcap) (.slice tao p.threads.length tcap) (w2.alloc (progO (.slice dao p.decls.length dcap) (.slice tao p.threads.length tcap))) D2.out T2.out ((HT.out.on B2.out).mono B2.out.size) (by omega) HNe.out (by have := HLen.out; omega)).mono ?_; rintro e w3 ⟨rfl, hb3⟩; have B3 := Lib.hid (B2.out.trans (hb3.mono B2.out.size)); have D3 := Lib.hid (Dcls.grow D2.out hb3 hb3.size); have T3 := Lib.hid (Thrs.grow T2.out hb3 hb3.size (Nat.le_refl _) (Nat.le_refl _)); have b3 := Lib.hid (below_keep hb3 b2.out); clear hb3)
    | (go_at_call 11; refine (HM w1 hb1).mono ?_; rintro e w2 ⟨dv, tv, rfl, hD2, hT2, hb2⟩; obtain ⟨dao, dcap, rfl⟩ := dcls_slice hD2; obtain ⟨tao, tcap, rfl⟩ := thrs_slice hT2; have hbA := (Below.refl w2.heap.size w2).alloc (Nat.le_refl _) (progO (.slice dao p.decls.length dcap) (.slice tao p.threads.length tcap)); have B2 := Lib.hid ((hb1.trans (hb2.mono hb1.size)).trans (hbA.mono (hb1.trans (hb2.mono hb1.size)).size)); have D2 := Lib.hid (Dcls.grow hD2 hbA hbA.size); have T2 := Lib.hid (Thrs.grow hT2 hbA hbA.size (Nat.le_refl _) (Nat.le_refl _)); have b2 : Hid ((w2.alloc (progO (.slice dao p.decls.length dcap) (.slice tao p.threads.length tcap))).heap[w2.heap.size]? = some (progO (.slice dao p.decls.length dcap) (.slice tao p.threads.length tcap))) := (by show _ = _; rw [alloc_at, if_pos rfl]); clear hD2 hT2 hb2 hbA)
    | (go_at_call 10; refine H0.mono ?_; rintro e w1 ⟨rfl, hb1⟩))
  rw [HSame.out]
  go_ret
  exact ⟨rfl, B5.out⟩
end Go.Proofs.YtfginegegaokbaaGreatDoor.Pr
