/- The walk of ParseAgain: on every text it returns true. Conditions: the table of powers and lex's variables are as they are laid. -/
import Derived.Test.YtfginegegaokbaaGreatDoorGPProgA
import Derived.Test.YtfginegegaokbaaGreatDoorHPProgOk
import Derived.Test.YtfginegegaokbaaGreatDoorHPSame
import Derived.Test.YtfginegegaokbaaGreatDoorHPGrow
import Derived.Test.YtfginegegaokbaaGreatDoorGTextW
import Derived.Lib.QuietBelow
import Derived.BigQuiet
namespace Go.Proofs.YtfginegegaokbaaGreatDoor.Pr
open Go.ChangeShapes Go.WideShapes Go.ChangeAt Go.RowKit
set_option linter.unusedVariables false
set_option linter.unusedSimpArgs false

set_option maxHeartbeats 1000000 in
theorem told_any (n : Nat) (h : n = 1 ∨ n = 2 ∨ n = 6) (w : World) : Calls Tryz.prog 16 #[.int .i64 (n : Int)] w fun e w' => e = .returned (.bool true) ∧ w' = w := by
  rcases h with rfl | rfl | rfl
  all_goals
    go_enter Tryz.func16, Tryz.ntmps16
    go_wp2
    go_ret
    exact ⟨rfl, rfl⟩
set_option maxHeartbeats 4000000 in
set_option maxRecDepth 100000 in
theorem again_err (s : ByteArray) (n a : Nat) (w : World) (hs : s.size ≤ 2000) (hp : Hid (parseP (bys s) = .error (n, a))) (hT : Vars w.heap.size w) (hL : Lx.Vars w) :
    Calls Tryz.prog 4 #[.string s] w fun e w' => e = .returned (.bool true) ∧ Below w.heap.size w w' := by
  obtain ⟨hn, ha⟩ := parse_err_ok hp.out
  rw [bys_length] at ha
  have A1 := awake_any w hL
  have HL := Lib.hid hL
  have HN := Lib.hid hn
  have hb1 : ¬ (2000 : Int) < (s.size : Int) := by omega
  have hap : (a : Int) ≤ (s.size : Int) := by omega
  have ha0 : (0 : Int) ≤ (a : Int) := by omega
  have hsz : s.size ≤ maxLen := by unfold maxLen; omega
  clear hT hL hn
  go_enter Tryz.func4, Tryz.ntmps4
  go_wp2_with (first
    | (go_at_call 16; refine (told_any n HN.out w5).mono ?_; rintro e w6 ⟨rfl, hw6⟩)
    | (go_at_call 17; refine (number_any fb _ _ w4 V4.out.1 k4.out).mono ?_; rintro e w5 ⟨rfl, hb5⟩; have B5 := Lib.hid (B4.out.trans (hb5.mono B4.out.size)); clear hb5)
    | (go_at_call 15; refine (place_any fb _ _ w3 V3.out.1 k3.out).mono ?_; rintro e w4 ⟨rfl, hb4⟩; have B4 := Lib.hid (B3.out.trans (hb4.mono B3.out.size)); have V4 := Lib.hid (lx_below V3.out hb4); have k4 := Lib.hid (below_keep hb4 k3.out); clear hb4)
    | (go_at_call 15; refine (place_any fb _ _ (w2.alloc zeroP) V2.out.1 k2.out).mono ?_; rintro e w3 ⟨rfl, hb3⟩; have B3 := Lib.hid (B2.out.trans (hb3.mono B2.out.size)); have V3 := Lib.hid (lx_below V2.out hb3); have k3 := Lib.hid (below_keep hb3 k2.out); clear hb3)
    | (go_at_call 12; refine (program_err s n a w1 hsz (lx_below HL.out B1.out) hp).mono ?_; rintro e w2 ⟨fb, rfl, hf2, hb2⟩; have hbA := (Below.refl w2.heap.size w2).alloc (Nat.le_refl _) zeroP; have hbB := hb2.trans (hbA.mono hb2.size); have B2 := Lib.hid (B1.out.trans (hbB.mono B1.out.size)); have V2 := Lib.hid (lx_below HL.out B2.out); have k2 := Lib.hid (alloc_keep hf2 zeroP); clear hf2 hb2 hbA hbB)
    | (go_at_call 10; refine A1.mono ?_; rintro e w1 ⟨rfl, hb1'⟩; have B1 := Lib.hid hb1'; clear hb1'))
  go_ret
  subst hw6
  exact ⟨rfl, B5.out⟩
set_option maxHeartbeats 4000000 in
set_option maxRecDepth 100000 in
theorem again_okW (s : ByteArray) (p : Prg) (w : World) (hs : s.size ≤ 2000) (hp : Hid (parseP (bys s) = .ok p)) (hT : Vars w.heap.size w) (hL : Lx.Vars w) :
    Calls Tryz.prog 4 #[.string s] w fun e w' => e = .returned (.bool true) ∧ Below w.heap.size w w' := by
  obtain ⟨q, hq, heq, htx, ht1, hlen⟩ := again_plain (M := bigM) (by unfold bigM; omega) (by rw [bys_length]; exact hs) hp.out
  have hne := ptext_ne (m := bigM) (n := 41) ht1
  have hsame := peqP_of (m := bigM) (j := 41) (Nat.le_refl _) (Nat.le_refl _) heq
  have A1 := awake_any w hL
  obtain ⟨S, hS⟩ : ∃ S, S = bstr (ptext bigM 41 p) := ⟨_, rfl⟩
  have HX : ∀ (dv tv : Value) (w' : World), Dcls 0 w'.heap.size w' dv p.decls → Thrs 0 w'.heap.size bigM 41 w' tv p.threads → Vars w'.heap.size w' → Calls Tryz.prog 13 #[.agg #[dv, tv]] w' fun e w'' => e = .returned (.string S) ∧ Below w'.heap.size w' w'' := fun dv tv w' a b c => by
    rw [hS]; exact text_any bigM 41 p dv tv w' a b c (by omega) hne (by omega)
  have HY : ∀ (dv tv : Value) (w' : World), Dcls 0 w'.heap.size w' dv q.decls → Thrs 0 w'.heap.size bigM 41 w' tv q.threads → Vars w'.heap.size w' → Calls Tryz.prog 13 #[.agg #[dv, tv]] w' fun e w'' => e = .returned (.string S) ∧ Below w'.heap.size w' w'' := fun dv tv w' a b c => by
    rw [hS, ← htx]; exact text_any bigM 41 q dv tv w' a b c (by omega) (by rw [htx]; exact hne) (by rw [htx]; omega)
  have HQ : Hid (parseP (bys S) = .ok q) := by show _ = _; rw [hS]; exact hq
  have hszS : S.size ≤ maxLen := by rw [hS, bstr_size]; unfold maxLen; omega
  have HZ : ∀ (dv tv dv' tv' : Value) (w' : World), Dcls 0 w'.heap.size w' dv p.decls → Thrs 0 w'.heap.size bigM 41 w' tv p.threads → Dcls 0 w'.heap.size w' dv' q.decls → Thrs 0 w'.heap.size bigM 41 w' tv' q.threads → Calls Tryz.prog 14 #[.agg #[dv, tv], .agg #[dv', tv']] w' fun e w'' => e = .returned (.bool true) ∧ Below w'.heap.size w' w'' := fun dv tv dv' tv' w' a b c d => by
    have h := same_any bigM 41 p q dv tv dv' tv' w' a b c d
    rw [hsame] at h; exact h
  have HT := Lib.hid hT
  have HL := Lib.hid hL
  have hb1 : ¬ (2000 : Int) < (s.size : Int) := by omega
  have hthr : (0 : Int) < (p.threads.length : Int) := by omega
  have hsz : s.size ≤ maxLen := by unfold maxLen; omega
  clear hT hL hq heq htx hlen hne hsame hS
  go_enter Tryz.func4, Tryz.ntmps4
  go_wp2_with (first
    | (go_at_call 12; refine (program_ok S q w3 hszS (lx_below HL.out B3.out) HQ).mono ?_; rintro e w4 ⟨dv', tv', rfl, hD4, hT4, hb4⟩; obtain ⟨dao', dcap', rfl⟩ := dcls_slice hD4; obtain ⟨tao', tcap', rfl⟩ := thrs_slice hT4; have hbA := (Below.refl w4.heap.size w4).alloc (Nat.le_refl _) (progO (.slice dao' q.decls.length dcap') (.slice tao' q.threads.length tcap')); have hbB := hb4.trans (hbA.mono hb4.size); have B4 := Lib.hid (B3.out.trans (hbB.mono B3.out.size)); have D4 := Lib.hid (Dcls.grow D3.out hbB hbB.size); have T4 := Lib.hid (Thrs.grow T3.out hbB hbB.size (Nat.le_refl _) (Nat.le_refl _)); have D5 := Lib.hid (Dcls.grow hD4 hbA hbA.size); have T5 := Lib.hid (Thrs.grow hT4 hbA hbA.size (Nat.le_refl _) (Nat.le_refl _)); have b4 := Lib.hid (alloc_keep (below_keep hb4 b3.out) (progO (.slice dao' q.decls.length dcap') (.slice tao' q.threads.length tcap'))); have c4 : Hid ((w4.alloc (progO (.slice dao' q.decls.length dcap') (.slice tao' q.threads.length tcap'))).heap[w4.heap.size]? = some (progO (.slice dao' q.decls.length dcap') (.slice tao' q.threads.length tcap'))) := (by show _ = _; rw [alloc_at, if_pos rfl]); clear hD4 hT4 hb4 hbA hbB)
    | (go_at_call 13; refine (HX (.slice dao p.decls.length dcap) (.slice tao p.threads.length tcap) (w2.alloc (progO (.slice dao p.decls.length dcap) (.slice tao p.threads.length tcap))) D2.out T2.out ((HT.out.on B2.out).mono B2.out.size)).mono ?_; rintro e w3 ⟨rfl, hb3⟩; have B3 := Lib.hid (B2.out.trans (hb3.mono B2.out.size)); have D3 := Lib.hid (Dcls.grow D2.out hb3 hb3.size); have T3 := Lib.hid (Thrs.grow T2.out hb3 hb3.size (Nat.le_refl _) (Nat.le_refl _)); have b3 := Lib.hid (below_keep hb3 b2.out); clear hb3)
    | (go_at_call 12; refine (program_ok s p w1 hsz (lx_below HL.out B1.out) hp).mono ?_; rintro e w2 ⟨dv, tv, rfl, hD2, hT2, hb2⟩; obtain ⟨dao, dcap, rfl⟩ := dcls_slice hD2; obtain ⟨tao, tcap, rfl⟩ := thrs_slice hT2; have hbA := (Below.refl w2.heap.size w2).alloc (Nat.le_refl _) (progO (.slice dao p.decls.length dcap) (.slice tao p.threads.length tcap)); have B2 := Lib.hid (B1.out.trans ((hb2.trans (hbA.mono hb2.size)).mono B1.out.size)); have D2 := Lib.hid (Dcls.grow hD2 hbA hbA.size); have T2 := Lib.hid (Thrs.grow hT2 hbA hbA.size (Nat.le_refl _) (Nat.le_refl _)); have b2 : Hid ((w2.alloc (progO (.slice dao p.decls.length dcap) (.slice tao p.threads.length tcap))).heap[w2.heap.size]? = some (progO (.slice dao p.decls.length dcap) (.slice tao p.threads.length tcap))) := (by show _ = _; rw [alloc_at, if_pos rfl]); clear hD2 hT2 hb2 hbA)
    | (go_at_call 10; refine A1.mono ?_; rintro e w1 ⟨rfl, hb1'⟩; have B1 := Lib.hid hb1'; clear hb1'))
  obtain ⟨W, hW⟩ : ∃ W, W = w4.alloc (progO (.slice dao' q.decls.length dcap') (.slice tao' q.threads.length tcap')) := ⟨_, rfl⟩
  rw [← hW] at B4 D4 T4 D5 T5 b4 c4 ⊢
  clear hW
  have VW : Vars W.heap.size W := (HT.out.on B4.out).mono B4.out.size
  have C1 : ∀ d os, Calls Tryz.prog 14 _ _ _ := fun d os => Calls.regrown_of (HZ _ _ _ _ _ (dcls_later D4.out (below_regrown W d os)) (thrs_later T4.out (below_regrown W d os)) (dcls_later D5.out (below_regrown W d os)) (thrs_later T5.out (below_regrown W d os)))
  have C2 : ∀ d os, Calls Tryz.prog 13 _ _ _ := fun d os => Calls.regrown_of (HY _ _ _ (dcls_later D5.out (below_regrown W d os)) (thrs_later T5.out (below_regrown W d os)) ((VW.on (below_regrown W d os)).mono (below_regrown W d os).size))
  have C3 : ∀ d os, Calls Tryz.prog 13 _ _ _ := fun d os => Calls.regrown_of (HX _ _ _ (dcls_later D4.out (below_regrown W d os)) (thrs_later T4.out (below_regrown W d os)) ((VW.on (below_regrown W d os)).mono (below_regrown W d os).size))
  obtain ⟨r0, r1, _, _⟩ := two_cells b4.out
  obtain ⟨s0, s1, _, _⟩ := two_cells c4.out
  have P0 := cell_regrown r0
  have P1 := cell_regrown r1
  have Q0 := cell_regrown s0
  have Q1 := cell_regrown s1
  clear HX HY HZ VW B3 D2 T2 D3 T3 b2 b3 B2
  refine wp_region_quiet_below (by kernel_rfl) (by kernel_rfl) ?_
  repeat (go_big_quiet_step (first | with_reducible exact C1 _ _ | with_reducible exact C2 _ _ | with_reducible exact C3 _ _))
  refine wpQuiet_nil ?_
  intro _ hw'
  obtain ⟨⟨dq, osq⟩, hw''⟩ := hw'
  subst hw''
  have hB2 := below_regrown W dq osq
  have BF := Lib.hid (B4.out.trans (hB2.mono B4.out.size))
  have hthN : 0 < p.threads.length := by omega
  go_wp2
  go_ret
  refine ⟨?_, BF.out⟩
  show Ending.returned (Value.bool (decide (0 < p.threads.length))) = _
  rw [decide_eq_true hthN]
set_option maxHeartbeats 1000000 in
set_option maxRecDepth 100000 in
theorem again_long (s : ByteArray) (w : World) (hs : ¬ s.size ≤ 2000) (n0 : s.size ≤ 140737488351232) (hL : Lx.Vars w) :
    Calls Tryz.prog 4 #[.string s] w fun e w' => e = .returned (.bool true) ∧ Below w.heap.size w w' := by
  have A1 := awake_any w hL
  have hb1 : (2000 : Int) < (s.size : Int) := by omega
  clear hL
  go_enter Tryz.func4, Tryz.ntmps4
  go_wp2_with (go_at_call 10; refine A1.mono ?_; rintro e w1 ⟨rfl, hb1'⟩)
  go_ret
  exact ⟨rfl, hb1'⟩
theorem again_walk (s : ByteArray) (w : World) (n0 : s.size ≤ 140737488351232) (hT : Vars w.heap.size w) (hL : Lx.Vars w) :
    Calls Tryz.prog 4 #[.string s] w fun e w' => e = .returned (.bool true) ∧ Below w.heap.size w w' := by
  by_cases hs : s.size ≤ 2000
  · cases h : parseP (bys s) with
    | error e => obtain ⟨n, a⟩ := e; exact again_err s n a w hs h hT hL
    | ok p => exact again_okW s p w hs h hT hL
  · exact again_long s w hs n0 hL
end Go.Proofs.YtfginegegaokbaaGreatDoor.Pr
