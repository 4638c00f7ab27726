/- The walk of ParseBroken: on every list of numbers and every two numbers it returns true. Conditions: the table of powers and lex's variables are as they are laid. -/
import Derived.Test.YtfginegegaokbaaGreatDoorGPCountA
import Derived.Test.YtfginegegaokbaaGreatDoorGWSmall
import Derived.Test.YtfginegegaokbaaGreatDoorGTextW
namespace Go.Proofs.YtfginegegaokbaaGreatDoor.Pr
open Go.ChangeShapes Go.WideShapes Go.ChangeAt Go.RowKit
set_option linter.unusedVariables false
set_option linter.unusedSimpArgs false

theorem bys_cat3 (a b : ByteArray) : bys (a ++ b) = bys a ++ bys b := by unfold bys; simp [ByteArray.data_append]
@[reducible] def signO : Obj := .cells #[.string ⟨#[59]⟩, .string ⟨#[123]⟩, .string ⟨#[125]⟩, .string ⟨#[61]⟩, .string ⟨#[116, 104, 114, 101, 97, 100]⟩, .string ⟨#[91]⟩, .string ⟨#[93]⟩, .string ⟨#[55]⟩] 9
theorem sign_cell {w : World} {b j : Nat} (h : w.heap[b]? = some signO) (hj : j < 8) : ∃ s, signs8[j]? = some s /\ w.cell? ⟨b, j, none⟩ = some (.string (bstr s.text)) := by
  rw [Lib.cell_of_heap h]
  have d7 : (dg 7).text = [55] := Go.Lib.decDigits_one (by omega)
  have : j = 0 \/ j = 1 \/ j = 2 \/ j = 3 \/ j = 4 \/ j = 5 \/ j = 6 \/ j = 7 := by omega
  rcases this with rfl | rfl | rfl | rfl | rfl | rfl | rfl | rfl
  · exact ⟨_, rfl, rfl⟩
  · exact ⟨_, rfl, rfl⟩
  · exact ⟨_, rfl, rfl⟩
  · exact ⟨_, rfl, rfl⟩
  · exact ⟨_, rfl, rfl⟩
  · exact ⟨_, rfl, rfl⟩
  · exact ⟨_, rfl, rfl⟩
  · exact ⟨dg 7, rfl, by rw [d7]; rfl⟩
set_option maxHeartbeats 4000000 in
set_option maxRecDepth 100000 in
theorem broken_both (v0 : Value) (zs0 : List Int) (wh wi j o : Nat) (odd : Bool) (ho : (odd = true /\ o = 1) \/ (odd = false /\ o = 0)) (w : World) (h0 : IntsAt w .u8 v0 zs0) (z0 : ∀ n ∈ zs0, (Lit.int .u8 n).wf = true) (n0 : zs0.length * 1 <= 140737488351232) (h1 : wh < 65536) (h2 : wi < 256) (hr : wi % 2 = o) (hj : j = wi / 2 % 8) (hT : Vars w.heap.size w) (hL : Lx.Vars w) :
    Calls Tryz.prog 6 #[v0, .int .u16 (wh : Int), .int .u8 (wi : Int)] w fun e w' => e = .returned (.bool true) /\ Below w.heap.size w w' := by
  obtain ⟨m, hm, hm2⟩ : ∃ m, m = min zs0.length 300 /\ m <= zs0.length := ⟨_, rfl, by omega⟩
  obtain ⟨ao, cap, rfl, hlc, hN⟩ := nsAt_of_ints h0 z0 m hm2
  have hmI : min (zs0.length : Int) 300 = (m : Int) := by omega
  have hmc : m <= cap := by omega
  obtain ⟨ns, hns⟩ : ∃ ns, ns = (byteL zs0).take m := ⟨_, rfl⟩
  have hnl : ns.length <= 300 := by rw [hns]; simp [byteL]; omega
  rw [<- hns] at hN
  obtain ⟨p, hp⟩ : ∃ p, p = makeM ns := ⟨_, rfl⟩
  have hlen := made_len 5 ns hnl
  have hne := made_ne ns
  obtain ⟨us, eN, hcut, hus, hbr⟩ := broken_plain (M := bigM) (by unfold bigM; omega) ns hnl
  rw [<- hp] at hlen hne hcut hbr
  obtain ⟨sg, hsg⟩ : ∃ sg, signs8[j]? = some sg := some_at (show j < signs8.length from by show j < 8; omega)
  obtain ⟨sf, snp, sl6⟩ := signs8_ok sg (List.mem_of_getElem? hsg)
  obtain ⟨A, hA⟩ : ∃ A, A = wh % us.length := ⟨_, rfl⟩
  have hAl : A < us.length := by rw [hA]; exact Nat.mod_lt _ (by omega)
  have HBR := Lib.hid (hbr A odd sg hAl sf snp)
  obtain ⟨ts, hts⟩ : ∃ ts, ts = us ++ [endT eN] := ⟨_, rfl⟩
  have htl : ts.length = us.length + 1 := by rw [hts]; simp
  rw [<- hts] at hcut HBR
  have hBt := (cut_toks_ok hcut).2
  have htl2 := (Lx.cutAll_len hcut).1
  have HUS : Hid (us[A]? = ts[A]?) := by show us[A]? = ts[A]?; rw [hts, List.getElem?_append_left hAl]
  have HM := fun (w' : World) (hb : Below w.heap.size w w') => make_any ao zs0.length cap m ns w' (by
    obtain ⟨a, b, c, d, e, f⟩ := hN.on hb.block
    exact ⟨a, b, c, d, e, fun i x hx => by obtain ⟨g, off, h1, h2, h3⟩ := f i x hx; exact ⟨g, off, h1, by have := hb.size; omega, h3⟩⟩) hmI hmc hlc (by omega)
  rw [<- hp] at HM
  have H0 := awake_any w hL
  obtain ⟨S, hS⟩ : ∃ S, S = bstr (ptext 13 5 p) := ⟨_, rfl⟩
  have hsz : S.size <= maxLen := by rw [hS, bstr_size]; unfold maxLen; omega
  have HC : Hid (Lx.cutAll (bys S) = .ok ts) := by show _ = _; rw [hS]; exact hcut
  have HX : ∀ (dv tv : Value) (w' : World), Dcls 0 w'.heap.size w' dv p.decls -> Thrs 0 w'.heap.size 13 5 w' tv p.threads -> Vars w'.heap.size w' -> Calls Tryz.prog 13 #[.agg #[dv, tv]] w' fun e w'' => e = .returned (.string S) /\ Below w'.heap.size w' w'' := fun dv tv w' a b c => by
    rw [hS]; exact text_any 13 5 p dv tv w' a b c (by omega) hne (by omega)
  have hBtl : Bt ts <= 40000 := by omega
  have HLen := Lib.hid (show ∀ i, (bstr (bkT A odd sg.text 0 (ts.take i))).size <= 600000 from fun i => by
    rw [bstr_size]
    have a1 := bkT_len A odd sg.text (ts.take i) 0
    have a2 := Bt_take ts i
    have a3 : (ts.take i).length <= 65537 := by rw [List.length_take]; omega
    have a4 : (ts.take i).length * (2 + sg.text.length) <= 65537 * 8 := Nat.mul_le_mul a3 (by omega)
    omega)
  have hrem : Int.tmod (wh : Int) ((ts.length : Int) - 1) = (A : Int) := by
    rw [show (ts.length : Int) - 1 = (us.length : Int) by omega, Int.tmod_eq_emod_of_nonneg (by omega), hA]; rfl
  have hnz : ¬ (ts.length : Int) - 1 = 0 := by omega
  have hlt2 : ¬ (ts.length : Int) < 2 := by omega
  have hr1 : Int.tmod (wi : Int) 2 = (o : Int) := by rw [Int.tmod_eq_emod_of_nonneg (by omega)]; omega
  have hr2 : (wi : Int) % 2 = (o : Int) := by omega
  have hj1 : Int.tmod ((wi : Int) / 2) 8 = (j : Int) := by rw [Int.tmod_eq_emod_of_nonneg (by omega)]; omega
  have hj2 : ((wi : Int) / 2) % 8 = (j : Int) := by omega
  have hj3 : Int.tmod (Int.tdiv (wi : Int) 2) 8 = (j : Int) := by rw [Int.tdiv_eq_ediv_of_nonneg (by omega)]; exact hj1
  have hj8 : j < 8 := by omega
  have hAts : A < ts.length := by omega
  have HT := Lib.hid hT
  have HL := Lib.hid hL
  have HSG := Lib.hid hsg
  have HO := Lib.hid ho
  clear hlen hne hcut hbr hp hN hns hm hT hL hnl hS h0 z0 hBt hr hj hA hts htl hsg hus ho
  go_enter Tryz.func6, Tryz.ntmps6
  go_wp2_with (first
    | (go_at_call 18; refine (cut_toks S ts w3 hsz (HL.out.grown B3.out HL.out.lt) HC).mono ?_; rintro e w5 ⟨g, tcap, rfl, hTk, hgl, hcc, hb5⟩; have B5 := Lib.hid (B3.out.trans (hb5.mono B3.out.size)); have D5 := Lib.hid (Dcls.grow D3.out hb5 hb5.size); have T5 := Lib.hid (Thrs.grow T3.out hb5 hb5.size (Nat.le_refl _) (Nat.le_refl _)); have b5 := Lib.hid (below_keep hb5 b3.out); clear hb5)
    | (go_at_call 13; refine (HX (.slice dao p.decls.length dcap) (.slice tao p.threads.length tcap0) (w2.alloc (progO (.slice dao p.decls.length dcap) (.slice tao p.threads.length tcap0))) D2.out T2.out ((HT.out.on B2.out).mono B2.out.size)).mono ?_; rintro e w3 ⟨rfl, hb3⟩; have B3 := Lib.hid (B2.out.trans (hb3.mono B2.out.size)); have D3 := Lib.hid (Dcls.grow D2.out hb3 hb3.size); have T3 := Lib.hid (Thrs.grow T2.out hb3 hb3.size (Nat.le_refl _) (Nat.le_refl _)); have b3 := Lib.hid (below_keep hb3 b2.out); clear hb3)
    | (go_at_call 11; refine (HM w1 hb1).mono ?_; rintro e w2 ⟨dv, tv, rfl, hD2, hT2, hb2⟩; obtain ⟨dao, dcap, rfl⟩ := dcls_slice hD2; obtain ⟨tao, tcap0, rfl⟩ := thrs_slice hT2; have hbA := (Below.refl w2.heap.size w2).alloc (Nat.le_refl _) (progO (.slice dao p.decls.length dcap) (.slice tao p.threads.length tcap0)); have B2 := Lib.hid ((hb1.trans (hb2.mono hb1.size)).trans (hbA.mono (hb1.trans (hb2.mono hb1.size)).size)); have D2 := Lib.hid (Dcls.grow hD2 hbA hbA.size); have T2 := Lib.hid (Thrs.grow hT2 hbA hbA.size (Nat.le_refl _) (Nat.le_refl _)); have b2 : Hid ((w2.alloc (progO (.slice dao p.decls.length dcap) (.slice tao p.threads.length tcap0))).heap[w2.heap.size]? = some (progO (.slice dao p.decls.length dcap) (.slice tao p.threads.length tcap0))) := (by show _ = _; rw [alloc_at, if_pos rfl]); clear hD2 hT2 hb2 hbA)
    | (go_at_call 10; refine H0.mono ?_; rintro e w1 ⟨rfl, hb1⟩))
  have HTK := Lib.hid hTk.out
  have hcl : ts.length <= tcap /\ tcap <= 9223372036854775807 := hcc.out
  obtain ⟨hcl1, hcl2⟩ := hcl
  obtain ⟨W6, hW6⟩ : ∃ W6, W6 = w5.alloc signO := ⟨_, rfl⟩
  have hG6 : W6.heap[w5.heap.size]? = some signO := by rw [hW6, alloc_at, if_pos rfl]
  have hz6 : W6.heap.size = w5.heap.size + 1 := by rw [hW6, alloc_size]
  have hb56 : Below w5.heap.size w5 W6 := by rw [hW6]; exact (Below.refl _ _).alloc (Nat.le_refl _) _
  rw [<- hW6]
  have HG6 := Lib.hid hG6
  have HB56 := Lib.hid hb56
  have hz6' := Lib.hid hz6
  clear hTk hcc hW6 hG6 hb56 hz6
  go_loopw [12, 43] (fun sv iv wr => ∃ i : Nat, i <= ts.length /\ iv = .int .i64 i /\ sv = .string (bstr (bkT A odd sg.text 0 (ts.take i))) /\ Hid (Below W6.heap.size W6 wr)) (fun _ iv _ => ts.length - (intOf iv).toNat)
  case atStart => exact ⟨0, Nat.zero_le _, rfl, rfl, Lib.hid (Below.refl _ _)⟩
  case round =>
    obtain ⟨i, hi, rfl, rfl, hB⟩ := hrel
    by_cases hlt : i < ts.length
    · obtain ⟨t, ht⟩ := some_at hlt
      have hb5r : Below w5.heap.size w5 wr := HB56.out.trans (hB.out.mono HB56.out.size)
      obtain ⟨hfit, c0, c1, c2, c3⟩ := tok_cells HTK.out ht hgl hb5r
      have hgr : g < wr.heap.size := by have := hb5r.size; omega
      have hgs : w5.heap.size < wr.heap.size := by have := hB.out.size; have := hz6'.out; omega
      have hltI : (i : Int) < (ts.length : Int) := by omega
      obtain ⟨sg', hs1, cG0⟩ := sign_cell (w := wr) (b := w5.heap.size) (j := j) ((hB.out.block w5.heap.size (by have := hz6'.out; omega)).trans HG6.out) hj8
      obtain rfl : sg = sg' := Option.some.inj (HSG.out.symm.trans hs1)
      have zs := HLen.out i
      have zx : (bstr sg.text).size <= 6 := by rw [bstr_size]; exact sl6
      have zt : (bstr t.text).size <= 65536 := by rw [bstr_size]; exact hfit.2.1
      have HH := Lib.hid ht
      have hne5 : ¬ g = wr.heap.size := by omega
      have hne6 : ¬ w5.heap.size = wr.heap.size := by omega
      clear hfit hb5r ht hs1
      by_cases hiA : i = A
      · subst hiA
        rcases HO.out with ⟨rfl, rfl⟩ | ⟨rfl, rfl⟩
        · go_wp2
          go_roundw
          case rel =>
            refine ⟨i + 1, by omega, by go_num, ?_, Lib.hid (hB.out.alloc hB.out.size _)⟩
            rw [bkT_step HH.out, if_pos ⟨rfl, rfl⟩, if_neg (by simp)]
            congr 1
            apply bys_inj
            simp only [bys_cat3, bys_bstr, List.append_assoc]
            rfl
          case measure => simp [intOf]; omega
        · go_wp2
          go_roundw
          case rel =>
            refine ⟨i + 1, by omega, by go_num, ?_, Lib.hid (hB.out.alloc hB.out.size _)⟩
            rw [bkT_step HH.out, if_neg (by simp), if_pos ⟨rfl, rfl⟩]
            simp
          case measure => simp [intOf]; omega
      · have hiI : ¬ (i : Int) = (A : Int) := by omega
        have hiB : ((i : Int) == (A : Int)) = false := by simpa using hiI
        have hiC : ((i : Int) != (A : Int)) = true := by simpa using hiI
        go_wp2
        go_roundw
        case rel =>
          refine ⟨i + 1, by omega, by go_num, ?_, Lib.hid (hB.out.alloc hB.out.size _)⟩
          rw [bkT_step HH.out, if_neg (by omega), if_neg (by omega)]
          congr 1
          apply bys_inj
          simp only [bys_cat3, bys_bstr, List.append_assoc, List.nil_append]
          rfl
        case measure => simp [intOf]; omega
    · obtain rfl : i = ts.length := by omega
      rw [List.take_length]
      have zs := HLen.out ts.length
      rw [List.take_length] at zs
      have hszT : (bstr (bkT A odd sg.text 0 ts)).size <= maxLen := by unfold maxLen; omega
      have hB56r : Below w5.heap.size w5 wr := HB56.out.trans (hB.out.mono HB56.out.size)
      have B6 := Lib.hid (B5.out.trans (hB56r.mono B5.out.size))
      have D6 := Lib.hid (Dcls.grow D5.out hB56r hB56r.size)
      have T6 := Lib.hid (Thrs.grow T5.out hB56r hB56r.size (Nat.le_refl _) (Nat.le_refl _))
      have b6 := Lib.hid (below_keep hB56r b5.out)
      obtain ⟨tA, htA⟩ := some_at hAts
      have HA0 := Lib.hid (tok_cells HTK.out htA hgl hB56r)
      have HtA := Lib.hid htA
      have hgw : g < wr.heap.size := by have := hB56r.size; omega
      clear hlt hi hB hB56r htA
      cases hres : parseP (bkT A odd sg.text 0 ts) with
      | error en =>
        obtain ⟨n, a⟩ := en
        have HN := Lib.hid (parse_err_ok hres).1
        have HP : Hid (parseP (bys (bstr (bkT A odd sg.text 0 ts))) = .error (n, a)) := hres
        clear hres
        go_wp2_with (first
          | (go_at_call 16; refine (told_any n HN.out w8).mono ?_; rintro e w9 ⟨rfl, hw9⟩)
          | (go_at_call 17; refine (number_any fb _ _ (w7.alloc zeroP) V7.out.1 k7.out).mono ?_; rintro e w8 ⟨rfl, hb8⟩; have B8 := Lib.hid (B7.out.trans (hb8.mono B7.out.size)); clear hb8)
          | (go_at_call 12; refine (program_err (bstr (bkT A odd sg.text 0 ts)) n a wr hszT (lx_below HL.out B6.out) HP).mono ?_; rintro e w7 ⟨fb, rfl, hf7, hb7⟩; have hbA := (Below.refl w7.heap.size w7).alloc (Nat.le_refl _) zeroP; have hbB := hb7.trans (hbA.mono hb7.size); have B7 := Lib.hid (B6.out.trans (hbB.mono B6.out.size)); have V7 := Lib.hid (lx_below HL.out B7.out); have k7 := Lib.hid (alloc_keep hf7 zeroP); clear hf7 hb7 hbA hbB))
        go_ret
        subst hw9
        exact ⟨rfl, B8.out⟩
      | ok q =>
        have HQ : Hid (parseP (bys (bstr (bkT A odd sg.text 0 ts))) = .ok q) := hres
        have HBQ := Lib.hid (HBR.out q hres)
        clear hres
        obtain ⟨b, hb⟩ : ∃ b, b = peqP bigM 41 p q := ⟨_, rfl⟩
        have HSame : ∀ (dv tv dv' tv' : Value) (w' : World), Dcls 0 w'.heap.size w' dv p.decls -> Thrs 0 w'.heap.size bigM 41 w' tv p.threads -> Dcls 0 w'.heap.size w' dv' q.decls -> Thrs 0 w'.heap.size bigM 41 w' tv' q.threads -> Calls Tryz.prog 14 #[.agg #[dv, tv], .agg #[dv', tv']] w' fun e w'' => e = .returned (.bool b) /\ Below w'.heap.size w' w'' := fun dv tv dv' tv' w' x y z u => by
          have h := same_any bigM 41 p q dv tv dv' tv' w' x y z u
          rw [<- hb] at h; exact h
        have HBB : Hid (b = true -> odd = false /\ ∃ t, us[A]? = some t /\ (t.text = [40] \/ t.text = [41])) := fun h => HBQ.out (by rw [<- hb]; exact h)
        clear hb HBQ
        rcases HO.out with ⟨rfl, rfl⟩ | ⟨rfl, rfl⟩
        · cases b with
          | true => exact absurd (HBB.out rfl).1 (by decide)
          | false =>
            go_wp2_with (first
            | (go_at_call 14; refine (HSame (.slice dao p.decls.length dcap) (.slice tao p.threads.length tcap0) (.slice dao2 q.decls.length dcap2) (.slice tao2 q.threads.length tcap2) (w7.alloc (progO (.slice dao2 q.decls.length dcap2) (.slice tao2 q.threads.length tcap2))) D7.out T7.out D8.out T8.out).mono ?_; rintro e w9 ⟨rfl, hb9⟩; have B9 := Lib.hid (B7.out.trans (hb9.mono B7.out.size));  clear hb9)
            | (go_at_call 12; refine (program_ok (bstr (bkT A true sg.text 0 ts)) q wr hszT (lx_below HL.out B6.out) HQ).mono ?_; rintro e w7 ⟨dv, tv, rfl, hD, hT, hb7⟩; obtain ⟨dao2, dcap2, rfl⟩ := dcls_slice hD; obtain ⟨tao2, tcap2, rfl⟩ := thrs_slice hT; have hbA := (Below.refl w7.heap.size w7).alloc (Nat.le_refl _) (progO (.slice dao2 q.decls.length dcap2) (.slice tao2 q.threads.length tcap2)); have hbB := hb7.trans (hbA.mono hb7.size); have B7 := Lib.hid (B6.out.trans (hbB.mono B6.out.size)); have D7 := Lib.hid (Dcls.grow D6.out hbB hbB.size); have T7 := Lib.hid (Thrs.grow T6.out hbB hbB.size (show 13 <= bigM by unfold bigM; omega) (show 5 <= 41 by omega)); have D8 := Lib.hid (Dcls.grow hD hbA hbA.size); have T8 := Lib.hid (Thrs.grow hT hbA hbA.size (Nat.le_refl _) (Nat.le_refl _)); have b7 := alloc_keep (below_keep hb7 b6.out) (progO (.slice dao2 q.decls.length dcap2) (.slice tao2 q.threads.length tcap2)); obtain ⟨q0, q1, _, _⟩ := two_cells b7; have hl7 := heap_lt b7;  clear hD hT hb7 hbA hbB b7))
            go_ret
            exact ⟨rfl, B9.out⟩
        · cases b with
          | false =>
            go_wp2_with (first
            | (go_at_call 14; refine (HSame (.slice dao p.decls.length dcap) (.slice tao p.threads.length tcap0) (.slice dao2 q.decls.length dcap2) (.slice tao2 q.threads.length tcap2) (w7.alloc (progO (.slice dao2 q.decls.length dcap2) (.slice tao2 q.threads.length tcap2))) D7.out T7.out D8.out T8.out).mono ?_; rintro e w9 ⟨rfl, hb9⟩; have B9 := Lib.hid (B7.out.trans (hb9.mono B7.out.size));  clear hb9)
            | (go_at_call 12; refine (program_ok (bstr (bkT A false sg.text 0 ts)) q wr hszT (lx_below HL.out B6.out) HQ).mono ?_; rintro e w7 ⟨dv, tv, rfl, hD, hT, hb7⟩; obtain ⟨dao2, dcap2, rfl⟩ := dcls_slice hD; obtain ⟨tao2, tcap2, rfl⟩ := thrs_slice hT; have hbA := (Below.refl w7.heap.size w7).alloc (Nat.le_refl _) (progO (.slice dao2 q.decls.length dcap2) (.slice tao2 q.threads.length tcap2)); have hbB := hb7.trans (hbA.mono hb7.size); have B7 := Lib.hid (B6.out.trans (hbB.mono B6.out.size)); have D7 := Lib.hid (Dcls.grow D6.out hbB hbB.size); have T7 := Lib.hid (Thrs.grow T6.out hbB hbB.size (show 13 <= bigM by unfold bigM; omega) (show 5 <= 41 by omega)); have D8 := Lib.hid (Dcls.grow hD hbA hbA.size); have T8 := Lib.hid (Thrs.grow hT hbA hbA.size (Nat.le_refl _) (Nat.le_refl _)); have b7 := alloc_keep (below_keep hb7 b6.out) (progO (.slice dao2 q.decls.length dcap2) (.slice tao2 q.threads.length tcap2)); obtain ⟨q0, q1, _, _⟩ := two_cells b7; have hl7 := heap_lt b7;  clear hD hT hb7 hbA hbB b7))
            go_ret
            exact ⟨rfl, B9.out⟩
          | true =>
            obtain ⟨_, t, hut, htx⟩ := HBB.out rfl
            obtain rfl : t = tA := Option.some.inj ((hut.symm.trans HUS.out).trans HtA.out)
            have CA : wr.cell? ⟨g, A * 4 + 1, none⟩ = some (.string (bstr t.text)) := HA0.out.2.2.1
            have hAI : (A : Int) < (ts.length : Int) := by omega
            rcases htx with htx | htx
            all_goals
              rw [htx] at CA
              unfold bstr at CA
              go_wp2_with (first
            | (go_at_call 14; refine (HSame (.slice dao p.decls.length dcap) (.slice tao p.threads.length tcap0) (.slice dao2 q.decls.length dcap2) (.slice tao2 q.threads.length tcap2) (w7.alloc (progO (.slice dao2 q.decls.length dcap2) (.slice tao2 q.threads.length tcap2))) D7.out T7.out D8.out T8.out).mono ?_; rintro e w9 ⟨rfl, hb9⟩; have B9 := Lib.hid (B7.out.trans (hb9.mono B7.out.size)); have hk9 := (hB9x.out.trans (hb9.mono hB9x.out.size)); have hc9 := (hk9.cell (p := ⟨g, A * 4 + 1, none⟩) hgw).trans CA; have hg9 : g < w9.heap.size := (by have := hk9.size; omega); clear hb9)
            | (go_at_call 12; refine (program_ok (bstr (bkT A false sg.text 0 ts)) q wr hszT (lx_below HL.out B6.out) HQ).mono ?_; rintro e w7 ⟨dv, tv, rfl, hD, hT, hb7⟩; obtain ⟨dao2, dcap2, rfl⟩ := dcls_slice hD; obtain ⟨tao2, tcap2, rfl⟩ := thrs_slice hT; have hbA := (Below.refl w7.heap.size w7).alloc (Nat.le_refl _) (progO (.slice dao2 q.decls.length dcap2) (.slice tao2 q.threads.length tcap2)); have hbB := hb7.trans (hbA.mono hb7.size); have B7 := Lib.hid (B6.out.trans (hbB.mono B6.out.size)); have D7 := Lib.hid (Dcls.grow D6.out hbB hbB.size); have T7 := Lib.hid (Thrs.grow T6.out hbB hbB.size (show 13 <= bigM by unfold bigM; omega) (show 5 <= 41 by omega)); have D8 := Lib.hid (Dcls.grow hD hbA hbA.size); have T8 := Lib.hid (Thrs.grow hT hbA hbA.size (Nat.le_refl _) (Nat.le_refl _)); have b7 := alloc_keep (below_keep hb7 b6.out) (progO (.slice dao2 q.decls.length dcap2) (.slice tao2 q.threads.length tcap2)); obtain ⟨q0, q1, _, _⟩ := two_cells b7; have hl7 := heap_lt b7; have hB9x := Lib.hid hbB; clear hD hT hb7 hbA hbB b7))
              go_ret
              exact ⟨rfl, B9.out⟩
theorem broken_walk (v0 : Value) (zs0 : List Int) (wh wi : Nat) (w : World) (h0 : IntsAt w .u8 v0 zs0) (z0 : ∀ n ∈ zs0, (Lit.int .u8 n).wf = true) (n0 : zs0.length * 1 <= 140737488351232) (h1 : wh < 65536) (h2 : wi < 256) (hT : Vars w.heap.size w) (hL : Lx.Vars w) :
    Calls Tryz.prog 6 #[v0, .int .u16 (wh : Int), .int .u8 (wi : Int)] w fun e w' => e = .returned (.bool true) /\ Below w.heap.size w w' := by
  by_cases h : wi % 2 = 1
  · exact broken_both v0 zs0 wh wi _ 1 true (.inl ⟨rfl, rfl⟩) w h0 z0 n0 h1 h2 h rfl hT hL
  · exact broken_both v0 zs0 wh wi _ 0 false (.inr ⟨rfl, rfl⟩) w h0 z0 n0 h1 h2 (by omega) rfl hT hL
end Go.Proofs.YtfginegegaokbaaGreatDoor.Pr
