/- The walk of ParsePlaces: on every list of numbers it returns true. Conditions: the table of powers and lex's variables are as they are laid. -/
import Derived.Test.YtfginegegaokbaaGreatDoorHWBack
import Derived.Test.YtfginegegaokbaaGreatDoorHPPlace
import Derived.Maps.OwnSet
namespace Go.Proofs.YtfginegegaokbaaGreatDoor.Pr
open Go.ChangeShapes Go.WideShapes Go.ChangeAt Go.RowKit Go.Maps
set_option linter.unusedVariables false
set_option linter.unusedSimpArgs false

/-! a set of places -/
def bread : Value → Option (DataW Bool × List MemPlace)
  | .bool b => some (.held b, [])
  | _ => none
theorem bread_inv {v : Value} {b : Bool} {ps : List MemPlace} (h : bread v = some (.held b, ps)) : v = .bool b := by
  unfold bread at h
  split at h
  · simp only [Option.some.injEq, Prod.mk.injEq, DataW.held.injEq] at h
    rw [h.1]
  · cases h
theorem lawI : Keyed Tryz.prog 3 := int_keyed Tryz.underlying3
theorem zeroB (w : World) : (zeroValue 4).run Tryz.prog w = .ok (.bool false) w := by kernel_rfl
def ilit (x : Int) : Lit := .int .i64 x
theorem ilit_key {x : Int} (h : (Lit.int .i64 x).wf = true) : keyOf Tryz.prog 3 (.int .i64 x) = some (ilit x) := keyOf_int_mk Tryz.underlying3 h
theorem ilit_is (x : Int) : WideAt.IsKeyLit (ilit x) := by simp [ilit, WideAt.IsKeyLit]
theorem ilit_ne {x y : Int} (h : x ≠ y) : ilit x ≠ ilit y := fun e => h (by unfold ilit at e; injection e)
def SaysB (D : DataW Bool) (L : List Int) : Prop := ∀ x, D.atKey (ilit x) (.held false) = .held (L.contains x)
theorem saysB_nil : SaysB (.map []) [] := fun x => rfl
theorem SaysB.put {D : DataW Bool} {L : List Int} (h : SaysB D L) (hD : IsMap D) (x : Int) : SaysB (D.put (ilit x) (.held true)) (L ++ [x]) := fun y => by
  by_cases e : y = x
  · subst e; rw [atKey_put_same hD (ilit_is _)]; simp
  · rw [atKey_put_other (ilit_ne e), h y]; simp [e]
theorem look_in {w : World} {b n : Nat} {D : DataW Bool} {L : List Int} (h : w.ownsMap Tryz.prog 3 bread b n D) (hs : SaysB D L) {x : Int} (hx : x ∈ L) (hw : (Lit.int .i64 x).wf = true) : (Instr.lookup 65 (.map (some b)) (.int .i64 x) false).run Tryz.prog w = .ok (.bool true) w := by
  obtain ⟨v, ps, hrun, hv⟩ := h.lookup lawI Tryz.underlying65 (zeroB w) (zd := .held false) (zp := []) rfl (ilit_key hw)
  rw [hs x, List.contains_iff_mem.2 hx] at hv
  rw [hrun, bread_inv hv]

/-! what is still to come rises, and is among the places -/
def Rise (T : List Int) (a : Int) (L : List Int) : Prop := (∀ x ∈ L, a < x ∧ x ∈ T) ∧ L.Pairwise (· < ·)
theorem Rise.step {T : List Int} {a x : Int} {L : List Int} (h : Rise T a (x :: L)) : a < x ∧ x ∈ T ∧ Rise T x L := by
  obtain ⟨h1, h2⟩ := h
  have h3 := List.pairwise_cons.1 h2
  exact ⟨(h1 x (by simp)).1, (h1 x (by simp)).2, fun y hy => ⟨h3.1 y hy, (h1 y (by simp [hy])).2⟩, h3.2⟩
theorem drop_here {α : Type} {l : List α} {i : Nat} {x : α} (h : l[i]? = some x) : l.drop i = x :: l.drop (i + 1) := by
  obtain ⟨hi, rfl⟩ := List.getElem?_eq_some_iff.1 h
  exact List.drop_eq_getElem_cons hi
theorem some_at {α : Type} {l : List α} {i : Nat} (h : i < l.length) : ∃ x, l[i]? = some x := ⟨_, List.getElem?_eq_getElem h⟩
theorem i64_small {x : Int} (h0 : 0 ≤ x) (h1 : x ≤ 65536) : (Lit.int .i64 x).wf = true := WalkArith.wf_i64 (by omega)
theorem tok_cells {w w' : World} {g i : Nat} {ts : List Lx.Tok} {t : Lx.Tok} (h : ToksAt w g 0 ts) (ht : ts[i]? = some t) (hg : g < w.heap.size) (hb : Below w.heap.size w w') :
    fitT t ∧ w'.cell? ⟨g, i * 4, none⟩ = some (.int .i64 (t.kind : Int)) ∧ w'.cell? ⟨g, i * 4 + 1, none⟩ = some (.string (bstr t.text)) ∧ w'.cell? ⟨g, i * 4 + 2, none⟩ = some (.int .u64 (t.value : Int)) ∧ w'.cell? ⟨g, i * 4 + 3, none⟩ = some (.int .i64 (t.at_ : Int)) := by
  obtain ⟨hf, c0, c1, c2, c3⟩ := h.2 i t ht
  rw [Nat.zero_add] at c0 c1 c2 c3
  have key : ∀ o, w'.cell? ⟨g, o, none⟩ = w.cell? ⟨g, o, none⟩ := fun o => hb.cell (p := ⟨g, o, none⟩) hg
  exact ⟨hf, (key _).trans c0, (key _).trans c1, (key _).trans c2, (key _).trans c3⟩
theorem dcls_few {lo B : Nat} {w : World} {v : Value} {ds : List Dcl} (h : Dcls lo B w v ds) : ds.length ≤ 4294967296 := by obtain ⟨_, _, _, h, _⟩ := h; exact h
theorem thrs_few {lo B m n : Nat} {w : World} {v : Value} {ts : List (List Stm)} (h : Thrs lo B m n w v ts) : ts.length ≤ 4294967296 := by obtain ⟨_, _, _, h, _⟩ := h; exact h
theorem stms_few {lo B : Nat} {w : World} {R : Value → Stm → Prop} {v : Value} {ss : List Stm} (h : Stms lo B w R v ss) : ss.length ≤ 4294967296 := by obtain ⟨_, _, _, h, _⟩ := h; exact h
theorem dcl_cells {w w' : World} {ao : Option Addr} {n cap i : Nat} {ds : List Dcl} {d : Dcl} (h : Dcls 0 w.heap.size w (.slice ao n cap) ds) (hd : ds[i]? = some d) (hb : Below w.heap.size w w') :
    ∃ g off, ao = some ⟨g, off, none⟩ ∧ g < w.heap.size ∧ w'.cell? ⟨g, off + i * 6, none⟩ = some (.bool d.lock) ∧ w'.cell? ⟨g, off + i * 6 + 1, none⟩ = some (.int .i64 d.label) ∧ w'.cell? ⟨g, off + i * 6 + 2, none⟩ = some (.string d.name) ∧ w'.cell? ⟨g, off + i * 6 + 3, none⟩ = some (.int .i64 d.size) ∧ w'.cell? ⟨g, off + i * 6 + 4, none⟩ = some (.string d.by_) ∧ w'.cell? ⟨g, off + i * 6 + 5, none⟩ = some (.int .i64 d.at_) := by
  obtain ⟨ao', cap', e0, hl, h⟩ := h
  cases e0
  obtain ⟨hf, g, off, rfl, _, hg, _, c0, c1, c2, c3, c4, c5⟩ := h i d hd
  have key : ∀ o, w'.cell? ⟨g, o, none⟩ = w.cell? ⟨g, o, none⟩ := fun o => hb.cell (p := ⟨g, o, none⟩) hg
  exact ⟨g, off, rfl, hg, (key _).trans c0, (key _).trans c1, (key _).trans c2, (key _).trans c3, (key _).trans c4, (key _).trans c5⟩
theorem thr_cell {w w' : World} {ao : Option Addr} {n cap i m k : Nat} {ts : List (List Stm)} {ss : List Stm} (h : Thrs 0 w.heap.size m k w (.slice ao n cap) ts) (hs : ts[i]? = some ss) (hb : Below w.heap.size w w') :
    ∃ g off tao tcap, ao = some ⟨g, off, none⟩ ∧ g < w.heap.size ∧ w'.cell? ⟨g, off + i, none⟩ = some (.slice tao ss.length tcap) ∧ Stms 0 w.heap.size w (fun v' s' => SRep 0 w.heap.size w m k v' s') (.slice tao ss.length tcap) ss := by
  obtain ⟨ao', cap', e0, hl, h⟩ := h
  cases e0
  obtain ⟨g, off, tao, tcap, rfl, _, hg, _, c0, hS⟩ := h i ss hs
  exact ⟨g, off, tao, tcap, rfl, hg, (hb.cell (p := ⟨g, off + i, none⟩) hg).trans c0, hS⟩
theorem stm_cells {w w' : World} {ao : Option Addr} {n cap i m k : Nat} {ss : List Stm} {s : Stm} (h : Stms 0 w.heap.size w (fun v' s' => SRep 0 w.heap.size w m k v' s') (.slice ao n cap) ss) (hs : ss[i]? = some s) (hb : Below w.heap.size w w') :
    ∃ g off eao ecap bao bcap lao lcap, ao = some ⟨g, off, none⟩ ∧ g < w.heap.size ∧ w'.cell? ⟨g, off + i * 7, none⟩ = some (.int .i64 s.kind) ∧ w'.cell? ⟨g, off + i * 7 + 1, none⟩ = some (.string s.name) ∧ w'.cell? ⟨g, off + i * 7 + 2, none⟩ = some (.slice eao s.exprs.length ecap) ∧ w'.cell? ⟨g, off + i * 7 + 3, none⟩ = some (.int .i64 s.count) ∧ w'.cell? ⟨g, off + i * 7 + 4, none⟩ = some (.slice bao s.body.length bcap) ∧ w'.cell? ⟨g, off + i * 7 + 5, none⟩ = some (.slice lao s.els.length lcap) ∧ w'.cell? ⟨g, off + i * 7 + 6, none⟩ = some (.int .i64 s.at_) := by
  obtain ⟨ao', cap', e0, hl, h⟩ := h
  cases e0
  obtain ⟨g, off, c0, c1, c2, c3, c4, c5, c6, rfl, _, hg, _, y0, y1, y2, y3, y4, y5, y6, hR⟩ := h i s hs
  cases k with
  | zero => exact hR.elim
  | succ k =>
    obtain ⟨_, _, _, eao, ecap, bao, bcap, lao, lcap, hv, _⟩ := hR
    simp only [Value.agg.injEq, Array.mk.injEq, List.cons.injEq, and_true] at hv
    obtain ⟨rfl, rfl, rfl, rfl, rfl, rfl, rfl⟩ := hv
    have key : ∀ o, w'.cell? ⟨g, o, none⟩ = w.cell? ⟨g, o, none⟩ := fun o => hb.cell (p := ⟨g, o, none⟩) hg
    exact ⟨g, off, eao, ecap, bao, bcap, lao, lcap, rfl, hg, (key _).trans y0, (key _).trans y1, (key _).trans y2, (key _).trans y3, (key _).trans y4, (key _).trans y5, (key _).trans y6⟩
theorem atsT_bound {ts : List Lx.Tok} (h : ∀ t ∈ ts, t.at_ ≤ 65536) : ∀ x ∈ atsT ts, 0 ≤ x ∧ x ≤ 65536 := fun x hx => by
  obtain ⟨t, ht, rfl⟩ := List.mem_map.1 hx
  have := h t ht
  omega
theorem toksAt_le {w : World} {g : Nat} {ts : List Lx.Tok} (h : ToksAt w g 0 ts) : ∀ t ∈ ts, t.at_ ≤ 65536 := fun t ht => by
  obtain ⟨i, hi⟩ := List.getElem?_of_mem ht
  exact (h.2 i t hi).1.2.2.2
set_option maxHeartbeats 8000000 in
set_option maxRecDepth 100000 in
theorem places_walk (v0 : Value) (zs0 : List Int) (w : World) (h0 : IntsAt w .u8 v0 zs0) (z0 : ∀ n ∈ zs0, (Lit.int .u8 n).wf = true) (n0 : zs0.length * 1 ≤ 140737488351232) (hT : Vars w.heap.size w) (hL : Lx.Vars w) :
    Calls Tryz.prog 9 #[v0] w fun e w' => e = .returned (.bool true) ∧ Below w.heap.size w w' := by
  obtain ⟨m, hm, hm2⟩ : ∃ m, m = min zs0.length 300 ∧ m ≤ zs0.length := ⟨_, rfl, by omega⟩
  obtain ⟨ao, cap, rfl, hlc, hN⟩ := nsAt_of_ints h0 z0 m hm2
  have hmI : min (zs0.length : Int) 300 = (m : Int) := by omega
  have hmc : m ≤ cap := by omega
  obtain ⟨ns, hns⟩ : ∃ ns, ns = (byteL zs0).take m := ⟨_, rfl⟩
  have hnl : ns.length ≤ 300 := by rw [hns]; simp [byteL]; omega
  rw [← hns] at hN
  obtain ⟨p, hp⟩ : ∃ p, p = makeM ns := ⟨_, rfl⟩
  have hlen := made_len 5 ns hnl
  have hne := made_ne ns
  obtain ⟨ts, q, hcut, hq, _, hsub, hpw⟩ := made_places ns (by omega)
  rw [← hp] at hlen hne hcut hq
  have HM := fun (w' : World) (hb : Below w.heap.size w w') => make_any ao zs0.length cap m ns w' (by
    obtain ⟨a, b, c, d, e, f⟩ := hN.on hb.block
    exact ⟨a, b, c, d, e, fun i x hx => by obtain ⟨g, off, h1, h2, h3⟩ := f i x hx; exact ⟨g, off, h1, by have := hb.size; omega, h3⟩⟩) hmI hmc hlc (by omega)
  rw [← hp] at HM
  have H0 := awake_any w hL
  obtain ⟨S, hS⟩ : ∃ S, S = bstr (ptext 13 5 p) := ⟨_, rfl⟩
  have hsz : S.size ≤ maxLen := by rw [hS, bstr_size]; unfold maxLen; omega
  have HQ : Hid (parseP (bys S) = .ok q) := by show _ = _; rw [hS]; exact hq
  have HC : Hid (Lx.cutAll (bys S) = .ok ts) := by show _ = _; rw [hS]; exact hcut
  have HX : ∀ (dv tv : Value) (w' : World), Dcls 0 w'.heap.size w' dv p.decls → Thrs 0 w'.heap.size 13 5 w' tv p.threads → Vars w'.heap.size w' → Calls Tryz.prog 13 #[.agg #[dv, tv]] w' fun e w'' => e = .returned (.string S) ∧ Below w'.heap.size w' w'' := fun dv tv w' a b c => by
    rw [hS]; exact text_any 13 5 p dv tv w' a b c (by omega) hne (by omega)
  have HSub := Lib.hid hsub
  have HPw := Lib.hid hpw
  have HT := Lib.hid hT
  have HL := Lib.hid hL
  clear hlen hne hq hcut hsub hpw hp hN hns hm hT hL hnl hS h0 z0
  have hmm := @run_makeMap Tryz.prog
  go_enter Tryz.func9, Tryz.ntmps9
  go_wp2_with (first
    | (go_at_call 18; refine (cut_toks S ts (w4.alloc (progO (.slice dao' q.decls.length dcap') (.slice tao' q.threads.length tcap'))) hsz (HL.out.grown B4.out HL.out.lt) HC).mono ?_; rintro e w5 ⟨g, tcap, rfl, hTk, hgl, hcc, hb5⟩; have B5 := Lib.hid (B4.out.trans (hb5.mono B4.out.size)); have D5 := Lib.hid (Dcls.grow D4.out hb5 hb5.size); have T5 := Lib.hid (Thrs.grow T4.out hb5 hb5.size (Nat.le_refl _) (Nat.le_refl _)); have b5 := Lib.hid (below_keep hb5 b4.out); clear hb5)
    | (go_at_call 12; refine (program_ok S q w3 hsz (HL.out.grown B3.out HL.out.lt) HQ).mono ?_; rintro e w4 ⟨dv', tv', rfl, hD4, hT4, hb4⟩; obtain ⟨dao', dcap', rfl⟩ := dcls_slice hD4; obtain ⟨tao', tcap', rfl⟩ := thrs_slice hT4; have hbA := (Below.refl w4.heap.size w4).alloc (Nat.le_refl _) (progO (.slice dao' q.decls.length dcap') (.slice tao' q.threads.length tcap')); have B4 := Lib.hid (B3.out.trans ((hb4.trans (hbA.mono hb4.size)).mono B3.out.size)); have D4 := Lib.hid (Dcls.grow hD4 hbA hbA.size); have T4 := Lib.hid (Thrs.grow hT4 hbA hbA.size (Nat.le_refl _) (Nat.le_refl _)); have b4 : Hid ((w4.alloc (progO (.slice dao' q.decls.length dcap') (.slice tao' q.threads.length tcap'))).heap[w4.heap.size]? = some (progO (.slice dao' q.decls.length dcap') (.slice tao' q.threads.length tcap'))) := (by show _ = _; rw [alloc_at, if_pos rfl]); clear hD4 hT4 hb4 hbA)
    | (go_at_call 13; refine (HX (.slice dao p.decls.length dcap) (.slice tao p.threads.length tcap0) w2 D2.out T2.out ((HT.out.on B2.out).mono B2.out.size)).mono ?_; rintro e w3 ⟨rfl, hb3⟩; have B3 := Lib.hid (B2.out.trans (hb3.mono B2.out.size)); clear hb3)
    | (go_at_call 11; refine (HM w1 hb1).mono ?_; rintro e w2 ⟨dv, tv, rfl, hD2, hT2, hb2⟩; obtain ⟨dao, dcap, rfl⟩ := dcls_slice hD2; obtain ⟨tao, tcap0, rfl⟩ := thrs_slice hT2; have B2 := Lib.hid (hb1.trans (hb2.mono hb1.size)); have D2 := Lib.hid (Dcls.grow hD2 (Below.refl _ _) (Nat.le_refl _)); have T2 := Lib.hid (Thrs.grow hT2 (Below.refl _ _) (Nat.le_refl _) (Nat.le_refl _) (Nat.le_refl _)); clear hD2 hT2 hb2)
    | (go_at_call 10; refine H0.mono ?_; rintro e w1 ⟨rfl, hb1⟩))
  have HTK := Lib.hid hTk.out
  have hbd : ∀ x ∈ atsT ts, 0 ≤ x ∧ x ≤ 65536 := atsT_bound (toksAt_le hTk.out)
  have HBD := Lib.hid hbd
  have hl5 := heap_lt b5.out
  have hdl := dcls_few D5.out
  have htl := thrs_few T5.out
  have hcl : ts.length ≤ tcap ∧ tcap ≤ 9223372036854775807 := hcc.out
  obtain ⟨hcl1, hcl2⟩ := hcl
  clear hTk hbd hcc
  have hts : ts.length ≤ 9223372036854775807 := by omega
  go_loopw [42] (fun iv wr => ∃ i : Nat, i ≤ ts.length ∧ iv = .int .i64 i ∧ ∃ D : DataW Bool, wr.ownsMap Tryz.prog 3 bread w5.heap.size i D ∧ IsMap D ∧ SaysB D (atsT (ts.take i)) ∧ Below w5.heap.size w5 wr) (fun iv _ => ts.length - (intOf iv).toNat)
  case atStart => exact ⟨0, Nat.zero_le _, rfl, .map [], World.ownsMap_made _ _ _ _, ⟨[], rfl⟩, saysB_nil, (Below.refl _ _).alloc (Nat.le_refl _) _⟩
  case round =>
    obtain ⟨i, hi, rfl, D, hown, hmap, hsays, hb⟩ := hrel
    by_cases hlt : i < ts.length
    · obtain ⟨t, ht⟩ := some_at hlt
      obtain ⟨hfit, c0, c1, c2, c3⟩ := tok_cells HTK.out ht hgl hb
      have hgr : g < wr.heap.size := by have := hb.size; omega
      have hat := hfit.2.2.2
      have hwf : (Lit.int .i64 (t.at_ : Int)).wf = true := i64_small (by omega) (by omega)
      have hltI : (i : Int) < (ts.length : Int) := by omega
      have HS := Lib.hid hsays
      have HB := Lib.hid hb
      have HD := Lib.hid hmap
      have HH := Lib.hid ht
      have hne5 : ¬ g = wr.heap.size := by omega
      clear hfit hsays hb hmap ht
      go_wp2_with (first | (at_mapUpdate; refine wpList_mapUpdate_own _ rfl _ _ _ 65 rfl 3 4 lawI Tryz.underlying65 _ w5.heap.size i D rfl (hown.alloc _) (by unfold maxLen; omega) _ _ (ilit t.at_) rfl rfl (ilit_key hwf) (.held true) [] rfl ?_; intro w6 hown6 hgrow6) | go_in)
      go_roundw
      case rel =>
        refine ⟨i + 1, by omega, by go_num, _, hown6, ?_, ?_, ?_⟩
        · exact World.ownsMap.isMap hown6
        · have e : atsT (ts.take (i + 1)) = atsT (ts.take i) ++ [(t.at_ : Int)] := by
            rw [List.take_add_one, HH.out]; simp [atsT]
          rw [e]
          exact HS.out.put HD.out _
        · have h1 := (HB.out).alloc HB.out.size (.cells #[.int .i64 (t.kind : Int), .string (bstr t.text), .int .u64 (t.value : Int), .int .i64 (t.at_ : Int)] 48)
          exact h1.grown hgrow6 h1.size (fun j hj => by cases hj; exact Nat.le_refl _)
      case measure => simp [intOf]; omega
    · obtain rfl : i = ts.length := by omega
      rw [List.take_length] at hsays
      have hR0 : Rise (atsT ts) (-1) (atsAll q) := ⟨fun x hx => by
        have hm := HSub.out.subset hx
        have := HBD.out x hm
        exact ⟨by omega, hm⟩, HPw.out⟩
      have HR0 := Lib.hid hR0
      have HS := Lib.hid hsays
      have HB := Lib.hid hb
      obtain ⟨q0, q1, _, _⟩ := two_cells (below_keep hb b5.out)
      have hl5' := heap_lt (below_keep hb b5.out)
      clear hR0 hsays hb hmap HSub HPw hlt hi
      go_wp2
      go_loopw [11, 53] (fun av iv wr' => ∃ k : Nat, k ≤ q.decls.length ∧ iv = .int .i64 k ∧ ∃ a : Int, av = .int .i64 a ∧ -1 ≤ a ∧ a ≤ 65536 ∧ Hid (Rise (atsT ts) a (atsD (q.decls.drop k) ++ atsP q.threads)) ∧ wr'.ownsMap Tryz.prog 3 bread w5.heap.size ts.length D ∧ Hid (Below w5.heap.size w5 wr')) (fun _ iv _ => q.decls.length - (intOf iv).toNat)
      case atStart => exact ⟨0, Nat.zero_le _, rfl, -1, rfl, by omega, by omega, HR0, hown, HB⟩
      case round =>
        obtain ⟨k, hk, rfl, a, rfl, ha0, ha1, hR, hown, hB⟩ := hrel
        by_cases hlt : k < q.decls.length
        · obtain ⟨d, hd⟩ := some_at hlt
          obtain ⟨g2, off, rfl, hg2, c0, c1, c2, c3, c4, c5⟩ := dcl_cells D5.out hd hB.out
          have hg2r : g2 < wr.heap.size := by have := hB.out.size; omega
          have hR' : Rise (atsT ts) a (d.at_ :: (atsD (q.decls.drop (k + 1)) ++ atsP q.threads)) := by
            have := hR.out
            rw [drop_here hd] at this
            exact this
          obtain ⟨hlta, hin, hR2⟩ := hR'.step
          obtain ⟨x0, x1⟩ := HBD.out _ hin
          have hno : ¬ d.at_ ≤ a := by omega
          have hwf : (Lit.int .i64 d.at_).wf = true := i64_small x0 x1
          have hrun := look_in (hown.alloc (.cells #[.bool d.lock, .int .i64 d.label, .string d.name, .int .i64 d.size, .string d.by_, .int .i64 d.at_] 68)) HS.out hin hwf
          have hltI : (k : Int) < (q.decls.length : Int) := by omega
          have HR2 := Lib.hid hR2
          have hne5 : ¬ g2 = wr.heap.size := by omega
          clear hR hR' hR2 hin hd
          go_wp2
          go_roundw
          case rel => exact ⟨k + 1, by omega, by go_num, d.at_, rfl, by omega, by omega, HR2, hown.alloc _, Lib.hid (hB.out.alloc hB.out.size _)⟩
          case measure => simp [intOf]; omega
        · obtain rfl : k = q.decls.length := by omega
          have hR0 : Rise (atsT ts) a (atsP (q.threads.drop 0)) := by
            have := hR.out
            rw [List.drop_length] at this
            exact this
          have HR1 := Lib.hid hR0
          have HB1 := Lib.hid hB.out
          obtain ⟨q2, q3, _, _⟩ := two_cells (below_keep hB.out b5.out)
          have hl6 := heap_lt (below_keep hB.out b5.out)
          clear hR0 hR hB hlt hk HR0 HB q0 q1 hl5'
          go_wp2
          go_loopw [11, 74] (fun av iv wr' => ∃ k : Nat, k ≤ q.threads.length ∧ iv = .int .i64 k ∧ ∃ a : Int, av = .int .i64 a ∧ -1 ≤ a ∧ a ≤ 65536 ∧ Hid (Rise (atsT ts) a (atsP (q.threads.drop k))) ∧ wr'.ownsMap Tryz.prog 3 bread w5.heap.size ts.length D ∧ Hid (Below w5.heap.size w5 wr')) (fun _ iv _ => q.threads.length - (intOf iv).toNat)
          case atStart => exact ⟨0, Nat.zero_le _, rfl, a, rfl, by omega, by omega, HR1, hown, HB1⟩
          case round =>
            obtain ⟨j, hj, rfl, a', rfl, ha0', ha1', hR, hown, hB⟩ := hrel
            by_cases hlt : j < q.threads.length
            · obtain ⟨ss, hss⟩ := some_at hlt
              obtain ⟨g3, off3, sao, scap, rfl, hg3, c0, hS⟩ := thr_cell T5.out hss hB.out
              have hg3r : g3 < wr.heap.size := by have := hB.out.size; omega
              have hltI : (j : Int) < (q.threads.length : Int) := by omega
              have hsl := stms_few hS
              have HST := Lib.hid hS
              have hR0 : Rise (atsT ts) a' (atsS (ss.drop 0) ++ atsP (q.threads.drop (j + 1))) := by
                have := hR.out
                rw [drop_here hss] at this
                exact this
              have HR2 := Lib.hid hR0
              have HB2 := Lib.hid hB.out
              clear hS hR0 hR hB hss
              go_wp2
              go_loopw [11, 80] (fun av iv wr' => ∃ i : Nat, i ≤ ss.length ∧ iv = .int .i64 i ∧ ∃ a : Int, av = .int .i64 a ∧ -1 ≤ a ∧ a ≤ 65536 ∧ Hid (Rise (atsT ts) a (atsS (ss.drop i) ++ atsP (q.threads.drop (j + 1)))) ∧ wr'.ownsMap Tryz.prog 3 bread w5.heap.size ts.length D ∧ Hid (Below w5.heap.size w5 wr')) (fun _ iv _ => ss.length - (intOf iv).toNat)
              case atStart => exact ⟨0, Nat.zero_le _, rfl, a', rfl, by omega, by omega, HR2, hown, HB2⟩
              case round =>
                obtain ⟨i, hi, rfl, b, rfl, hb0, hb1', hR, hown, hB⟩ := hrel
                by_cases hlt2 : i < ss.length
                · obtain ⟨s, hs⟩ := some_at hlt2
                  obtain ⟨g4, off4, eao, ecap, bao, bcap, lao, lcap, rfl, hg4, y0, y1, y2, y3, y4, y5, y6⟩ := stm_cells HST.out hs hB.out
                  have hg4r : g4 < wr.heap.size := by have := hB.out.size; omega
                  have hR' : Rise (atsT ts) b (s.at_ :: (atsS (ss.drop (i + 1)) ++ atsP (q.threads.drop (j + 1)))) := by
                    have := hR.out
                    rw [drop_here hs] at this
                    exact this
                  obtain ⟨hlta, hin, hR2⟩ := hR'.step
                  obtain ⟨x0, x1⟩ := HBD.out _ hin
                  have hno : ¬ s.at_ ≤ b := by omega
                  have hwf : (Lit.int .i64 s.at_).wf = true := i64_small x0 x1
                  have hrun := look_in (hown.alloc (.cells #[.int .i64 s.kind, .string s.name, .slice eao s.exprs.length ecap, .int .i64 s.count, .slice bao s.body.length bcap, .slice lao s.els.length lcap, .int .i64 s.at_] 60)) HS.out hin hwf
                  have hltI2 : (i : Int) < (ss.length : Int) := by omega
                  have HR3 := Lib.hid hR2
                  have hne6 : ¬ g4 = wr.heap.size := by omega
                  clear hR hR' hR2 hin hs
                  go_wp2
                  go_roundw
                  case rel => exact ⟨i + 1, by omega, by go_num, s.at_, rfl, by omega, by omega, HR3, hown.alloc _, Lib.hid (hB.out.alloc hB.out.size _)⟩
                  case measure => simp [intOf]; omega
                · obtain rfl : i = ss.length := by omega
                  have hR0 : Rise (atsT ts) b (atsP (q.threads.drop (j + 1))) := by
                    have := hR.out
                    rw [List.drop_length] at this
                    exact this
                  have HR3 := Lib.hid hR0
                  clear hR hR0
                  go_wp2
                  go_roundw
                  case rel => exact ⟨j + 1, by omega, by go_num, b, rfl, by omega, by omega, HR3, hown, hB⟩
                  case measure => simp [intOf]; omega
            · have hB' := B5.out.trans (hB.out.mono B5.out.size)
              have HBF := Lib.hid hB'
              clear hB' hR hB
              go_wp2
              go_ret
              exact ⟨rfl, HBF.out⟩
end Go.Proofs.YtfginegegaokbaaGreatDoor.Pr
