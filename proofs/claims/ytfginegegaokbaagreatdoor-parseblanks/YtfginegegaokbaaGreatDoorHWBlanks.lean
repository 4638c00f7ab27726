/- The walk of ParseBlanks: on every list of numbers and every number it returns true. Conditions: the table of powers and lex's variables are as they are laid. -/
import Derived.Test.YtfginegegaokbaaGreatDoorHWBack
import Derived.Test.YtfginegegaokbaaGreatDoorHPBlank
import Derived.Test.YtfginegegaokbaaGreatDoorHWCells
import Derived.Deep.QuietTactic
import Derived.BigQuiet
namespace Go.Proofs.YtfginegegaokbaaGreatDoor.Pr
open Go.ChangeShapes Go.WideShapes Go.ChangeAt Go.RowKit
set_option linter.unusedVariables false
set_option linter.unusedSimpArgs false

theorem bys_cat2 (a b : ByteArray) : bys (a ++ b) = bys a ++ bys b := by unfold bys; simp [ByteArray.data_append]
def tkTxt (k : Nat) : List Lx.Tok → List UInt8
  | [] => []
  | t :: ts => blankG k ++ t.text ++ tkTxt (k + 1) ts
theorem tkTxt_snoc : ∀ (ts : List Lx.Tok) (k : Nat) (t : Lx.Tok), tkTxt k (ts ++ [t]) = tkTxt k ts ++ (blankG (k + ts.length) ++ t.text)
  | [], k, t => by simp [tkTxt]
  | x :: ts, k, t => by
    rw [List.cons_append, tkTxt, tkTxt, tkTxt_snoc ts (k + 1) t, List.length_cons, show k + 1 + ts.length = k + (ts.length + 1) by omega]
    simp
theorem tkTxt_all : ∀ (us : List Lx.Tok) (k e : Nat), tkTxt k (us ++ [endT e]) = flat (withB k (us.map sgOf))
  | [], k, e => by simp [tkTxt, withB, flat_g, flat_nil, endT]
  | t :: us, k, e => by
    rw [List.cons_append, tkTxt, tkTxt_all us (k + 1) e, List.map_cons, withB, flat_g, flat_s]
    simp [sgOf]
theorem tkTxt_le (ts : List Lx.Tok) (k i : Nat) : (tkTxt k (ts.take i)).length ≤ (tkTxt k ts).length := by
  induction ts generalizing k i with
  | nil => simp
  | cons t ts ih =>
    cases i with
    | zero => simp [tkTxt]
    | succ i =>
      have := ih (k + 1) i
      simp only [List.take_succ_cons, tkTxt, List.length_append]; omega
theorem tkTxt_step {ts : List Lx.Tok} {i : Nat} {t : Lx.Tok} (h : ts[i]? = some t) (k : Nat) : tkTxt k (ts.take (i + 1)) = tkTxt k (ts.take i) ++ (blankG (k + i) ++ t.text) := by
  have hi : i < ts.length := by
    rcases Nat.lt_or_ge i ts.length with h' | h'
    · exact h'
    · rw [List.getElem?_eq_none h'] at h; cases h
  rw [List.take_add_one, h]
  show tkTxt k (ts.take i ++ [t]) = _
  rw [tkTxt_snoc, List.length_take, Nat.min_eq_left (by omega)]
theorem blankG_mod (a b : Nat) (h : a % 4 = b % 4) : blankG a = blankG b := by unfold blankG; rw [h]
@[reducible] def gapO : Obj := .cells #[.string ⟨#[32]⟩, .string ⟨#[10]⟩, .string ⟨#[9, 32, 13]⟩, .string ⟨#[32, 35, 32, 120, 32, 59, 32, 123, 10]⟩] 9
theorem gap_cell {w : World} {b j k : Nat} (h : w.heap[b]? = some gapO) (hj : j = k % 4) : w.cell? ⟨b, j, none⟩ = some (.string (bstr (blankG k))) := by
  rw [Lib.cell_of_heap h]
  unfold blankG
  have : k % 4 = 0 ∨ k % 4 = 1 ∨ k % 4 = 2 ∨ k % 4 = 3 := by omega
  rcases this with e | e | e | e <;> (rw [e] at hj; subst hj; simp [e]; rfl)
theorem made_gaps (ns : List UInt8) (h : ns.length ≤ 300) (k : Nat) : ∃ ts q q', Lx.cutAll (ptext 13 5 (makeM ns)) = .ok ts ∧ parseP (ptext 13 5 (makeM ns)) = .ok q ∧ eqP 13 5 q (makeM ns) ∧ (tkTxt k ts).length ≤ 65536 ∧ parseP (tkTxt k ts) = .ok q' ∧ eqP 13 5 q' (makeM ns) := by
  have hg := made_gP ns
  obtain ⟨q, hq, heq⟩ := made_back ns h
  have hf := pits_flat 13 5 _ hg
  have hc := cut_items _ (pits_ok 13 5 _ hg) (by rw [hf]; have := made_len 5 ns h; omega)
  rw [hf] at hc
  obtain ⟨hl, q', hq', heq'⟩ := made_blanks ns h k
  have e : tkTxt k (toksAt 0 (pits 13 5 (makeM ns)) ++ [endT (ptext 13 5 (makeM ns)).length]) = flat (withB k (sgs (pits 13 5 (makeM ns)))) := by rw [tkTxt_all, toksAt_sgs]
  exact ⟨_, q, q', hc, hq, heq, by rw [e]; exact hl, by rw [e]; exact hq', heq'⟩
theorem listR_sym {α : Type} {R : α → α → Prop} (h : ∀ x y, R x y → R y x) {a b : List α} (hl : eqL R a b) : eqL R b a := ⟨hl.1.symm, fun i x y hx hy => h _ _ (hl.2 i y x hy hx)⟩
theorem listR_trans {α : Type} {R : α → α → Prop} (h : ∀ x y z, R x y → R y z → R x z) {a b c : List α} (h1 : eqL R a b) (h2 : eqL R b c) : eqL R a c := ⟨h1.1.trans h2.1, fun i x z hx hz => by
  have hi : i < b.length := by
    have := (List.getElem?_eq_some_iff.1 hx).1
    rw [← h1.1]; exact this
  exact h _ _ _ (h1.2 i x b[i] hx (List.getElem?_eq_getElem hi)) (h2.2 i b[i] z (List.getElem?_eq_getElem hi) hz)⟩
theorem eqT_sym : ∀ (n : Nat) (s t : Tree), eqT n s t → eqT n t s
  | 0, _, _, h => h.elim
  | n + 1, s, t, ⟨h1, h2, h3, h4, h5, h6⟩ => ⟨h1.symm, h2.symm, h3.symm, h4.symm, h5.symm, fun i x y hx hy => eqT_sym n _ _ (h6 i y x hy hx)⟩
theorem eqT_trans : ∀ (n : Nat) (s t u : Tree), eqT n s t → eqT n t u → eqT n s u
  | 0, _, _, _, h, _ => h.elim
  | n + 1, s, t, u, ⟨h1, h2, h3, h4, h5, h6⟩, ⟨k1, k2, k3, k4, k5, k6⟩ =>
    have := listR_trans (R := eqT n) (eqT_trans n) (a := s.kids) (b := t.kids) (c := u.kids) ⟨h5, h6⟩ ⟨k5, k6⟩
    ⟨h1.trans k1, h2.trans k2, h3.trans k3, h4.trans k4, this.1, this.2⟩
theorem eqS_sym (m : Nat) : ∀ (n : Nat) (s t : Stm), eqS m n s t → eqS m n t s
  | 0, _, _, h => h.elim
  | n + 1, s, t, ⟨h1, h2, h3, h4, h5, h6⟩ => ⟨h1.symm, h2.symm, h3.symm, listR_sym (eqT_sym m) h4, listR_sym (eqS_sym m n) h5, listR_sym (eqS_sym m n) h6⟩
theorem eqS_trans (m : Nat) : ∀ (n : Nat) (s t u : Stm), eqS m n s t → eqS m n t u → eqS m n s u
  | 0, _, _, _, h, _ => h.elim
  | n + 1, s, t, u, ⟨h1, h2, h3, h4, h5, h6⟩, ⟨k1, k2, k3, k4, k5, k6⟩ => ⟨h1.trans k1, h2.trans k2, h3.trans k3, listR_trans (eqT_trans m) h4 k4, listR_trans (eqS_trans m n) h5 k5, listR_trans (eqS_trans m n) h6 k6⟩
theorem eqP_sym {m n : Nat} {p q : Prg} (h : eqP m n p q) : eqP m n q p := ⟨listR_sym (fun x y ⟨a, b, c, d, e⟩ => ⟨a.symm, b.symm, c.symm, d.symm, e.symm⟩) h.1, listR_sym (fun x y h => listR_sym (eqS_sym m n) h) h.2⟩
theorem eqP_trans {m n : Nat} {p q r : Prg} (h : eqP m n p q) (k : eqP m n q r) : eqP m n p r := ⟨listR_trans (R := eqD) (fun x y z ⟨a, b, c, d, e⟩ ⟨a', b', c', d', e'⟩ => ⟨a.trans a', b.trans b', c.trans c', d.trans d', e.trans e'⟩) h.1 k.1, listR_trans (R := eqL (eqS m n)) (fun x y z h k => listR_trans (eqS_trans m n) h k) h.2 k.2⟩
set_option maxHeartbeats 4000000 in
set_option maxRecDepth 100000 in
theorem blanks_walk (v0 : Value) (zs0 : List Int) (hw : Nat) (w : World) (h0 : IntsAt w .u8 v0 zs0) (z0 : ∀ n ∈ zs0, (Lit.int .u8 n).wf = true) (n0 : zs0.length * 1 ≤ 140737488351232) (h1 : hw < 256) (hT : Vars w.heap.size w) (hL : Lx.Vars w) :
    Calls Tryz.prog 5 #[v0, .int .u8 (hw : Int)] w fun e w' => e = .returned (.bool true) ∧ Below w.heap.size w w' := by
  obtain ⟨m, hm, hm2⟩ : ∃ m, m = min zs0.length 300 ∧ m ≤ zs0.length := ⟨_, rfl, by omega⟩
  obtain ⟨ao, cap, rfl, hlc, hN⟩ := nsAt_of_ints h0 z0 m hm2
  have hmI : min (zs0.length : Int) 300 = (m : Int) := by omega
  have hmc : m ≤ cap := by omega
  obtain ⟨ns, hns⟩ : ∃ ns, ns = (byteL zs0).take m := ⟨_, rfl⟩
  have hnl : ns.length ≤ 300 := by rw [hns]; simp [byteL]; omega
  rw [← hns] at hN
  obtain ⟨p, hp⟩ : ∃ p, p = makeM ns := ⟨_, rfl⟩
  have hlen := made_len 5 ns hnl
  have hne := made_ne ns
  obtain ⟨ts, q, q', hcut, hq, heq, hgl, hq', heq'⟩ := made_gaps ns hnl hw
  rw [← hp] at hlen hne hcut hq heq heq'
  have hsame := peqP_of (m := bigM) (j := 41) (show 13 ≤ bigM by unfold bigM; omega) (by omega) (eqP_trans heq' (eqP_sym heq))
  have HM := fun (w' : World) (hb : Below w.heap.size w w') => make_any ao zs0.length cap m ns w' (by
    obtain ⟨a, b, c, d, e, f⟩ := hN.on hb.block
    exact ⟨a, b, c, d, e, fun i x hx => by obtain ⟨g, off, h1, h2, h3⟩ := f i x hx; exact ⟨g, off, h1, by have := hb.size; omega, h3⟩⟩) hmI hmc hlc (by omega)
  rw [← hp] at HM
  have H0 := awake_any w hL
  obtain ⟨S, hS⟩ : ∃ S, S = bstr (ptext 13 5 p) := ⟨_, rfl⟩
  have hsz : S.size ≤ maxLen := by rw [hS, bstr_size]; unfold maxLen; omega
  have HQ : Hid (parseP (bys S) = .ok q) := by show _ = _; rw [hS]; exact hq
  have HC : Hid (Lx.cutAll (bys S) = .ok ts) := by show _ = _; rw [hS]; exact hcut
  have HQ' : Hid (parseP (bys (bstr (tkTxt hw ts))) = .ok q') := hq'
  have hsz' : (bstr (tkTxt hw ts)).size ≤ maxLen := by rw [bstr_size]; unfold maxLen; omega
  have HX : ∀ (dv tv : Value) (w' : World), Dcls 0 w'.heap.size w' dv p.decls → Thrs 0 w'.heap.size 13 5 w' tv p.threads → Vars w'.heap.size w' → Calls Tryz.prog 13 #[.agg #[dv, tv]] w' fun e w'' => e = .returned (.string S) ∧ Below w'.heap.size w' w'' := fun dv tv w' a b c => by
    rw [hS]; exact text_any 13 5 p dv tv w' a b c (by omega) hne (by omega)
  have HSame := Lib.hid hsame
  have HT := Lib.hid hT
  have HL := Lib.hid hL
  have HGL := Lib.hid hgl
  clear hlen hne hq hq' hcut heq heq' hsame hp hN hns hm hT hL hnl hS h0 z0 hgl
  go_enter Tryz.func5, Tryz.ntmps5
  go_wp2_with (first
    | (go_at_call 18; refine (cut_toks S ts w3 hsz (HL.out.grown B3.out HL.out.lt) HC).mono ?_; rintro e w5 ⟨g, tcap, rfl, hTk, hgl, hcc, hb5⟩; have B5 := Lib.hid (B3.out.trans (hb5.mono B3.out.size)); clear hb5)
    | (go_at_call 13; refine (HX (.slice dao p.decls.length dcap) (.slice tao p.threads.length tcap0) w2 D2.out T2.out ((HT.out.on B2.out).mono B2.out.size)).mono ?_; rintro e w3 ⟨rfl, hb3⟩; have B3 := Lib.hid (B2.out.trans (hb3.mono B2.out.size)); clear hb3)
    | (go_at_call 11; refine (HM w1 hb1).mono ?_; rintro e w2 ⟨dv, tv, rfl, hD2, hT2, hb2⟩; obtain ⟨dao, dcap, rfl⟩ := dcls_slice hD2; obtain ⟨tao, tcap0, rfl⟩ := thrs_slice hT2; have B2 := Lib.hid (hb1.trans (hb2.mono hb1.size)); have D2 := Lib.hid (Dcls.grow hD2 (Below.refl _ _) (Nat.le_refl _)); have T2 := Lib.hid (Thrs.grow hT2 (Below.refl _ _) (Nat.le_refl _) (Nat.le_refl _) (Nat.le_refl _)); clear hD2 hT2 hb2)
    | (go_at_call 10; refine H0.mono ?_; rintro e w1 ⟨rfl, hb1⟩))
  have HTK := Lib.hid hTk.out
  have hcl : ts.length ≤ tcap ∧ tcap ≤ 9223372036854775807 := hcc.out
  obtain ⟨hcl1, hcl2⟩ := hcl
  have htl : ts.length ≤ 65537 := (Lx.cutAll_len HC.out).1
  obtain ⟨W6, hW6⟩ : ∃ W6, W6 = w5.alloc gapO := ⟨_, rfl⟩
  have hG6 : W6.heap[w5.heap.size]? = some gapO := by rw [hW6, alloc_at, if_pos rfl]
  have hz6 : W6.heap.size = w5.heap.size + 1 := by rw [hW6, alloc_size]
  have hb56 : Below w5.heap.size w5 W6 := by rw [hW6]; exact (Below.refl _ _).alloc (Nat.le_refl _) _
  rw [← hW6]
  have HG6 := Lib.hid hG6
  have HB56 := Lib.hid hb56
  have hz6' := Lib.hid hz6
  clear hTk hcc hW6 hG6 hb56 hz6
  go_loopw [9, 29] (fun sv iv wr => ∃ i : Nat, i ≤ ts.length ∧ iv = .int .i64 i ∧ sv = .string (bstr (tkTxt hw (ts.take i))) ∧ Hid (Below W6.heap.size W6 wr)) (fun _ iv _ => ts.length - (intOf iv).toNat)
  case atStart => exact ⟨0, Nat.zero_le _, rfl, rfl, Lib.hid (Below.refl _ _)⟩
  case round =>
    obtain ⟨i, hi, rfl, rfl, hB⟩ := hrel
    by_cases hlt : i < ts.length
    · obtain ⟨t, ht⟩ := some_at hlt
      have hb5r : Below w5.heap.size w5 wr := HB56.out.trans (hB.out.mono HB56.out.size)
      obtain ⟨hfit, c0, c1, c2, c3⟩ := tok_cells HTK.out ht hgl hb5r
      have hgr : g < wr.heap.size := by have := hb5r.size; omega
      have hgs : w5.heap.size < wr.heap.size := by have := hB.out.size; have := hz6'.out; omega
      have hltI : (i : Int) < (ts.length : Int) := by omega
      obtain ⟨j, hj⟩ : ∃ j, j = (hw + i) % 4 := ⟨_, rfl⟩
      have cG0 : wr.cell? ⟨w5.heap.size, j, none⟩ = some (.string (bstr (blankG (hw + i)))) := gap_cell ((hB.out.block w5.heap.size (by have := hz6'.out; omega)).trans HG6.out) hj
      have zs : (bstr (tkTxt hw (ts.take i))).size ≤ 65536 := by
        rw [bstr_size]
        have := tkTxt_le ts hw i
        have := HGL.out
        omega
      have zb : (bstr (blankG (hw + i))).size ≤ 9 := by rw [bstr_size]; exact blank_len _
      have zt : (bstr t.text).size ≤ 65536 := by rw [bstr_size]; exact hfit.2.1
      have hj4 : j < 4 := by omega
      have hrem : Int.tmod ((i : Int) + (hw : Int)) 4 = (j : Int) := by rw [Int.tmod_eq_emod_of_nonneg (by omega)]; omega
      have hwr : IntKind.i64.wrap ((i : Int) + (hw : Int)) = (i : Int) + (hw : Int) := by rw [IntKind.wrap_i64]; omega
      have HH := Lib.hid ht
      have hne5 : ¬ g = wr.heap.size := by omega
      have hne6 : ¬ w5.heap.size = wr.heap.size := by omega
      clear hfit hb5r ht hj
      go_wp2_with fail
      go_quiet (fail)
      go_wp2
      go_roundw
      case rel =>
        refine ⟨i + 1, by omega, by go_num, ?_, Lib.hid ?_⟩
        · rw [tkTxt_step HH.out]
          congr 1
          apply bys_inj
          simp only [bys_cat2, bys_bstr, List.append_assoc]
        · have h1 := hB.out.alloc hB.out.size (.cells #[.int .i64 (t.kind : Int), .string (bstr t.text), .int .u64 (t.value : Int), .int .i64 (t.at_ : Int)] 48)
          exact ⟨h1.os, h1.tape, h1.output, h1.size, h1.block⟩
      case measure => simp [intOf]; omega
    · obtain rfl : i = ts.length := by omega
      rw [List.take_length]
      have B6 := Lib.hid ((B5.out.trans (HB56.out.mono B5.out.size)).trans (hB.out.mono (B5.out.trans (HB56.out.mono B5.out.size)).size))
      clear hlt hi hB
      go_wp2_with (first
        | (go_at_call 14; refine (same_any bigM 41 q q' (.slice dao1 q.decls.length dcap1) (.slice tao1 q.threads.length tcap1) (.slice dao2 q'.decls.length dcap2) (.slice tao2 q'.threads.length tcap2) (w8.alloc (progO (.slice dao2 q'.decls.length dcap2) (.slice tao2 q'.threads.length tcap2))) D8.out T8.out D9.out T9.out).mono ?_; rintro e w9 ⟨rfl, hb9⟩; have B9 := Lib.hid (B8.out.trans (hb9.mono B8.out.size)); clear hb9)
        | (go_at_call 12; refine (program_ok (bstr (tkTxt hw ts)) q' (w7.alloc (progO (.slice dao1 q.decls.length dcap1) (.slice tao1 q.threads.length tcap1))) hsz' (HL.out.grown B7.out HL.out.lt) HQ').mono ?_; rintro e w8 ⟨dv, tv, rfl, hD, hT, hb⟩; obtain ⟨dao2, dcap2, rfl⟩ := dcls_slice hD; obtain ⟨tao2, tcap2, rfl⟩ := thrs_slice hT; have hbA := (Below.refl w8.heap.size w8).alloc (Nat.le_refl _) (progO (.slice dao2 q'.decls.length dcap2) (.slice tao2 q'.threads.length tcap2)); have hbB := hb.trans (hbA.mono hb.size); have B8 := Lib.hid (B7.out.trans (hbB.mono B7.out.size)); have D8 := Lib.hid (Dcls.grow D7.out hbB hbB.size); have T8 := Lib.hid (Thrs.grow T7.out hbB hbB.size (Nat.le_refl _) (Nat.le_refl _)); have D9 := Lib.hid (Dcls.grow hD hbA hbA.size); have T9 := Lib.hid (Thrs.grow hT hbA hbA.size (Nat.le_refl _) (Nat.le_refl _)); have b8 := alloc_keep (below_keep hb b7.out) (progO (.slice dao2 q'.decls.length dcap2) (.slice tao2 q'.threads.length tcap2)); obtain ⟨q0, q1, _, _⟩ := two_cells b8; have hl8 := heap_lt b8; clear hD hT hb hbA hbB b8)
        | (go_at_call 12; refine (program_ok S q wr hsz (HL.out.grown B6.out HL.out.lt) HQ).mono ?_; rintro e w7 ⟨dv, tv, rfl, hD, hT, hb⟩; obtain ⟨dao1, dcap1, rfl⟩ := dcls_slice hD; obtain ⟨tao1, tcap1, rfl⟩ := thrs_slice hT; have hbA := (Below.refl w7.heap.size w7).alloc (Nat.le_refl _) (progO (.slice dao1 q.decls.length dcap1) (.slice tao1 q.threads.length tcap1)); have B7 := Lib.hid (B6.out.trans ((hb.trans (hbA.mono hb.size)).mono B6.out.size)); have D7 := Lib.hid (Dcls.grow hD hbA hbA.size); have T7 := Lib.hid (Thrs.grow hT hbA hbA.size (Nat.le_refl _) (Nat.le_refl _)); have b7 : Hid ((w7.alloc (progO (.slice dao1 q.decls.length dcap1) (.slice tao1 q.threads.length tcap1))).heap[w7.heap.size]? = some (progO (.slice dao1 q.decls.length dcap1) (.slice tao1 q.threads.length tcap1))) := (by show _ = _; rw [alloc_at, if_pos rfl]); clear hD hT hb hbA))
      rw [HSame.out]
      go_ret
      exact ⟨rfl, B9.out⟩
end Go.Proofs.YtfginegegaokbaaGreatDoor.Pr
