/- What the reader's decls does. Conditions: as in PRead. -/
import Derived.Test.YtfginegegaokbaaGreatDoorPDecl2
namespace Go.Proofs.YtfginegegaokbaaGreatDoor.Pr
open Go.ChangeShapes Go.WideShapes Go.ChangeAt Go.RowKit
open Lx (Tok)
set_option linter.unusedVariables false
set_option linter.unusedSimpArgs false

/-- No token is long. -/
def tfit (r : Rd) : Prop := ∀ t ∈ r.ts, t.text.length ≤ 65536
theorem tfit_next {r : Rd} (h : tfit r) : tfit r.next := fun t ht => h t (by
  unfold Rd.next at ht
  simp only at ht
  split at ht
  · exact List.mem_of_mem_drop ht
  · exact ht)
theorem tfit_fail {r : Rd} (n : Nat) (h : tfit r) : tfit (r.fail n) := fun t ht => h t (List.mem_of_mem_drop ht)
theorem tfit_want {r : Rd} (s : List UInt8) (h : tfit r) : tfit (r.want s) := by unfold Rd.want; split; exact tfit_next h; exact tfit_fail 2 h
theorem tfit_name {r : Rd} (h : tfit r) : tfit r.name.2 := by unfold Rd.name; split; exact tfit_next h; exact tfit_fail 2 h
theorem tfit_number {r : Rd} (m : Nat) (h : tfit r) : tfit (r.number m).2 := by
  unfold Rd.number
  split
  · split; exact tfit_fail 6 h; exact tfit_next h
  · exact tfit_fail 2 h
def dsmall (d : Dcl) : Prop := 0 ≤ d.size ∧ d.size ≤ 64 ∧ d.name.size ≤ 65536 ∧ d.by_.size ≤ 65536
theorem dsmall.fit {d : Dcl} (h : dsmall d) : dfit d := by obtain ⟨h1, h2, h3, h4⟩ := h; exact ⟨by omega, by omega, by omega, by omega⟩
theorem bstr_len (l : List UInt8) : (bstr l).size = l.length := by simp [bstr, ByteArray.size]
theorem cells_small (d : Dcl) (r : Rd) (h : tfit r) (hd : d.by_.size ≤ 65536) : dsmall (cellsP d r).1 := by
  have h1 := name_fit h
  unfold cellsP
  simp only
  cases hi : r.name.2.is [91] with
  | true =>
    simp only [if_true]
    have hn := number_le 64 r.name.2.next
    split
    · exact ⟨by show (0 : Int) ≤ (_ : Nat); omega, by show ((_ : Nat) : Int) ≤ 64; omega, by show (bstr _).size ≤ _; rw [bstr_len]; exact h1, by show (bstr _).size ≤ _; rw [bstr_len]; exact name_fit (tfit_next (tfit_want _ (tfit_number _ (tfit_next (tfit_name h)))))⟩
    · exact ⟨by show (0 : Int) ≤ (_ : Nat); omega, by show ((_ : Nat) : Int) ≤ 64; omega, by show (bstr _).size ≤ _; rw [bstr_len]; exact h1, hd⟩
  | false =>
    simp only [Bool.false_eq_true, if_false]
    split
    · exact ⟨by simp, by simp, by show (bstr _).size ≤ _; rw [bstr_len]; exact h1, by show (bstr _).size ≤ _; rw [bstr_len]; exact name_fit (tfit_next (tfit_name h))⟩
    · exact ⟨by simp, by simp, by show (bstr _).size ≤ _; rw [bstr_len]; exact h1, hd⟩
theorem decl_small (r : Rd) (h : tfit r) : dsmall (declP r).1 := by
  unfold declP
  simp only
  split
  · exact ⟨by simp, by simp, by show (bstr _).size ≤ _; rw [bstr_len]; exact name_fit (tfit_next h), by simp [ByteArray.size]⟩
  split
  · exact cells_small _ _ (tfit_next h) (by simp [ByteArray.size])
  split
  · exact cells_small _ _ (tfit_next h) (by simp [ByteArray.size])
  · exact ⟨by simp, by simp, by simp [ByteArray.size], by simp [ByteArray.size]⟩
/-- A declaration more. -/
theorem append_d1 {ops : Array Oper} {rest : List Oper} {o : Oper} {act : Act} {Q : Exit → Act → World → Prop} (W : World) (d : Dcl) (hgd : o.guard = none) (s x : Operand)
    (ho : o.op = .call { callee := .builtin .append, args := #[s, x], argTypes := #[24, 24] }) (lo : Nat) (v : Value) (ds : List Dcl) (hs : act.eval s = v) (hx : act.eval x = .slice (some ⟨W.heap.size, 0, none⟩) 1 1)
    (hR : DlRow lo W v ds) (hlo : lo ≤ W.heap.size) (hlen : ds.length ≤ 1000)
    (h : ∀ g cap w', DlRow lo w' (.slice (some ⟨g, 0, none⟩) (ds.length + 1) cap) (ds ++ [d]) → (W.alloc (.cells #[.bool d.lock, .int .i64 d.label, .string d.name, .int .i64 d.size, .string d.by_, .int .i64 d.at_] 68)).grownBy w' v.ownBlock →
      wpList Tryz.prog ops Q rest (act.put o.dst (.slice (some ⟨g, 0, none⟩) (ds.length + 1) cap)) w') :
    wpList Tryz.prog ops Q (o :: rest) act (W.alloc (.cells #[.bool d.lock, .int .i64 d.label, .string d.name, .int .i64 d.size, .string d.by_, .int .i64 d.at_] 68)) := by
  obtain ⟨i0, hi, hz0, hz1, hz2⟩ := info_parts infoDecl
  refine wpList_append_lies _ hgd s x 24 ho lo 68 i0 _ 6 64 Tryz.underlying24 hi hz0 hz1 hz2 rfl (by decide) v ds.length _ hs (own_same hR (TSame.alloc _ _ _)) ⟨W.heap.size, 0, none⟩ 1 1 (([d].map dcells).flatten) hx (by simp [dcells]) (fun j u hu => World.news_of_block (heap_alloc_new W _) j u (by simpa [dcells] using hu)) (by simp [dcells, Value.oneCell']) (by omega) (by unfold maxLen; omega) (by omega) (by rw [alloc_size]; omega) _ rfl ?_
  intro g cap w' hown hgrow hat hlt
  refine h g cap w' ?_ hgrow
  show w'.ownsRow lo 68 6 _ _ _
  rw [List.map_append, List.flatten_append, List.length_append]
  exact hown
def mlen (m : Nat) : Value → Nat
  | .slice _ n _ => m - n
  | _ => 0
theorem dl_nil (lo : Nat) (w : World) : DlRow lo w (.slice none 0 0) [] := World.ownsRow_nil _ _ _ _
theorem dl_slice {lo : Nat} {w : World} {v : Value} {ds : List Dcl} (h : DlRow lo w v ds) : ∃ ao cap, v = .slice ao ds.length cap := by
  rcases h.2 with ⟨rfl, h0⟩ | ⟨g, cap, cur, rfl, _⟩
  · exact ⟨none, 0, by rw [h0]⟩
  · exact ⟨_, cap, rfl⟩
theorem below_tsame {w w' : World} (h : Below w.heap.size w w') (t : TypeId) : TSame t w w' := fun k cs fr hk => (h.block k (heap_lt hk)).trans hk
theorem below_grown {w w' : World} (h : Below w.heap.size w w') (x : Option Nat) : w.grownBy w' x := ⟨h.os, h.tape, h.output, h.size, fun k hk _ => h.block k hk⟩
set_option maxHeartbeats 4000000 in
set_option maxRecDepth 100000 in
/-- reader.decls -/
theorem decls_any (B br : Nat) (r : Rd) (w : World) (h : RdAt B br r w) :
    Calls Tryz.prog 25 #[.pointer (some ⟨br, 0, none⟩)] w fun e w' => ∃ v, e = .returned v ∧ Dcls w.heap.size w'.heap.size w' v (declsP r).1 ∧ RdAt B br (declsP r).2 w' ∧ w.grownBy w' (some br) := by
  obtain ⟨fin, hfin⟩ : ∃ x, x = declsP r := ⟨_, rfl⟩
  rw [← hfin]
  have HF : Hid (declLoop 65 [] r = fin) := by rw [hfin]; rfl
  have H := Lib.hid h
  clear h hfin
  go_enter Tryz.func25, Tryz.ntmps25
  go_wp2
  go_loopw [3] (fun v wr => ∃ ds rr k, RdAt B br rr wr ∧ w.grownBy wr (some br) ∧ DlRow w.heap.size wr v ds ∧ Hid (k + ds.length = 65) ∧ Hid (∀ d ∈ ds, dfit d) ∧ ds.length ≤ 64 ∧ Hid (declLoop k ds rr = fin)) (fun v _ => mlen 65 v)
  case atStart => exact ⟨[], r, 65, H.out, grownBy_refl _ _, dl_nil _ _, rfl, fun d hd => by simp at hd, by simp, HF⟩
  case round =>
    obtain ⟨ds, rr, k, hR, hG, hrow, HK, HD, hlen, HL⟩ := hrel
    obtain ⟨ev, hc, he⟩ := hR.err
    have hlt := hR.lt
    obtain ⟨ao, cap, rfl⟩ := dl_slice hrow
    obtain ⟨k, rfl⟩ : ∃ j, k = j + 1 := ⟨k - 1, by have := HK.out; omega⟩
    clear HF H
    cases hre : rr.err with
    | some e0 =>
      rw [hre] at he
      obtain ⟨fb, rfl, _⟩ := he
      have hf : fin = (ds, rr) := by rw [← HL.out, declLoop, hre]; rfl
      have HST := Lib.hid (hrow.dcls (by omega) HD.out)
      have HR := Lib.hid hR
      have HG := Lib.hid hG
      have HFN := Lib.hid hf
      clear hrow HL hf hre hR hG
      go_wp2
      go_ret
      rw [HFN.out]
      exact ⟨_, rfl, HST.out, HR.out, HG.out⟩
    | none =>
      rw [hre] at he
      obtain rfl : ev = .nilIface := he
      have I2 := is_any B br rr ⟨#[116, 104, 114, 101, 97, 100]⟩ kThread rfl wr hR
      cases hi : rr.is kThread with
      | true =>
        rw [hi] at I2
        have hf : fin = (ds, rr) := by rw [← HL.out, declLoop, hre, hi]; rfl
        have HR := Lib.hid hR
        have HG := Lib.hid hG
        have HRow := Lib.hid hrow
        have HFN := Lib.hid hf
        clear hrow HL hf hre hR hG hi
        go_wp2_with (go_at_call 42; refine I2.mono ?_; rintro e w2 ⟨rfl, hb2⟩)
        go_ret
        have hrow2 : DlRow w.heap.size w2 (.slice ao ds.length cap) ds := own_same HRow.out (below_tsame hb2 _)
        rw [HFN.out]
        exact ⟨_, rfl, hrow2.dcls (by omega) HD.out, HR.out.below hb2, grownBy_trans HG.out (below_grown hb2 _)⟩
      | false =>
        rw [hi] at I2
        by_cases hfull : ds.length = 64
        · have hf : fin = (ds, rr.fail 6) := by rw [← HL.out, declLoop, hre, hi, if_neg (by simp), if_neg (by simp), if_pos hfull]
          have HR := Lib.hid hR
          have HG := Lib.hid hG
          have HRow := Lib.hid hrow
          have HFN := Lib.hid hf
          have FF := fun w' h' => fail_any B br 6 rr w' h' (by omega)
          have hlen2 : ((ds.length : Nat) : Int) = 64 := by omega
          clear hrow HL hf hre hR hG hi HK
          go_wp2_with (first
            | (go_at_call 43; refine (FF _ (HR.out.below hb2)).mono ?_; rintro e w3 ⟨rfl, h3, g3⟩)
            | (go_at_call 42; refine I2.mono ?_; rintro e w2 ⟨rfl, hb2⟩))
          go_ret
          have hrow2 : DlRow w.heap.size w3 (.slice ao ds.length cap) ds := own_same HRow.out (TSame.trans (below_tsame hb2 _) ((HR.out.below hb2).tsame g3 (by decide)))
          rw [HFN.out]
          exact ⟨_, rfl, (by have q := hrow2.dcls (by omega) HD.out; rw [hfull] at q; exact q), h3, grownBy_trans (grownBy_trans HG.out (below_grown hb2 _)) g3⟩
        · have HL2 : Hid (declLoop k (ds ++ [(declP rr).1]) (declP rr).2 = fin) := by
            show _ = _
            rw [← HL.out, declLoop, hre, hi, if_neg (by simp), if_neg (by simp), if_neg hfull]
          have HS : Hid (dfit (declP rr).1) := (decl_small rr (fit_all hR)).fit
          have S3 := fun w' h' => decl_any B br rr w' h'
          obtain ⟨d3, r3, e3⟩ : ∃ s x, declP rr = (s, x) := ⟨_, _, rfl⟩
          rw [e3] at S3 HL2 HS
          simp only at HL2 HS
          have HR := Lib.hid hR
          have HG := Lib.hid hG
          have HRow := Lib.hid hrow
          have hl63 : ds.length ≤ 63 := by omega
          have hne : ¬ ((ds.length : Nat) : Int) = 64 := by omega
          clear hrow HL hre hR hG hi e3 hfull
          go_wp2_with (first
            | (at_builtin; refine append_d1 w3 d3 rfl _ _ rfl w.heap.size _ ds rfl rfl row3.out (Nat.le_trans HG.out.size (Nat.le_trans hb2.size g3.size)) (by omega) ?_; intro gg cap4 w4 hown4 hgrow4)
            | (go_at_call 44; refine (S3 _ (HR.out.below hb2)).mono ?_; rintro e w3 ⟨rfl, h3, g3⟩; have row3 : Hid (DlRow w.heap.size w3 (.slice ao ds.length cap) ds) := own_same HRow.out (TSame.trans (below_tsame hb2 _) ((HR.out.below hb2).tsame g3 (by decide))))
            | (go_at_call 42; refine I2.mono ?_; rintro e w2 ⟨rfl, hb2⟩))
          go_roundw
          case rel =>
            have hW := h3.alloc (.cells #[.bool d3.lock, .int .i64 d3.label, .string d3.name, .int .i64 d3.size, .string d3.by_, .int .i64 d3.at_] 68)
            have hR4 := rd_row hW (own_same row3.out (TSame.alloc _ _ _)) hgrow4
            have hG4 := grown_row (grown_alloc (grownBy_trans (grownBy_trans HG.out (below_grown hb2 _)) g3) _) (fun k hk => (World.ownsRow.lt row3.out k hk).1) hgrow4
            have hk := HK.out
            refine ⟨ds ++ [d3], r3, k, hR4, hG4, ?_, ?_, ?_, by simp; omega, HL2⟩
            · exact hown4
            · show _ = _; simp; omega
            · intro d hd
              rcases List.mem_append.1 hd with hd | hd
              · exact HD.out d hd
              · simp at hd; subst hd; exact HS.out
          case measure =>
            simp only [mlen]; omega
end Go.Proofs.YtfginegegaokbaaGreatDoor.Pr
