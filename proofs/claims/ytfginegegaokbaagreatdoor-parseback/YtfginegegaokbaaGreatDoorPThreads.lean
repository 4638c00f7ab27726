/- What the reader's threads does. Conditions: as in PRead. -/
import Derived.Test.YtfginegegaokbaaGreatDoorPDecls
namespace Go.Proofs.YtfginegegaokbaaGreatDoor.Pr
open Go.ChangeShapes Go.WideShapes Go.ChangeAt Go.RowKit
open Lx (Tok)
set_option linter.unusedVariables false
set_option linter.unusedSimpArgs false

/-- A list of threads that the call owns. -/
def TRow (lo : Nat) (w : World) (v : Value) (ts : List (List Stm)) : Prop :=
  ∃ xs : List Value, w.ownsRow lo 52 1 v ts.length xs ∧ ∀ (i : Nat) (ss : List Stm), ts[i]? = some ss → ∃ a b ao cap, xs[i]? = some (Value.slice ao ss.length cap) ∧ lo ≤ a ∧ b ≤ w.heap.size ∧ Stms a b w (fun v' s' => SRep a b w bigM 41 v' s') (.slice ao ss.length cap) ss
theorem TRow.nil {lo : Nat} {w : World} : TRow lo w (.slice none 0 0) [] := ⟨[], World.ownsRow_nil _ _ _ _, fun i s hs => by simp at hs⟩
theorem Stms.same41 {a b : Nat} {w w' : World} {v : Value} {ss : List Stm} (h : Stms a b w (fun v' s' => SRep a b w bigM 41 v' s') v ss) (h45 : TSame 60 w w') (h35 : TSame 57 w w') : Stms a b w' (fun v' s' => SRep a b w' bigM 41 v' s') v ss :=
  h.carry (Nat.le_refl _) (Nat.le_refl _) (h45.s45 a b) fun _ _ hr => hr.carry (Nat.le_refl _) (Nat.le_refl _) (h35.s35 a b) (h45.s45 a b)
theorem TRow.same {lo : Nat} {w w' : World} {v : Value} {ts : List (List Stm)} (h : TRow lo w v ts) (hz : w.heap.size ≤ w'.heap.size) (hs : ∀ t : TypeId, t ≠ 81 → TSame t w w') : TRow lo w' v ts := by
  obtain ⟨xs, ho, hr⟩ := h
  refine ⟨xs, own_same ho (hs _ (by decide)), fun i ss hi => ?_⟩
  obtain ⟨a, b, ao, cap, hx, ha, hb, hS⟩ := hr i ss hi
  exact ⟨a, b, ao, cap, hx, ha, by omega, Stms.same41 hS (hs _ (by decide)) (hs _ (by decide))⟩
theorem TRow.slice {lo : Nat} {w : World} {v : Value} {ts : List (List Stm)} (h : TRow lo w v ts) : ∃ ao cap, v = .slice ao ts.length cap := by
  obtain ⟨xs, ho, _⟩ := h
  rcases ho.2 with ⟨rfl, h0⟩ | ⟨g, cap, cur, rfl, _⟩
  · exact ⟨none, 0, by rw [h0]⟩
  · exact ⟨_, cap, rfl⟩
theorem TRow.thrs {lo : Nat} {w : World} {v : Value} {ts : List (List Stm)} (h : TRow lo w v ts) (hlen : ts.length ≤ 4294967296) : Thrs lo w.heap.size bigM 41 w v ts := by
  obtain ⟨xs, ho, hr⟩ := h
  rcases ho.2 with ⟨rfl, h0⟩ | ⟨g, cap, cur, rfl, hb, hgg, rest⟩
  · rw [List.length_eq_zero_iff.1 h0]; exact ⟨none, 0, rfl, by simp, fun i d hd => by simp at hd⟩
  · refine ⟨_, cap, rfl, hlen, fun i ss hs => ?_⟩
    obtain ⟨a, b, ao, cap', hx, ha, hb', hS⟩ := hr i ss hs
    have hc := ho.cells (g := g) rfl i _ hx
    rw [Lib.add_plain] at hc
    exact ⟨g, 0, ao, cap', rfl, hb, heap_lt hgg, ⟨_, _, hgg⟩, hc, hS.carry ha hb' (fun _ _ _ _ _ h => h) fun _ _ hr => hr.carry ha hb' (Same35.refl _ _ _) (fun _ _ _ _ _ h => h)⟩
/-- A thread more. -/
theorem append_t1 {ops : Array Oper} {rest : List Oper} {o : Oper} {act : Act} {Q : Exit → Act → World → Prop} (W : World) (tao : Option Addr) (tcap a : Nat) (ss : List Stm) (hgd : o.guard = none) (s x : Operand)
    (ho : o.op = .call { callee := .builtin .append, args := #[s, x], argTypes := #[25, 25] }) (lo : Nat) (v : Value) (ts : List (List Stm)) (hs : act.eval s = v) (hx : act.eval x = .slice (some ⟨W.heap.size, 0, none⟩) 1 1)
    (hR : TRow lo W v ts) (hS : Stms a W.heap.size W (fun v' s' => SRep a W.heap.size W bigM 41 v' s') (.slice tao ss.length tcap) ss) (ha : lo ≤ a) (hlo : lo ≤ W.heap.size) (hlen : ts.length ≤ 1000)
    (h : ∀ g cap w', TRow lo w' (.slice (some ⟨g, 0, none⟩) (ts.length + 1) cap) (ts ++ [ss]) → (∀ k, v.ownBlock = some k → lo ≤ k) → (∃ n xs, W.ownsRow lo 52 1 v n xs) → (W.alloc (.cells #[.slice tao ss.length tcap] 52)).grownBy w' v.ownBlock →
      wpList Tryz.prog ops Q rest (act.put o.dst (.slice (some ⟨g, 0, none⟩) (ts.length + 1) cap)) w') :
    wpList Tryz.prog ops Q (o :: rest) act (W.alloc (.cells #[.slice tao ss.length tcap] 52)) := by
  obtain ⟨i0, hi, hz0, hz1, hz2⟩ := info_parts infoStmts
  obtain ⟨xs, hown, hr⟩ := hR
  have hownA := own_same hown (TSame.alloc 52 W (.cells #[.slice tao ss.length tcap] 52))
  refine wpList_append_lies _ hgd s x 25 ho lo 52 i0 _ 1 24 Tryz.underlying25 hi hz0 hz1 hz2 rfl (by decide) v ts.length xs hs hownA ⟨W.heap.size, 0, none⟩ 1 1 [.slice tao ss.length tcap] hx (by simp) (World.news_of_block (heap_alloc_new W _)) (by simp [Value.oneCell']) (by omega) (by unfold maxLen; omega) (by omega) (by rw [alloc_size]; omega) _ rfl ?_
  intro g cap w' hown1 hgrow hat hlt
  have hz := hgrow.size
  rw [alloc_size] at hz
  have tk : ∀ t : TypeId, t ≠ 52 → TSame t W w' := fun t h1 => (TSame.alloc _ _ _).trans (TSame.of_row hownA hgrow h1)
  refine h g cap w' ⟨xs ++ [.slice tao ss.length tcap], by rw [List.length_append]; exact hown1, fun i e he => ?_⟩ (fun k hk => (hown.lt k hk).1) ⟨_, _, hown⟩ hgrow
  by_cases hil : i < ts.length
  · rw [List.getElem?_append_left hil] at he
    obtain ⟨p, q, ao, cp, hx', hp, hq, hS'⟩ := hr i e he
    refine ⟨p, q, ao, cp, ?_, hp, by omega, Stms.same41 hS' (tk _ (by decide)) (tk _ (by decide))⟩
    rw [List.getElem?_append_left (by have := hown.1; omega)]; exact hx'
  · rw [List.getElem?_append_right (by omega)] at he
    have hi0 : i = ts.length := by
      rcases Nat.eq_zero_or_pos (i - ts.length) with h | h
      · omega
      · rw [List.getElem?_eq_none (by simp; omega)] at he; cases he
    subst hi0
    simp at he
    subst he
    refine ⟨a, W.heap.size, tao, tcap, ?_, ha, by omega, Stms.same41 hS (tk _ (by decide)) (tk _ (by decide))⟩
    have hl := hown.1
    rw [List.getElem?_append_right (by omega), show ts.length - xs.length = 0 by omega]; rfl
theorem RdAt.ts_of {B br : Nat} {r : Rd} {w w' : World} (h : RdAt B br r w) (hg : w.grownBy w' (some br)) : ∀ t : TypeId, t ≠ 81 → TSame t w w' := fun t ht => h.tsame hg ht
set_option maxHeartbeats 4000000 in
set_option maxRecDepth 100000 in
/-- reader.threads -/
theorem threads_any (B br : Nat) (r : Rd) (w : World) (h : RdAt B br r w) :
    Calls Tryz.prog 26 #[.pointer (some ⟨br, 0, none⟩)] w fun e w' => ∃ v, e = .returned v ∧ Thrs w.heap.size w'.heap.size bigM 41 w' v (threadsP r).1 ∧ RdAt B br (threadsP r).2 w' ∧ w.grownBy w' (some br) := by
  obtain ⟨fin, hfin⟩ : ∃ x, x = threadsP r := ⟨_, rfl⟩
  rw [← hfin]
  have HF : Hid (thrLoop 17 [] r = fin) := by rw [hfin]; rfl
  have H := Lib.hid h
  clear h hfin
  go_enter Tryz.func26, Tryz.ntmps26
  go_wp2
  go_loopw [3] (fun v wr => ∃ ts rr k, RdAt B br rr wr ∧ w.grownBy wr (some br) ∧ TRow w.heap.size wr v ts ∧ Hid (k + ts.length = 17) ∧ ts.length ≤ 16 ∧ Hid (thrLoop k ts rr = fin)) (fun v _ => mlen 17 v)
  case atStart => exact ⟨[], r, 17, H.out, grownBy_refl _ _, TRow.nil, rfl, by simp, HF⟩
  case round =>
    obtain ⟨ts, rr, k, hR, hG, hrow, HK, hlen, HL⟩ := hrel
    obtain ⟨ev, hc, he⟩ := hR.err
    have hlt := hR.lt
    obtain ⟨ao, cap, rfl⟩ := hrow.slice
    obtain ⟨k, rfl⟩ : ∃ j, k = j + 1 := ⟨k - 1, by have := HK.out; omega⟩
    clear HF H
    cases hre : rr.err with
    | some e0 =>
      rw [hre] at he
      obtain ⟨fb, rfl, _⟩ := he
      have hf : fin = (ts, rr) := by rw [← HL.out, thrLoop, hre]; rfl
      have HST := Lib.hid (hrow.thrs (by omega))
      have HR := Lib.hid hR
      have HG := Lib.hid hG
      have HFN := Lib.hid hf
      clear hrow HL hf hre hR hG
      go_wp2
      go_ret
      rw [HFN.out]
      exact ⟨_, rfl, HST.out, HR.out, HG.out⟩
    | none =>
      rw [hre] at he
      obtain rfl : ev = .nilIface := he
      have I2 := here_any B br rr wr hR
      have hkf := tok_kind
      by_cases hkk : rr.here.kind = 0
      · have hf : fin = (ts, rr) := by rw [← HL.out, thrLoop, hre, if_neg (by simp), if_pos hkk]
        rw [hkk] at I2
        have HR := Lib.hid hR
        have HG := Lib.hid hG
        have HRow := Lib.hid hrow
        have HFN := Lib.hid hf
        clear hrow HL hf hre hR hG hkk
        generalize rr.here = T at *
        go_wp2_with (go_at_call 45; refine I2.mono ?_; rintro e w2 ⟨rfl, hb2⟩; have hg2 : Hid (wr.grownBy w2 (some br)) := (by show wr.grownBy w2 (some br); rw [hb2]; exact World.grownBy_alloc _ _ _); have hr2 : Hid (RdAt B br rr w2) := (by show RdAt B br rr w2; rw [hb2]; exact HR.out.alloc _); clear hb2)
        go_ret
        have hrow2 := HRow.out.same hg2.out.size (HR.out.ts_of hg2.out)
        rw [HFN.out]
        exact ⟨_, rfl, hrow2.thrs (by omega), hr2.out, grownBy_trans HG.out hg2.out⟩
      · have hk1 : 1 ≤ rr.here.kind := by omega
        by_cases hfull : ts.length = 16
        · have hf : fin = (ts, rr.fail 6) := by rw [← HL.out, thrLoop, hre, if_neg (by simp), if_neg hkk, if_pos hfull]
          have HR := Lib.hid hR
          have HG := Lib.hid hG
          have HRow := Lib.hid hrow
          have HFN := Lib.hid hf
          have FF := fun w' h' => fail_any B br 6 rr w' h' (by omega)
          have hlen2 : ((ts.length : Nat) : Int) = 16 := by omega
          clear hrow HL hf hre hR hG HK hkk
          generalize rr.here = T at *
          go_wp2_with (first
            | (go_at_call 43; refine (FF _ hr2.out).mono ?_; rintro e w3 ⟨rfl, h3, g3⟩)
            | (go_at_call 45; refine I2.mono ?_; rintro e w2 ⟨rfl, hb2⟩; have hg2 : Hid (wr.grownBy w2 (some br)) := (by show wr.grownBy w2 (some br); rw [hb2]; exact World.grownBy_alloc _ _ _); have hr2 : Hid (RdAt B br rr w2) := (by show RdAt B br rr w2; rw [hb2]; exact HR.out.alloc _); clear hb2))
          go_ret
          have hrow2 := (HRow.out.same hg2.out.size (HR.out.ts_of hg2.out)).same g3.size (hr2.out.ts_of g3)
          rw [HFN.out]
          exact ⟨_, rfl, (by have q := hrow2.thrs (by omega); rw [hfull] at q; exact q), h3, grownBy_trans (grownBy_trans HG.out hg2.out) g3⟩
        · have HL2 : Hid (thrLoop k (ts ++ [(blockOf (stP 40) 1 (rr.want kThread)).1]) (blockOf (stP 40) 1 (rr.want kThread)).2 = fin) := by
            show _ = _
            rw [← HL.out, thrLoop, hre, if_neg (by simp), if_neg hkk, if_neg hfull]
          have W3 := fun w' h' => want_any B br rr ⟨#[116, 104, 114, 101, 97, 100]⟩ kThread rfl w' h'
          have S3 := fun w' h' => bl_all 40 B br 1 (rr.want kThread) w' h' rfl
          obtain ⟨rw1, ew1⟩ : ∃ x, rr.want kThread = x := ⟨_, rfl⟩
          rw [ew1] at W3 S3 HL2
          obtain ⟨d3, r3, e3⟩ : ∃ s x, blockOf (stP 40) 1 rw1 = (s, x) := ⟨_, _, rfl⟩
          rw [e3] at S3 HL2
          simp only at HL2 S3
          have HR := Lib.hid hR
          have HG := Lib.hid hG
          have HRow := Lib.hid hrow
          have hl63 : ts.length ≤ 15 := by omega
          have hne : ¬ ((ts.length : Nat) : Int) = 16 := by omega
          clear hrow HL hre hR hG e3 ew1 hfull hkk
          generalize rr.here = T at *
          go_wp2_with (first
            | (at_builtin; refine append_t1 w4 tao tcap w3.heap.size d3 rfl _ _ rfl w.heap.size _ ts rfl rfl row4.out S4.out (Nat.le_trans HG.out.size (Nat.le_trans hg2.out.size g3.out.size)) (Nat.le_trans (Nat.le_trans HG.out.size (Nat.le_trans hg2.out.size g3.out.size)) g4.out.size) (by omega) ?_; intro gg cap5 w5 hrow5 hlo5 hown5 hgrow5)
            | (go_at_call 47; refine (S3 _ h3.out).mono ?_; rintro e w4 ⟨v4, rfl, S4', h4', g4'⟩; obtain ⟨tao, tcap, rfl⟩ := stms_slice S4'; have S4 := Lib.hid S4'; have h4 := Lib.hid h4'; have g4 := Lib.hid g4'; have row4 := Lib.hid (row3.out.same g4'.size (h3.out.ts_of g4')); clear S4' h4' g4')
            | (go_at_call 46; refine (W3 _ hr2.out).mono ?_; rintro e w3 ⟨rfl, h3', g3'⟩; have h3 := Lib.hid h3'; have g3 := Lib.hid g3'; have row3 := Lib.hid (row2.out.same g3'.size (hr2.out.ts_of g3')); clear h3' g3')
            | (go_at_call 45; refine I2.mono ?_; rintro e w2 ⟨rfl, hb2⟩; have hg2 : Hid (wr.grownBy w2 (some br)) := (by show wr.grownBy w2 (some br); rw [hb2]; exact World.grownBy_alloc _ _ _); have hr2 : Hid (RdAt B br rr w2) := (by show RdAt B br rr w2; rw [hb2]; exact HR.out.alloc _); have row2 := Lib.hid (HRow.out.same hg2.out.size (HR.out.ts_of hg2.out)); clear hb2))
          go_roundw
          case rel =>
            obtain ⟨n5, xs5, ho5⟩ := hown5
            have hW := h4.out.alloc (.cells #[.slice tao d3.length tcap] 52)
            have hR4 := rd_row hW (own_same ho5 (TSame.alloc _ _ _)) hgrow5
            have hG4 := grown_row (grown_alloc (grownBy_trans (grownBy_trans (grownBy_trans HG.out hg2.out) g3.out) g4.out) _) hlo5 hgrow5
            have hk := HK.out
            refine ⟨ts ++ [d3], r3, k, hR4, hG4, ?_, ?_, by simp; omega, HL2⟩
            · exact hrow5
            · show _ = _; simp; omega
          case measure =>
            simp only [mlen]; omega
end Go.Proofs.YtfginegegaokbaaGreatDoor.Pr
