/- What tree.Text answers, when it is called. Conditions: the program lies in memory as its plain data says; its text stays short of 2 to the 46th bytes. -/
import Derived.Test.YtfginegegaokbaaGreatDoorTextDecl
namespace Go.Proofs.YtfginegegaokbaaGreatDoor
open Go.ChangeShapes Go.WideShapes Go.ChangeAt Go.RowKit
set_option linter.unusedVariables false
set_option linter.unusedSimpArgs false

def Dcls (lo B : Nat) (w : World) (v : Value) (ds : List Dcl) : Prop :=
  ∃ ao cap, v = .slice ao ds.length cap ∧ ds.length ≤ 4294967296 ∧ ∀ i d, ds[i]? = some d → dfit d ∧ ∃ g off, ao = some ⟨g, off, none⟩ ∧ lo ≤ g ∧ g < B ∧ (∃ cs fr, w.heap[g]? = some (.cells cs 68 fr) ∧ fr = (0, 0)) ∧
    w.cell? ⟨g, off + i * 6, none⟩ = some (.bool d.lock) ∧ w.cell? ⟨g, off + i * 6 + 1, none⟩ = some (.int .i64 d.label) ∧ w.cell? ⟨g, off + i * 6 + 2, none⟩ = some (.string d.name) ∧ w.cell? ⟨g, off + i * 6 + 3, none⟩ = some (.int .i64 d.size) ∧ w.cell? ⟨g, off + i * 6 + 4, none⟩ = some (.string d.by_) ∧ w.cell? ⟨g, off + i * 6 + 5, none⟩ = some (.int .i64 d.at_)
def Thrs (lo B m n : Nat) (w : World) (v : Value) (ts : List (List Stm)) : Prop :=
  ∃ ao cap, v = .slice ao ts.length cap ∧ ts.length ≤ 4294967296 ∧ ∀ i ss, ts[i]? = some ss → ∃ g off tao tcap, ao = some ⟨g, off, none⟩ ∧ lo ≤ g ∧ g < B ∧ (∃ cs fr, w.heap[g]? = some (.cells cs 52 fr)) ∧
    w.cell? ⟨g, off + i, none⟩ = some (.slice tao ss.length tcap) ∧ Stms lo B w (fun v' s' => SRep lo B w m n v' s') (.slice tao ss.length tcap) ss
theorem Dcls.on {lo B : Nat} {w w' : World} {v : Value} {ds : List Dcl} (h : Dcls lo B w v ds) (hb : Below B w w') : Dcls lo B w' v ds := by
  obtain ⟨ao, cap, rfl, hl, h⟩ := h
  refine ⟨ao, cap, rfl, hl, fun i d hd => ?_⟩
  obtain ⟨hf, g, off, e, hlo, hg, ⟨cs, fr, hc, hz⟩, h0, h1, h2, h3, h4, h5⟩ := h i d hd
  exact ⟨hf, g, off, e, hlo, hg, ⟨cs, fr, (hb.block g hg).trans hc, hz⟩, (hb.cell (p := ⟨g, _, none⟩) hg).trans h0, (hb.cell (p := ⟨g, _, none⟩) hg).trans h1, (hb.cell (p := ⟨g, _, none⟩) hg).trans h2, (hb.cell (p := ⟨g, _, none⟩) hg).trans h3, (hb.cell (p := ⟨g, _, none⟩) hg).trans h4, (hb.cell (p := ⟨g, _, none⟩) hg).trans h5⟩
theorem Thrs.on {lo B m n : Nat} {w w' : World} {v : Value} {ts : List (List Stm)} (h : Thrs lo B m n w v ts) (hb : Below B w w') : Thrs lo B m n w' v ts := by
  obtain ⟨ao, cap, rfl, hl, h⟩ := h
  refine ⟨ao, cap, rfl, hl, fun i ss hs => ?_⟩
  obtain ⟨g, off, tao, tcap, e, hlo, hg, ⟨cs, fr, hc⟩, h0, h1⟩ := h i ss hs
  exact ⟨g, off, tao, tcap, e, hlo, hg, ⟨cs, fr, (hb.block g hg).trans hc⟩, (hb.cell (p := ⟨g, _, none⟩) hg).trans h0, h1.on hb⟩
def dsText (ds : List Dcl) : List UInt8 := (ds.map dtext).flatten
def tsText (m n : Nat) (ts : List (List Stm)) : List UInt8 := (ts.map fun ss => ttext m n ss).flatten
theorem flat_take {α : Type} (f : α → List UInt8) (l : List α) (k : Nat) (x : α) (h : l[k]? = some x) : ((l.take (k + 1)).map f).flatten = ((l.take k).map f).flatten ++ f x := by
  have e : l.take (k + 1) = l.take k ++ [x] := by rw [List.take_add_one, h]; rfl
  simp [e]
theorem flat_le {α : Type} (f : α → List UInt8) (l : List α) (k : Nat) : (((l.take k).map f).flatten).length ≤ ((l.map f).flatten).length := by
  have : (l.map f).flatten = ((l.take k).map f).flatten ++ ((l.drop k).map f).flatten := by
    simp only [← List.flatten_append, ← List.map_append, List.take_append_drop]
  rw [this, List.length_append]; omega

theorem block_one {m n : Nat} (B b : Nat) (l : List UInt8) (ss : List Stm) (v : Value) (w : World) (hP : PageAt B b l 0 w) (hS : Stms 0 B w (fun v' s' => SRep 0 B w m n v' s') v ss) (hV : Vars B w) (hd : n + 1 ≤ 1000000)
    (hlen : l.length + (btext m n 1 ss).length ≤ 70368744177664) :
    Calls Tryz.prog 29 #[.pointer (some ⟨b, 0, none⟩), v] w (Wrote B b l 0 w (btext m n 1 ss)) := block_of (stmt_all m n) B b l 0 ss v w hP hS hV (by omega) hlen
set_option maxHeartbeats 4000000 in
set_option maxRecDepth 100000 in
theorem text_any (m n : Nat) (p : Prg) (dv tv : Value) (w : World) (hD : Dcls 0 w.heap.size w dv p.decls) (hT : Thrs 0 w.heap.size m n w tv p.threads) (hV : Vars w.heap.size w) (hn : n + 1 ≤ 1000000) (hne : ptext m n p ≠ []) (hlen : (ptext m n p).length ≤ 70368744177664) :
    Calls Tryz.prog 13 #[.agg #[dv, tv]] w fun e w' => e = .returned (.string (bstr (ptext m n p))) ∧ Below w.heap.size w w' := by
  have HD := Lib.hid hD
  have HT := Lib.hid hT
  obtain ⟨dao, dcap, rfl, hdl, _⟩ := hD
  obtain ⟨tao, tcap, rfl, htl, _⟩ := hT
  have HP : Hid (ptext m n p = dsText p.decls ++ tsText m n p.threads) := rfl
  rw [HP.out, List.length_append] at hlen
  have hb0 : Below w.heap.size w ((w.alloc (.cells #[.slice dao p.decls.length dcap, .slice tao p.threads.length tcap] 27)).alloc (.cells #[.pointer none, .slice none 0 0, .int .i64 0] 87)) := ((Below.refl _ _).alloc (Nat.le_refl _) _).alloc (by simp) _
  have hP0 : PageAt w.heap.size (w.heap.size + 1) [] 0 ((w.alloc (.cells #[.slice dao p.decls.length dcap, .slice tao p.threads.length tcap] 27)).alloc (.cells #[.pointer none, .slice none 0 0, .int .i64 0] 87)) :=
    ⟨by omega, .pointer none, .slice none 0 0, by have := heap_alloc_new (w.alloc (.cells #[.slice dao p.decls.length dcap, .slice tao p.threads.length tcap] 27)) (.cells #[.pointer none, .slice none 0 0, .int .i64 0] 87); simpa using this, .inl rfl, World.ownsRow_nil _ _ _ _, by simp [Value.ownBlock]⟩
  have hbx0 : ((w.alloc (.cells #[.slice dao p.decls.length dcap, .slice tao p.threads.length tcap] 27)).alloc (.cells #[.pointer none, .slice none 0 0, .int .i64 0] 87)).heap[w.heap.size]? = some (.cells #[.slice dao p.decls.length dcap, .slice tao p.threads.length tcap] 27 (0, 0)) := (Lib.alloc_old _ _ _ (by simp)).trans (heap_alloc_new w _)
  obtain ⟨W0, hW0⟩ : ∃ W0, W0 = ((w.alloc (.cells #[.slice dao p.decls.length dcap, .slice tao p.threads.length tcap] 27)).alloc (.cells #[.pointer none, .slice none 0 0, .int .i64 0] 87)) := ⟨_, rfl⟩
  have HB : Hid (w.heap.size ≠ w.heap.size + 1) := by show _ ≠ _; omega
  go_enter Tryz.func13, Tryz.ntmps13
  go_wp2
  go_loopw [12] (fun i wr => ∃ k : Nat, k ≤ p.decls.length ∧ i = .int .i64 k ∧ PageAt w.heap.size (w.heap.size + 1) (dsText (p.decls.take k)) 0 wr ∧ Stay w.heap.size (w.heap.size + 1) W0 wr) (fun i _ => p.decls.length - (intOf i).toNat)
  case atStart => exact ⟨0, Nat.zero_le _, rfl, by simpa [dsText] using hP0, by rw [hW0]; exact Stay.refl _ _ _⟩
  case round =>
    obtain ⟨k, hk, rfl, hPr, hSr⟩ := hrel
    rw [hW0] at hSr
    have hSr0 : Below w.heap.size w wr := hb0.trans hSr.1
    have hBr := hPr.base
    by_cases hlt : k < p.decls.length
    · obtain ⟨d, hd⟩ : ∃ d, p.decls[k]? = some d := ⟨p.decls[k], by simp [hlt]⟩
      obtain ⟨ao', cap', e, _, hK⟩ := HD.out.on hSr0
      cases e
      obtain ⟨hf, g, off, rfl, _, hg, _, h0, h1, h2, h3, h4, h5⟩ := hK k d hd
      have HF := Lib.hid (flat_take dtext p.decls k d hd)
      have hle := flat_le dtext p.decls (k + 1)
      rw [HF.out, List.length_append] at hle
      have hle2 : (dsText (p.decls.take k)).length + (dtext d).length ≤ 70368744177664 := by unfold dsText at *; omega
      clear hK hd hle
      have hA := (Stay.refl w.heap.size (w.heap.size + 1) wr).alloc hBr (.cells #[.bool d.lock, .int .i64 d.label, .string d.name, .int .i64 d.size, .string d.by_, .int .i64 d.at_] 68)
      have Hd := decl_any w.heap.size (w.heap.size + 1) _ d _ (hPr.alloc (.cells #[.bool d.lock, .int .i64 d.label, .string d.name, .int .i64 d.size, .string d.by_, .int .i64 d.at_] 68)) hf ((hV.on hSr0).on hA.1) hle2
      unfold dagg at Hd
      go_wp2_with (go_at_call 27; refine Hd.mono ?_; rintro e w1 ⟨rfl, hP1, hb1⟩)
      go_roundw
      case rel => exact ⟨k + 1, by omega, by go_num, by rw [dsText, HF.out]; exact hP1, by rw [hW0]; exact hSr.trans (hA.trans hb1)⟩
      case measure => simp [intOf]; omega
    · obtain rfl : k = p.decls.length := by omega
      rw [List.take_length] at hPr
      have hbx1 := hSr.2 _ _ _ _ HB.out (by decide) hbx0
      have hc1 : wr.cell? ⟨w.heap.size, 1, none⟩ = some (.slice tao p.threads.length tcap) := by rw [Lib.cell_of_heap hbx1]; rfl
      have HPr := Lib.hid hPr
      have HSr := Lib.hid hSr0
      clear hPr hSr0
      go_wp2
      go_loopw [23] (fun i wt => ∃ k : Nat, k ≤ p.threads.length ∧ i = .int .i64 k ∧ PageAt w.heap.size (w.heap.size + 1) (dsText p.decls ++ tsText m n (p.threads.take k)) 0 wt ∧ Stay w.heap.size (w.heap.size + 1) wr wt) (fun i _ => p.threads.length - (intOf i).toNat)
      case atStart => exact ⟨0, Nat.zero_le _, rfl, by simpa [tsText] using HPr.out, Stay.refl _ _ _⟩
      case round =>
        obtain ⟨k, hk, rfl, hPt, hSt⟩ := hrel
        have hSt0 : Below w.heap.size w wr := HSr.out.trans hSt.1
        by_cases hlt : k < p.threads.length
        · obtain ⟨ss, hs⟩ : ∃ ss, p.threads[k]? = some ss := ⟨p.threads[k], by simp [hlt]⟩
          obtain ⟨ao', cap', e, _, hK⟩ := HT.out.on hSt0
          cases e
          obtain ⟨g, off, sao, scap, rfl, _, hg, _, h0, hSS⟩ := hK k ss hs
          have HF := Lib.hid (flat_take (fun ss => ttext m n ss) p.threads k ss hs)
          have hle := flat_le (fun ss => ttext m n ss) p.threads (k + 1)
          rw [HF.out, List.length_append] at hle
          have hle2 : (dsText p.decls ++ tsText m n (p.threads.take k)).length + ((lineT 0 sThread).length + (btext m n 1 ss).length + (lineT 0 [125]).length) ≤ 70368744177664 := by
            have e : (ttext m n ss).length = (lineT 0 sThread).length + (btext m n 1 ss).length + (lineT 0 [125]).length := by simp [ttext]; omega
            rw [List.length_append]
            unfold tsText at *
            omega
          have HE : Hid (dsText p.decls ++ tsText m n (p.threads.take (k + 1)) = dsText p.decls ++ tsText m n (p.threads.take k) ++ lineT 0 sThread ++ btext m n 1 ss ++ lineT 0 [125]) := by show _ = _; rw [tsText, HF.out]; simp [ttext, tsText]
          clear hK hs hle HF
          go_wp2_with (go_at_call 28; refine (line_at w.heap.size (w.heap.size + 1) _ 0 ⟨#[116, 104, 114, 101, 97, 100, 32, 123]⟩ sThread rfl _ hPt (by omega) (by omega)).mono ?_; rintro e w1 ⟨rfl, hP1, hb1⟩)
          go_wp2_with (go_at_call 29; refine (block_one w.heap.size (w.heap.size + 1) _ ss _ _ hP1 (hSS.on hb1.1) ((hV.on hSt0).on hb1.1) (by omega) (by rw [List.length_append]; omega)).mono ?_; rintro e w2 ⟨rfl, hP2, hb2⟩)
          go_wp2_with (go_at_call 28; refine (line_at w.heap.size (w.heap.size + 1) _ 0 ⟨#[125]⟩ [125] rfl _ hP2 (by omega) (by rw [List.length_append, List.length_append]; omega)).mono ?_; rintro e w3 ⟨rfl, hP3, hb3⟩)
          go_roundw
          case rel => exact ⟨k + 1, by omega, by go_num, by rw [HE.out]; exact hP3, ((hSt.trans hb1).trans hb2).trans hb3⟩
          case measure => simp [intOf]; omega
        · obtain rfl : k = p.threads.length := by omega
          rw [List.take_length] at hPt
          go_wp2_with (go_at_call 30; refine (pageString_some _ _ (ptext m n p) 0 _ hPt hne).mono ?_; rintro e w1 ⟨rfl, hb1⟩)
          go_ret
          exact ⟨rfl, hSt0.trans hb1⟩
end Go.Proofs.YtfginegegaokbaaGreatDoor
