/- The walk of TreeTight: on every list of numbers it returns true. Conditions: the table of powers holds what its initialiser lays. -/
import Derived.Test.YtbeflkadmehdlaaDoorMakeSecAll
import Derived.Test.YtbeflkadmehdlaaDoorTreeWf
import Derived.Test.YtbeflkadmehdlaaDoorTreeFrame
namespace Go.Proofs.YtbeflkadmehdlaaDoor
open Go.ChangeShapes Go.WideShapes Go.ChangeAt Go.RowKit
set_option linter.unusedVariables false
set_option linter.unusedSimpArgs false

def E0 : Env := ⟨[], [], [], false, 0, 0⟩
theorem good0 : goodE E0 := fun s hs => by simp [E0] at hs
/-- The numbers, as bytes. -/
def byteL (zs : List Int) : List UInt8 := zs.map fun z => UInt8.ofNat z.toNat
theorem u8_wf {z : Int} (h : (Lit.int .u8 z).wf = true) : 0 ≤ z ∧ z < 256 := by
  simp [Lit.wf] at h
  have h1 : IntKind.u8.min = 0 := rfl
  have h2 : IntKind.u8.max = 255 := rfl
  omega
theorem nsAt_of_ints {w : World} {v : Value} {zs : List Int} (h : IntsAt w .u8 v zs) (hz : ∀ n ∈ zs, (Lit.int .u8 n).wf = true) (m : Nat) (hm : m ≤ zs.length) :
    ∃ ao cap, v = .slice ao zs.length cap ∧ zs.length ≤ cap ∧ NsAt w.heap.size w (.slice ao m cap) ((byteL zs).take m) := by
  obtain ⟨ao, cap, rfl, hc, hcm, hl, hi⟩ := h
  refine ⟨ao, cap, rfl, hc, ao, cap, by simp [byteL]; omega, by simp [byteL]; omega, by unfold maxLen at hcm; omega, fun i x hx => ?_⟩
  have him : i < m := by
    rcases Nat.lt_or_ge i m with h | h
    · exact h
    · rw [List.getElem?_eq_none (by simp; omega)] at hx; cases hx
  obtain ⟨b, off, rfl, hb, hcell⟩ := hi i (by omega)
  refine ⟨b, off, rfl, hb, ?_⟩
  have hx' : (byteL zs)[i]? = some x := by rw [List.getElem?_take, if_pos him] at hx; exact hx
  have hiz : i < zs.length := by omega
  simp [byteL, hiz] at hx'
  have hw := u8_wf (hz zs[i] (List.getElem_mem hiz))
  have hg : zs.getD i 0 = zs[i] := by simp [hiz]
  rw [hcell, hg, ← hx']
  congr 2
  simp
  omega
theorem maker_new {B : Nat} {w : World} {v : Value} {ns : List UInt8} (hB : B ≤ w.heap.size) (h : NsAt B w v ns) :
    MakerAt B w.heap.size E0 ns (w.alloc (.cells #[v, .slice none 0 0, .slice none 0 0, .slice none 0 0, .bool false, .int .i64 0, .int .i64 0] 29)) :=
  ⟨hB, v, _, _, _, heap_alloc_new w _, h.on fun k hk => Lib.alloc_old w _ k (by omega), World.ownsRow_nil _ _ _ _, World.ownsRow_nil _ _ _ _, World.ownsRow_nil _ _ _ _, by simp [E0], by simp [E0], by simp [E0]⟩
theorem cat3 (X : List UInt8) : (⟨#[40]⟩ : ByteArray) ++ bstr X ++ ⟨#[41]⟩ = bstr ([40] ++ X ++ [41]) := by
  apply ByteArray.ext; simp [ByteArray.data_append, bstr]
theorem bstr_inj {a b : List UInt8} (h : bstr a = bstr b) : a = b := by rw [← bys_bstr a, h, bys_bstr]
theorem str_ne {a b : ByteArray} (h : ¬ a = b) : (a.toList == b.toList) = false := by
  rw [ByteArray.toList_eq, ByteArray.toList_eq, beq_eq_false_iff_ne]
  exact fun e => h (bys_inj e)
theorem brackets_ne (X : List UInt8) : ¬ bstr ([40] ++ X ++ [41]) = bstr X := fun h => by
  have := congrArg List.length (bstr_inj h)
  simp at this
  omega

/-- What TreeTight asks of one expression. -/
theorem tight_text {n : Nat} {t : Tree} (h : wfT (n + 1) t) (q : Nat) :
    (bstr (etext (n + 1) t q) = bstr (etext (n + 1) t 0) ∧ (t.kind = 3 → ¬ tightN t.op < q)) ∨ (bstr (etext (n + 1) t q) = bstr ([40] ++ etext (n + 1) t 0 ++ [41]) ∧ t.kind = 3 ∧ tightN t.op < q) := by
  rw [etext_at n t q]
  by_cases h3 : t.kind = 3
  · have h0 := tightN_pos t.op (h.1 h3).1 (h.1 h3).2
    by_cases hq : tightN t.op < q
    · rw [if_pos ⟨h3, h0, hq⟩]; exact .inr ⟨rfl, h3, hq⟩
    · rw [if_neg (fun hh => hq hh.2.2)]; exact .inl ⟨rfl, fun _ => hq⟩
  · rw [if_neg (fun hh => h3 hh.1)]; exact .inl ⟨rfl, fun hh => absurd hh h3⟩

@[reducible] def boxOf (K : Int) (t : Tree) (kv : Value) : Obj := .cells #[.int .i64 K, .int .i64 t.op, .string t.name, .int .u64 t.value, kv, .int .i64 t.at_] 35
theorem rounds_box {K : Int} {t : Tree} {kv : Value} {w2 wr : World} (h : Below (w2.alloc (boxOf K t kv)).heap.size (w2.alloc (boxOf K t kv)) wr) : wr.heap[w2.heap.size]? = some (.cells #[.int .i64 K, .int .i64 t.op, .string t.name, .int .u64 t.value, kv, .int .i64 t.at_] 35 (0, 0)) :=
  (h.block _ (by rw [alloc_size]; omega)).trans (heap_alloc_new w2 _)
theorem rounds_on {a b c : World} (h : Below a.heap.size a b) (k : Below b.heap.size b c) : Below a.heap.size a c := h.trans (k.mono h.size)
theorem pow13 : 100 * 4 ^ 13 ≤ 70368744177664 := by decide
theorem expr_rounds {n lo : Nat} {t : Tree} {v : Value} {w w2 : World} (o : Obj) (hE : ERep lo w2.heap.size w2 (n + 1) v t) (hwf : wfT (n + 1) t) (hn : 100 * 4 ^ (n + 1) ≤ 70368744177664) (hb : Below w.heap.size w w2) (hV : Vars w.heap.size w) (q : Nat) (b : ByteArray) (hq : q ≤ 100) (ht : bstr (etext (n + 1) t q) = b) (wr : World) (hr : Below (w2.alloc o).heap.size (w2.alloc o) wr) :
    Calls Tryd.prog 10 #[v, .int .i64 q] wr fun e w' => e = .returned (.string b) ∧ Below wr.heap.size wr w' := by
  have h2 : Below w2.heap.size w2 wr := ((Below.refl _ _).alloc (Nat.le_refl _) o).trans (hr.mono (by rw [alloc_size]; omega))
  have hE' : ERep 0 wr.heap.size wr (n + 1) v t := (hE.carry (Nat.zero_le _) (Nat.le_refl _) (Same35.refl _ _ _)).mono h2.size h2
  have hbr : Below w.heap.size w wr := hb.trans (h2.mono hb.size)
  subst ht
  exact treeExpr_any (n + 1) t v q wr hE' ((hV.on hbr).mono hbr.size) hq (etext_some n t q hwf) (Nat.le_trans (etext_len _ _ _ hwf) hn)
set_option maxHeartbeats 4000000 in
set_option maxRecDepth 100000 in
theorem tight_walk (v0 : Value) (zs0 : List Int) (w : World) (h0 : IntsAt w .u8 v0 zs0) (z0 : ∀ n ∈ zs0, (Lit.int .u8 n).wf = true) (n0 : zs0.length * 1 ≤ 140737488351232) (hV : Vars w.heap.size w) :
    Calls Tryd.prog 6 #[v0] w fun e w' => e = .returned (.bool true) ∧ Below w.heap.size w w' := by
  obtain ⟨m, hm, hm2⟩ : ∃ m, m = min zs0.length 60 ∧ m ≤ zs0.length := ⟨_, rfl, by omega⟩
  obtain ⟨ao, cap, rfl, hlc, hN⟩ := nsAt_of_ints h0 z0 m hm2
  have hmI : min (zs0.length : Int) 60 = (m : Int) := by omega
  have hmc : m ≤ cap := by omega
  have HN := Lib.hid hN
  clear h0 hN hm
  obtain ⟨t, ns', hsec⟩ : ∃ t n, secM E0 6 0 ((byteL zs0).take m) = (t, n) := ⟨_, _, rfl⟩
  have hwf : wfT 13 t := by have := sec_wf good0 6 0 ((byteL zs0).take m); rw [hsec] at this; exact this
  have HS := fun (B bm : Nat) (w' : World) (h : MakerAt B bm E0 ((byteL zs0).take m) w') => secretly_all E0 6 B bm _ 0 w' (by omega) (by omega) h
  rw [hsec] at HS
  have Hwf := Lib.hid hwf
  have HTX := fun q => tight_text hwf q
  have hcat := cat3 (etext 13 t 0)
  have hbne := brackets_ne (etext 13 t 0)
  have ht7 := tightN_le t.op
  obtain ⟨b0, hb0⟩ : ∃ b, b = bstr (etext 13 t 0) := ⟨_, rfl⟩
  obtain ⟨b1, hb1⟩ : ∃ b, b = bstr ([40] ++ etext 13 t 0 ++ [41]) := ⟨_, rfl⟩
  rw [← hb1, ← hb0] at hcat hbne
  obtain ⟨K, hK⟩ : ∃ K, t.kind = K := ⟨_, rfl⟩
  have HT : ∀ q, Hid ((bstr (etext 13 t q) = b0 ∧ (K = 3 → ¬ tightN t.op < q)) ∨ (bstr (etext 13 t q) = b1 ∧ K = 3 ∧ tightN t.op < q)) := fun q => by rw [hb0, hb1, ← hK]; exact HTX q
  have HB0 := Lib.hid hb0
  have HK := Lib.hid hK
  have hbne2 : ¬ b0 = b1 := fun e => hbne e.symm
  have hq10 := str_ne hbne
  have hq01 := str_ne hbne2
  have hsz0 : b0.size ≤ 70368744177664 := by rw [hb0, bstr_size]; exact Nat.le_trans (etext_len _ _ _ hwf) pow13
  clear hsec hwf HTX hb0 hb1 hbne hbne2 hK
  by_cases h3 : K = 3
  · subst h3
    go_enter Tryd.func6, Tryd.ntmps6
    go_wp2_with (first
      | (go_at_call 8; refine (awake_any w hV).mono ?_; rintro e wA ⟨rfl, hbA⟩; have hM1 := Lib.hid (maker_new hbA.size (HN.out.on hbA.block)))
      | (go_at_call 10; refine (RX _ 0 b0 (by omega) HB0.out.symm _ (Below.refl _ _)).mono ?_; rintro e w4 ⟨rfl, hb4⟩)
      | (go_at_call 9; refine (HS _ _ _ hM1.out).mono ?_; rintro e w2 ⟨v2, rfl, hE2, hM2, hg2⟩; have hb2 : Below w.heap.size w w2 := (hbA.alloc hbA.size _).grown hg2 (by have := hbA.size; rw [alloc_size]; omega) (by intro k hk; cases hk; exact hbA.size); obtain ⟨_, kv2, hv2, kao2, kcap2, rfl, _, _⟩ := id hE2; rw [HK.out] at hv2; subst hv2; have RX := fun o => expr_rounds o hE2 Hwf.out pow13 hb2 hV; clear hM2 hE2))
    go_loopw [6] (fun i wr => ∃ k : Nat, k ≤ 10 ∧ i = .int .i64 k ∧ Below (w2.alloc (boxOf 3 t (.slice kao2 t.kids.length kcap2))).heap.size (w2.alloc (boxOf 3 t (.slice kao2 t.kids.length kcap2))) wr) (fun i _ => 10 - (intOf i).toNat)
    case atStart => exact ⟨0, by omega, rfl, hb4⟩
    case round =>
      obtain ⟨k, hk, rfl, hr⟩ := hrel
      obtain ⟨c0, c1, c2, c3, c4, c5⟩ := box_cells (rounds_box hr)
      have Hr := Lib.hid hr
      clear hr
      by_cases hk10 : k < 10
      · rcases (HT k).out with ⟨e, hn⟩ | ⟨e, h3', hlt⟩
        · cases k with
          | zero =>
            go_wp2_with (go_at_call 10; refine (RX _ (0) b0 (by omega) e wr Hr.out).mono ?_; rintro e w5 ⟨rfl, hb5⟩; have hr5 := rounds_on Hr.out hb5; clear c0 c1 c2 c3 c4 c5; obtain ⟨c0, c1, c2, c3, c4, c5⟩ := box_cells (rounds_box hr5))
            go_roundw
            case rel => exact ⟨1, by omega, by go_num, hr5⟩
            case measure => simp [intOf]
          | succ kp =>
            have e0 : bstr (etext 13 t kp) = b0 := by
              rcases (HT kp).out with ⟨e', _⟩ | ⟨_, h3', hlt'⟩
              · exact e'
              · exact absurd hlt' (by have := hn h3'; omega)
            clear hn
            go_wp2_with (first
              | (go_at_call 10; refine (RX _ (kp) b0 (by omega) e0 w5 hr5).mono ?_; rintro e w6 ⟨rfl, hb6⟩; have hr6 := rounds_on hr5 hb6)
              | (go_at_call 10; refine (RX _ (kp + 1) b0 (by omega) e wr Hr.out).mono ?_; rintro e w5 ⟨rfl, hb5⟩; have hr5 := rounds_on Hr.out hb5; clear c0 c1 c2 c3 c4 c5; obtain ⟨c0, c1, c2, c3, c4, c5⟩ := box_cells (rounds_box hr5)))
            go_roundw
            case rel => exact ⟨kp + 2, by omega, by go_num, hr6⟩
            case measure => simp [intOf]; omega
        · obtain ⟨kp, rfl⟩ : ∃ kp, k = kp + 1 := ⟨k - 1, by omega⟩
          clear h3'
          rcases (HT kp).out with ⟨e0, hx⟩ | ⟨e0, hx, _⟩
          all_goals clear hx
          · go_wp2_with (first
              | (go_at_call 10; refine (RX _ (kp) b0 (by omega) e0 w5 hr5).mono ?_; rintro e w6 ⟨rfl, hb6⟩; have hr6 := rounds_on hr5 hb6)
              | (go_at_call 10; refine (RX _ (kp + 1) b1 (by omega) e wr Hr.out).mono ?_; rintro e w5 ⟨rfl, hb5⟩; have hr5 := rounds_on Hr.out hb5; clear c0 c1 c2 c3 c4 c5; obtain ⟨c0, c1, c2, c3, c4, c5⟩ := box_cells (rounds_box hr5)))
            go_roundw
            case rel => exact ⟨kp + 2, by omega, by go_num, hr6⟩
            case measure => simp [intOf]; omega
          · go_wp2_with (first
              | (go_at_call 10; refine (RX _ (kp) b1 (by omega) e0 w5 hr5).mono ?_; rintro e w6 ⟨rfl, hb6⟩; have hr6 := rounds_on hr5 hb6)
              | (go_at_call 10; refine (RX _ (kp + 1) b1 (by omega) e wr Hr.out).mono ?_; rintro e w5 ⟨rfl, hb5⟩; have hr5 := rounds_on Hr.out hb5; clear c0 c1 c2 c3 c4 c5; obtain ⟨c0, c1, c2, c3, c4, c5⟩ := box_cells (rounds_box hr5)))
            go_roundw
            case rel => exact ⟨kp + 2, by omega, by go_num, hr6⟩
            case measure => simp [intOf]; omega
      · have h9 : bstr (etext 13 t 9) = b1 := by
          rcases (HT 9).out with ⟨_, hn⟩ | ⟨e', _, _⟩
          · exact absurd (show tightN t.op < 9 by omega) (by simpa using hn)
          · exact e'
        go_wp2_with (go_at_call 10; refine (RX _ (9) b1 (by omega) h9 wr Hr.out).mono ?_; rintro e w5 ⟨rfl, hb5⟩)
        go_ret
        exact ⟨rfl, (hb2.alloc hb2.size _).trans ((rounds_on Hr.out hb5).mono (Nat.le_trans hb2.size (by rw [alloc_size]; omega)))⟩
  · skip
    go_enter Tryd.func6, Tryd.ntmps6
    go_wp2_with (first
      | (go_at_call 8; refine (awake_any w hV).mono ?_; rintro e wA ⟨rfl, hbA⟩; have hM1 := Lib.hid (maker_new hbA.size (HN.out.on hbA.block)))
      | (go_at_call 10; refine (RX _ 0 b0 (by omega) HB0.out.symm _ (Below.refl _ _)).mono ?_; rintro e w4 ⟨rfl, hb4⟩)
      | (go_at_call 9; refine (HS _ _ _ hM1.out).mono ?_; rintro e w2 ⟨v2, rfl, hE2, hM2, hg2⟩; have hb2 : Below w.heap.size w w2 := (hbA.alloc hbA.size _).grown hg2 (by have := hbA.size; rw [alloc_size]; omega) (by intro k hk; cases hk; exact hbA.size); obtain ⟨_, kv2, hv2, kao2, kcap2, rfl, _, _⟩ := id hE2; rw [HK.out] at hv2; subst hv2; have RX := fun o => expr_rounds o hE2 Hwf.out pow13 hb2 hV; clear hM2 hE2))
    go_loopw [6] (fun i wr => ∃ k : Nat, k ≤ 10 ∧ i = .int .i64 k ∧ Below (w2.alloc (boxOf K t (.slice kao2 t.kids.length kcap2))).heap.size (w2.alloc (boxOf K t (.slice kao2 t.kids.length kcap2))) wr) (fun i _ => 10 - (intOf i).toNat)
    case atStart => exact ⟨0, by omega, rfl, hb4⟩
    case round =>
      obtain ⟨k, hk, rfl, hr⟩ := hrel
      obtain ⟨c0, c1, c2, c3, c4, c5⟩ := box_cells (rounds_box hr)
      have Hr := Lib.hid hr
      clear hr
      by_cases hk10 : k < 10
      · rcases (HT k).out with ⟨e, hn⟩ | ⟨e, h3', hlt⟩
        · cases k with
          | zero =>
            go_wp2_with (go_at_call 10; refine (RX _ (0) b0 (by omega) e wr Hr.out).mono ?_; rintro e w5 ⟨rfl, hb5⟩; have hr5 := rounds_on Hr.out hb5; clear c0 c1 c2 c3 c4 c5; obtain ⟨c0, c1, c2, c3, c4, c5⟩ := box_cells (rounds_box hr5))
            go_roundw
            case rel => exact ⟨1, by omega, by go_num, hr5⟩
            case measure => simp [intOf]
          | succ kp =>
            have e0 : bstr (etext 13 t kp) = b0 := by
              rcases (HT kp).out with ⟨e', _⟩ | ⟨_, h3', hlt'⟩
              · exact e'
              · exact absurd hlt' (by have := hn h3'; omega)
            clear hn
            go_wp2_with (first
              | (go_at_call 10; refine (RX _ (kp) b0 (by omega) e0 w5 hr5).mono ?_; rintro e w6 ⟨rfl, hb6⟩; have hr6 := rounds_on hr5 hb6)
              | (go_at_call 10; refine (RX _ (kp + 1) b0 (by omega) e wr Hr.out).mono ?_; rintro e w5 ⟨rfl, hb5⟩; have hr5 := rounds_on Hr.out hb5; clear c0 c1 c2 c3 c4 c5; obtain ⟨c0, c1, c2, c3, c4, c5⟩ := box_cells (rounds_box hr5)))
            go_roundw
            case rel => exact ⟨kp + 2, by omega, by go_num, hr6⟩
            case measure => simp [intOf]; omega
        · exact absurd h3' h3
      · go_wp2
        go_ret
        exact ⟨rfl, (hb2.alloc hb2.size _).trans (Hr.out.mono (Nat.le_trans hb2.size (by rw [alloc_size]; omega)))⟩
end Go.Proofs.YtbeflkadmehdlaaDoor
