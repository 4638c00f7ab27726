/- The walk of the statement LexCut, whole. Conditions: the package variables hold what their initialisers lay. -/
import Derived.Test.YtjnfjfihdachiaaGreatDoorWCut2
namespace Go.Proofs.YtjnfjfihdachiaaGreatDoor
open Go.ChangeShapes Go.WideShapes Go.ChangeAt Go.RowKit
set_option linter.unusedVariables false

set_option maxRecDepth 100000 in
set_option maxHeartbeats 8000000 in
theorem cutw_err (a0 : ByteArray) (no p : Nat) (w : World) (hs : a0.size ≤ 4000) (hV : Vars w) (HC : Hid (cutTok (bys a0) = .err no p)) :
    Calls Tryz.prog 3 #[.string a0] w fun e w' => e = .returned (.bool true) ∧ Below w.heap.size w w' := by
  have hm : a0.size ≤ maxLen := by unfold maxLen; omega
  have HA : Hid (cutAll (bys a0) = .err no p) := by rw [short_cut (by rw [bys_length]; omega)]; exact HC.out
  obtain ⟨m0, hm0⟩ : ∃ m, 0 + blanks false ((bys a0).drop 0) = m := ⟨_, rfl⟩
  have hm0s : m0 ≤ a0.size := by have := blanks_le false ((bys a0).drop 0); rw [List.length_drop, bys_length] at this; omega
  have HM0 : Hid (0 + blanks false ((bys a0).drop 0) = m0) := hm0
  have HC0 : Hid (cutTok (bys a0) = (goTok ((bys a0).length + 1) ((bys a0).drop m0) m0).pre []) := by
    show _ = _
    have e : blanks false (bys a0) = m0 := by rw [← hm0]; simp
    rw [Res.pre_nil, cutTok, e]
  clear hm0
  go_enter Tryz.func3, Tryz.ntmps3
  go_wp2_with (first
    | (go_at_call 10; refine (awake_any _ hV).mono ?_; rintro e w1 ⟨rfl, hb1⟩; have hV1 := hV.grown hb1 hV.lt)
    | (go_at_call 11; refine (Go.Proofs.YtjnfjfihdachiaaGreatDoor.cut_err a0 no p _ hm hV1 HA).mono ?_; rintro e w2 ⟨fb, rfl, hf0, hf1, hb2⟩; have hV2 := hV1.grown hb2 hV1.lt)
    | (go_at_call 12; refine (lawSkip_at a0 0 m0 _ (by omega) (by omega) HM0).mono ?_; rintro e w' ⟨rfl, hw'⟩; rw [hw']; clear hw' w'))
  have hfl := lt_of_block hf1
  go_loopw [5, 6] (fun v x wr => ∃ (k f i : Nat) (us : List Tok), k ≤ a0.size ∧ i ≤ k ∧ v = .int .i64 k ∧ x = .int .i64 i ∧ Below w2.heap.size w2 wr ∧ Hid ((bys a0).length - k < f ∧ cutTok (bys a0) = (goTok f ((bys a0).drop k) k).pre us))
    (fun v _ _ => a0.size - (intOf v).toNat)
  case atStart => exact ⟨m0, (bys a0).length + 1, 0, [], hm0s, Nat.zero_le _, rfl, rfl, Below.refl _ _, by omega, HC0.out⟩
  case round =>
    obtain ⟨k, f, i, us, hk, hik, rfl, rfl, hnx, HH⟩ := hrel
    clear HM0 HC0
    have hVr := hV2.grown hnx hV2.lt
    have hfr := (hnx.block fb hfl).trans hf1
    by_cases hlt : k < a0.size
    · cases hr : readTok ((bys a0).drop k) k with
      | none =>
        have HR : Hid (readTok ((bys a0).drop k) k = none) := hr
        have hpe : no = 1 ∧ p = k := by
          obtain ⟨hf, hc⟩ := HH.out
          obtain ⟨f', rfl⟩ : ∃ f', f = f' + 1 := ⟨f - 1, by omega⟩
          rw [HC.out, goTok_none (by rw [drop_cons a0 k hlt]; simp) hr] at hc
          simp only [Res.pre, Res.err, Except.error.injEq, Prod.mk.injEq] at hc
          exact hc
        obtain ⟨rfl, rfl⟩ := hpe
        clear hr HH
        have hfr' : wr.heap[fb]? = some (.cells #[.int .i64 (p : Int), .iface 35 (.int .i64 1)] 71 (0, 0)) := hfr
        have HFR : Hid _ := hfr'
        clear hfr hfr' hf1 HA HC
        go_wp2_with (first
          | (go_at_call 13; refine (next_none a0 p _ (by omega) hlt HR).mono ?_; rintro e w3 ⟨⟨x0, x2, x3, x1, rfl⟩, hb3⟩; have hV3 := (hVr.grown hb3 hVr.lt).alloc (.cells #[.int .i64 x0, .string x1, .int .u64 x2, .int .i64 x3] 32); have hf3 : (w3.alloc (.cells #[.int .i64 x0, .string x1, .int .u64 x2, .int .i64 x3] 32)).heap[fb]? = some (.cells #[.int .i64 (p : Int), .iface 35 (.int .i64 1)] 71 (0, 0)) := (Below.heap_alloc _ _ _ (Nat.lt_of_lt_of_le (lt_of_block HFR.out) hb3.size)).trans ((hb3.block fb (lt_of_block HFR.out)).trans HFR.out); have HF3 : Hid _ := hf3; clear hf3)
          | (go_at_call 14; refine (number_any fb _ _ _ hV3.1 HF3.out).mono ?_; rintro e w4 ⟨rfl, hb4⟩; have hV4 := hV3.grown hb4 hV3.lt; have HF4 : Hid _ := (hb4.block fb (lt_of_block HF3.out)).trans HF3.out)
          | (go_at_call 15; refine (place_any fb _ _ _ hV4.1 HF4.out).mono ?_; rintro e w5 ⟨rfl, hb5⟩))
        go_ret
        have b2 := (hb1.trans (hb2.mono hb1.size)).trans (hnx.mono (Nat.le_trans hb1.size hb2.size))
        have b3 := (b2.trans (hb3.mono b2.size)).alloc (Nat.le_trans b2.size hb3.size) (.cells #[.int .i64 x0, .string x1, .int .u64 x2, .int .i64 x3] 32)
        have b4 := b3.trans (hb4.mono b3.size)
        exact ⟨rfl, b4.trans (hb5.mono b4.size)⟩
      | some t =>
        have HR : Hid (readTok ((bys a0).drop k) k = some t) := hr
        obtain ⟨n, hn⟩ : ∃ n, t.text.length = n := ⟨_, rfl⟩
        obtain ⟨m, hm'⟩ : ∃ m, k + n + blanks false ((bys a0).drop (k + n)) = m := ⟨_, rfl⟩
        have hnn : 0 < n ∧ k + n ≤ a0.size := by
          obtain ⟨n', _, h1, h2, h3, _⟩ := readTok_some hr
          rw [List.length_drop, bys_length] at h2
          omega
        obtain ⟨hn0, hkn⟩ := hnn
        have hms : m ≤ a0.size := by have := blanks_le false ((bys a0).drop (k + n)); rw [List.length_drop, bys_length] at this; omega
        have HX : Hid (∃ f', (bys a0).length - m < f' ∧ cutTok (bys a0) = (goTok f' ((bys a0).drop m) m).pre (us ++ [t])) := next_round (by rw [bys_length]; exact hlt) HH.out.1 HH.out.2 hr hn hm'
        have HM : Hid (k + n + blanks false ((bys a0).drop (k + n)) = m) := hm'
        have hbn : (bstr t.text).size = n := by rw [bstr_size, hn]
        have hkm : k < m := by omega
        clear hr hn hm' HH hf1 hfr HA
        go_wp2_with (go_at_call 13; refine (next_some a0 k t _ (by omega) hlt HR).mono ?_; rintro e w3 ⟨rfl, hb3⟩)
        go_quiet (fail)
        go_wp2_with (go_at_call 12; refine (lawSkip_plus a0 k n m _ (by omega) hkn HM).mono ?_; rintro e w' ⟨rfl, rfl⟩)
        go_roundw
        case rel =>
          obtain ⟨f', hf', hc'⟩ := HX.out
          exact ⟨m, f', i + 1, us ++ [t], hms, by omega, rfl, by go_num, below_drewN ((hnx.trans (hb3.mono hnx.size)).alloc (Nat.le_trans hnx.size hb3.size) _) _, hf', hc'⟩
        case measure => simp [intOf]; omega
    · exfalso
      have hke : k = (bys a0).length := by rw [bys_length]; omega
      obtain ⟨hf, hc⟩ := HH.out
      obtain ⟨f', rfl⟩ : ∃ f', f = f' + 1 := ⟨f - 1, by omega⟩
      rw [HC.out, hke, List.drop_length, goTok_nil] at hc
      cases hc
theorem cut_walk (a0 : ByteArray) (w : World) (n0 : a0.size ≤ 140737488351232) (hV : Vars w) :
    Calls Tryz.prog 3 #[.string a0] w fun e w' => e = .returned (.bool true) ∧ Below w.heap.size w w' := by
  by_cases hl : 4000 < a0.size
  · exact cutw_long a0 w n0 hV hl
  · cases h : cutTok (bys a0) with
    | ok ts => exact cutw_ok a0 ts w (by omega) hV h
    | error np => exact cutw_err a0 np.1 np.2 w (by omega) hV h
end Go.Proofs.YtjnfjfihdachiaaGreatDoor
