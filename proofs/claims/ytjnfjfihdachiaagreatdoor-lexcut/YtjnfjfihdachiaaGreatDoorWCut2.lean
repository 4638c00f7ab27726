/- The walk of the statement LexCut. Conditions: the package variables hold what their initialisers lay. -/
import Derived.Test.YtjnfjfihdachiaaGreatDoorWCut
import Derived.Test.YtjnfjfihdachiaaGreatDoorWPlaces2
import Derived.Deep.QuietTactic
import Derived.BigQuiet
namespace Go.Proofs.YtjnfjfihdachiaaGreatDoor
open Go.ChangeShapes Go.WideShapes Go.ChangeAt Go.RowKit
set_option linter.unusedVariables false

theorem cutw_long (a0 : ByteArray) (w : World) (n0 : a0.size ≤ 140737488351232) (hV : Vars w) (hl : 4000 < a0.size) :
    Calls Tryz.prog 3 #[.string a0] w fun e w' => e = .returned (.bool true) ∧ Below w.heap.size w w' := by
  have hl' : (4000 : Int) < (a0.size : Int) := by omega
  go_enter Tryz.func3, Tryz.ntmps3
  go_wp2_with (go_at_call 10; refine (awake_any _ hV).mono ?_; rintro e w1 ⟨rfl, hb1⟩)
  go_ret
  exact ⟨rfl, hb1⟩

set_option maxRecDepth 100000 in
set_option maxHeartbeats 8000000 in
theorem cutw_ok (a0 : ByteArray) (ts : List Tok) (w : World) (hs : a0.size ≤ 4000) (hV : Vars w) (HC : Hid (cutTok (bys a0) = .ok ts)) :
    Calls Tryz.prog 3 #[.string a0] w fun e w' => e = .returned (.bool true) ∧ Below w.heap.size w w' := by
  have hm : a0.size ≤ maxLen := by unfold maxLen; omega
  have HA : Hid (cutAll (bys a0) = .ok ts) := by rw [short_cut (by rw [bys_length]; omega)]; exact HC.out
  obtain ⟨hlen, hlen2⟩ := cutAll_len HA.out
  obtain ⟨m0, hm0⟩ : ∃ m, 0 + blanks false ((bys a0).drop 0) = m := ⟨_, rfl⟩
  have hm0s : m0 ≤ a0.size := by have := blanks_le false ((bys a0).drop 0); rw [List.length_drop, bys_length] at this; omega
  have HM0 : Hid (0 + blanks false ((bys a0).drop 0) = m0) := hm0
  have HC0 : Hid (cutTok (bys a0) = (goTok ((bys a0).length + 1) ((bys a0).drop m0) m0).pre (ts.take 0)) := by
    show _ = _
    have e : blanks false (bys a0) = m0 := by rw [← hm0]; simp
    rw [List.take_zero, Res.pre_nil, cutTok, e]
  have hG := tokG
  clear hm0
  go_enter Tryz.func3, Tryz.ntmps3
  go_wp2_with (first
    | (go_at_call 10; refine (awake_any _ hV).mono ?_; rintro e w1 ⟨rfl, hb1⟩; have hV1 := hV.grown hb1 hV.lt)
    | (go_at_call 11; refine (Go.Proofs.YtjnfjfihdachiaaGreatDoor.cut_ok a0 ts _ hm hV1 HA).mono ?_; rintro e w2 ⟨g, cap, rfl, hrow, hg0, hg1, hcap, hfz, hb2⟩)
    | (go_at_call 12; refine (lawSkip_at a0 0 m0 _ (by omega) (by omega) HM0).mono ?_; rintro e w' ⟨rfl, hw'⟩; rw [hw']; clear hw' w'))
  go_loopw [5, 6] (fun v x wr => ∃ (k f i : Nat), k ≤ a0.size ∧ i ≤ ts.length ∧ i ≤ k ∧ v = .int .i64 k ∧ x = .int .i64 i ∧ Below w2.heap.size w2 wr ∧ Hid ((bys a0).length - k < f ∧ cutTok (bys a0) = (goTok f ((bys a0).drop k) k).pre (ts.take i)))
    (fun v _ _ => a0.size - (intOf v).toNat)
  case atStart => exact ⟨m0, (bys a0).length + 1, 0, hm0s, Nat.zero_le _, Nat.zero_le _, rfl, rfl, Below.refl _ _, by omega, HC0.out⟩
  case round =>
    obtain ⟨k, f, i, hk, hi, hik, rfl, rfl, hnx, HH⟩ := hrel
    have hrr := hrow.below hnx hg1
    clear HM0 HC0 hrow hfz
    by_cases hlt : k < a0.size
    · cases hr : readTok ((bys a0).drop k) k with
      | none =>
        exfalso
        obtain ⟨hf, hc⟩ := HH.out
        obtain ⟨f', rfl⟩ : ∃ f', f = f' + 1 := ⟨f - 1, by omega⟩
        rw [HC.out, goTok_none (by rw [drop_cons a0 k hlt]; simp) hr] at hc
        cases hc
      | some t =>
        have HR : Hid (readTok ((bys a0).drop k) k = some t) := hr
        obtain ⟨hti, hilt⟩ := ok_round (by rw [bys_length]; exact hlt) HH.out.1 HC.out HH.out.2 hi hr
        obtain ⟨c0, c1, c2, c3⟩ := hrr i t hti
        obtain ⟨n, hn⟩ : ∃ n, t.text.length = n := ⟨_, rfl⟩
        obtain ⟨m, hm'⟩ : ∃ m, k + n + blanks false ((bys a0).drop (k + n)) = m := ⟨_, rfl⟩
        have hnn : 0 < n ∧ k + n ≤ a0.size := by
          obtain ⟨n', _, h1, h2, h3, _⟩ := readTok_some hr
          rw [List.length_drop, bys_length] at h2
          omega
        obtain ⟨hn0, hkn⟩ := hnn
        have hms : m ≤ a0.size := by have := blanks_le false ((bys a0).drop (k + n)); rw [List.length_drop, bys_length] at this; omega
        have HX : Hid (∃ f', (bys a0).length - m < f' ∧ cutTok (bys a0) = (goTok f' ((bys a0).drop m) m).pre (ts.take (i + 1))) := by
          have := next_round (by rw [bys_length]; exact hlt) HH.out.1 HH.out.2 hr hn hm'
          rw [take_more hti] at this
          exact this
        have HM : Hid (k + n + blanks false ((bys a0).drop (k + n)) = m) := hm'
        have hbn : (bstr t.text).size = n := by rw [bstr_size, hn]
        have hkm : k < m := by omega
        obtain ⟨tx, htx⟩ : ∃ x, x = bstr t.text := ⟨_, rfl⟩
        rw [← htx] at hbn c1
        have htok := tok_same (t.kind : Int) (t.value : Int) (t.at_ : Int) tx
        have hnext := next_some a0 k t
        rw [← htx] at hnext
        have HNX : Hid _ := hnext
        have hge : decide ((ts.length : Int) ≤ (i : Int)) = false := decide_eq_false (by omega)
        have hge2 : decide (ts.length ≤ i) = false := decide_eq_false (by omega)
        have hcell : ∀ (W : World), Below wr.heap.size wr W → W.cell? ⟨g, i * 4, none⟩ = some (.int .i64 t.kind) ∧ W.cell? ⟨g, i * 4 + 1, none⟩ = some (.string tx) ∧ W.cell? ⟨g, i * 4 + 2, none⟩ = some (.int .u64 t.value) ∧ W.cell? ⟨g, i * 4 + 3, none⟩ = some (.int .i64 t.at_) := fun W hW => by
          have hgl : g < wr.heap.size := Nat.lt_of_lt_of_le hg1 hnx.size
          exact ⟨(hW.cell (p := ⟨g, _, none⟩) hgl).trans c0, (hW.cell (p := ⟨g, _, none⟩) hgl).trans c1, (hW.cell (p := ⟨g, _, none⟩) hgl).trans c2, (hW.cell (p := ⟨g, _, none⟩) hgl).trans c3⟩
        have HCELL : Hid _ := hcell
        clear hr hn hm' HH hrr hti c0 c1 c2 c3 htx hnext hcell
        go_wp2_with (go_at_call 13; refine (HNX.out _ (by omega) hlt HR).mono ?_; rintro e w3 ⟨rfl, hb3⟩; obtain ⟨c0, c1, c2, c3⟩ := HCELL.out _ (hb3.alloc hb3.size (.cells #[.int .i64 t.kind, .string tx, .int .u64 t.value, .int .i64 t.at_] 32)))
        go_quiet (fail)
        go_wp2_with (go_at_call 12; refine (lawSkip_plus a0 k n m _ (by omega) hkn HM).mono ?_; rintro e w' ⟨rfl, rfl⟩)
        go_roundw
        case rel =>
          obtain ⟨f', hf', hc'⟩ := HX.out
          exact ⟨m, f', i + 1, hms, by omega, by omega, rfl, by go_num, below_drewN ((hnx.trans (hb3.mono hnx.size)).alloc (Nat.le_trans hnx.size hb3.size) _) _, hf', hc'⟩
        case measure => simp [intOf]; omega
    · have hke : k = (bys a0).length := by rw [bys_length]; omega
      obtain ⟨hl1, hl2⟩ := ok_end hke HH.out.1 HC.out HH.out.2 hi
      obtain ⟨c0, c1, c2, c3⟩ := hrr i _ hl2
      simp only [bys_length] at c3
      have hem : bstr [] = ⟨#[]⟩ := rfl
      rw [hem] at c1
      have htok := tok_same 0 0 (a0.size : Int) ⟨#[]⟩
      have hidx : (ts.length : Int) - 1 = (i : Int) := by omega
      have hpos : 0 < ts.length := by omega
      clear hrr HH hl2 hke
      go_wp2
      go_ret
      exact ⟨rfl, (hb1.trans (hb2.mono hb1.size)).trans (hnx.mono (Nat.le_trans hb1.size hb2.size))⟩
end Go.Proofs.YtjnfjfihdachiaaGreatDoor
