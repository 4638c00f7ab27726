/- The walk of the statement LexAgain. Conditions: the package variables hold what their initialisers lay. -/
import Derived.Test.YtjnfjfihdachiaaGreatDoorLexJoin
import Derived.Test.YtjnfjfihdachiaaGreatDoorWSigns
import Derived.Test.YtjnfjfihdachiaaGreatDoorLexTokEq
namespace Go.Proofs.YtjnfjfihdachiaaGreatDoor
open Go.ChangeShapes Go.WideShapes Go.ChangeAt Go.RowKit
set_option linter.unusedVariables false

theorem again_long (a0 : ByteArray) (w : World) (n0 : a0.size ≤ 140737488351232) (hV : Vars w) (hl : 4000 < a0.size) :
    Calls Tryz.prog 4 #[.string a0] w fun e w' => e = .returned (.bool true) ∧ Below w.heap.size w w' := by
  have hl' : (4000 : Int) < (a0.size : Int) := by omega
  go_enter Tryz.func4, Tryz.ntmps4
  go_wp2_with (go_at_call 10; refine (awake_any _ hV).mono ?_; rintro e w1 ⟨rfl, hb1⟩)
  go_ret
  exact ⟨rfl, hb1⟩
theorem again_err (a0 : ByteArray) (n p : Nat) (w : World) (hs : a0.size ≤ 4000) (hV : Vars w) (HC : Hid (cutAll (bys a0) = .err n p)) :
    Calls Tryz.prog 4 #[.string a0] w fun e w' => e = .returned (.bool true) ∧ Below w.heap.size w w' := by
  have hm : a0.size ≤ maxLen := by unfold maxLen; omega
  go_enter Tryz.func4, Tryz.ntmps4
  go_wp2_with (first
    | (go_at_call 10; refine (awake_any _ hV).mono ?_; rintro e w1 ⟨rfl, hb1⟩; have hV1 := hV.grown hb1 hV.lt)
    | (go_at_call 11; refine (Go.Proofs.YtjnfjfihdachiaaGreatDoor.cut_err a0 n p _ hm hV1 HC).mono ?_; rintro e w2 ⟨fb, rfl, hf0, hf1, hb2⟩))
  go_ret
  exact ⟨rfl, hb1.trans (hb2.mono hb1.size)⟩

theorem spaced_take (ts : List Tok) : ∀ j, (spaced (ts.take j)).length ≤ (spaced ts).length := by
  intro j
  have e : spaced (ts.take j ++ ts.drop j) = spaced (ts.take j) ++ spaced (ts.drop j) := by simp only [spaced, List.flatMap_append]
  rw [List.take_append_drop] at e
  rw [e, List.length_append]; omega
theorem take_more' {ts : List Tok} {i : Nat} {t : Tok} (h : ts[i]? = some t) : ts.take (i + 1) = ts.take i ++ [t] := by
  obtain ⟨hi, e⟩ := List.getElem?_eq_some_iff.1 h
  rw [List.take_succ_eq_append_getElem hi, e]
/-- Block g holds these tokens, from number j on. -/
def RowFrom (w : World) (g : Nat) (ts : List Tok) (j : Nat) : Prop :=
  ∀ i t, j ≤ i → ts[i]? = some t → w.cell? ⟨g, i * 4, none⟩ = some (.int .i64 t.kind) ∧ w.cell? ⟨g, i * 4 + 1, none⟩ = some (.string (bstr t.text)) ∧ w.cell? ⟨g, i * 4 + 2, none⟩ = some (.int .u64 t.value) ∧ w.cell? ⟨g, i * 4 + 3, none⟩ = some (.int .i64 t.at_)
theorem addr_ne {b o b' o' : Nat} (h : b ≠ b' ∨ o ≠ o') : (⟨b, o, none⟩ : Addr) ≠ ⟨b', o', none⟩ := by
  intro e
  simp only [Addr.mk.injEq] at e
  rcases h with h | h
  · exact h e.1
  · exact h e.2.1
theorem row_set {w : World} {g g2 o : Nat} {u : Value} {ts : List Tok} (h : Row w g ts) (hne : g ≠ g2) : Row (w.setCell ⟨g2, o, none⟩ u) g ts := fun i t ht => by
  obtain ⟨a, b, c, d⟩ := h i t ht
  exact ⟨(World.cell?_setCell_other _ _ _ _ (addr_ne (Or.inl (Ne.symm hne)))).trans a, (World.cell?_setCell_other _ _ _ _ (addr_ne (Or.inl (Ne.symm hne)))).trans b, (World.cell?_setCell_other _ _ _ _ (addr_ne (Or.inl (Ne.symm hne)))).trans c, (World.cell?_setCell_other _ _ _ _ (addr_ne (Or.inl (Ne.symm hne)))).trans d⟩
theorem from_set {w : World} {g j : Nat} {u : Value} {ts : List Tok} (h : RowFrom w g ts j) : RowFrom (w.setCell ⟨g, j * 4 + 3, none⟩ u) g ts (j + 1) := fun i t hi ht => by
  obtain ⟨a, b, c, d⟩ := h i t (by omega) ht
  exact ⟨(World.cell?_setCell_other _ _ _ _ (addr_ne (Or.inr (by omega)))).trans a, (World.cell?_setCell_other _ _ _ _ (addr_ne (Or.inr (by omega)))).trans b, (World.cell?_setCell_other _ _ _ _ (addr_ne (Or.inr (by omega)))).trans c, (World.cell?_setCell_other _ _ _ _ (addr_ne (Or.inr (by omega)))).trans d⟩

set_option maxRecDepth 100000 in
set_option maxHeartbeats 8000000 in
theorem again_ok (a0 : ByteArray) (ts vs : List Tok) (w : World) (hs : a0.size ≤ 4000) (hV : Vars w) (HC : Hid (cutAll (bys a0) = .ok ts)) (hsp : (spaced ts).length ≤ 8001) (HV : Hid (cutAll (spaced ts) = .ok vs)) (HL : Hid (Alike ts vs)) :
    Calls Tryz.prog 4 #[.string a0] w fun e w' => e = .returned (.bool true) ∧ Below w.heap.size w w' := by
  have hm : a0.size ≤ maxLen := by unfold maxLen; omega
  obtain ⟨hlen, hlen2⟩ := cutAll_len HC.out
  have hvl : vs.length = ts.length := HL.out.length.symm
  have hG := tokG
  go_enter Tryz.func4, Tryz.ntmps4
  go_wp2_with (first
    | (go_at_call 10; refine (awake_any _ hV).mono ?_; rintro e w1 ⟨rfl, hb1⟩; have hV1 := hV.grown hb1 hV.lt)
    | (go_at_call 11; refine (Go.Proofs.YtjnfjfihdachiaaGreatDoor.cut_ok a0 ts _ hm hV1 HC).mono ?_; rintro e w2 ⟨g, cap, rfl, hrow, hg0, hg1, hcap, hfz, hb2⟩; have hV2 := hV1.grown hb2 hV1.lt))
  clear hfz
  go_loopw [5, 28] (fun v x wr => ∃ (j : Nat) (t : ByteArray), j ≤ ts.length ∧ x = .int .i64 j ∧ v = .string t ∧ t.size ≤ 8001 ∧ Below w2.heap.size w2 wr ∧ Hid (bys t = spaced (ts.take j)))
    (fun _ x _ => ts.length - (intOf x).toNat)
  case atStart => exact ⟨0, ⟨#[]⟩, Nat.zero_le _, rfl, rfl, by decide, Below.refl _ _, rfl⟩
  case round =>
    obtain ⟨j, t, hj, rfl, rfl, ht, hnx, HT⟩ := hrel
    have hrr := hrow.below hnx hg1
    by_cases hlt : j < ts.length
    · obtain ⟨k, hk⟩ : ∃ k, ts[j]? = some k := ⟨ts[j], List.getElem?_eq_getElem hlt⟩
      obtain ⟨c0, c1, c2, c3⟩ := hrr j k hk
      have htk := take_more' hk
      have hle := spaced_take ts (j + 1)
      rw [htk, spaced_snoc] at hle
      simp only [List.length_append, List.length_cons, List.length_nil] at hle
      have htl : t.size = (spaced (ts.take j)).length := by rw [← bys_length, HT.out]
      obtain ⟨tx, htx⟩ : ∃ x, x = bstr k.text := ⟨_, rfl⟩
      rw [← htx] at c1
      have hxl : tx.size = k.text.length := by rw [htx, bstr_size]
      obtain ⟨t1, add1, y1, z1⟩ := joined t ⟨#[32]⟩ (by show t.size + 1 ≤ _; omega)
      have z1' : t1.size = t.size + 1 := z1
      obtain ⟨t2, add2, y2, z2⟩ := joined t1 tx (by omega)
      have HN : Hid (bys t2 = spaced (ts.take (j + 1))) := by
        show _ = _
        rw [htk, spaced_snoc, y2, y1, HT.out, htx, bys_bstr]
      have hz : t2.size ≤ 8001 := by omega
      clear hrow hrr htk hle htl htx hxl y1 y2 z1 z1' z2 HT hk HV HL hvl
      go_wp2
      go_roundw
      case rel => exact ⟨j + 1, t2, by omega, by go_num, rfl, hz, hnx.alloc hnx.size _, HN⟩
      case measure => simp [intOf]; omega
    · obtain rfl : j = ts.length := by omega
      have HTF : Hid (cutAll (bys t) = .ok vs) := by
        show _ = _
        rw [HT.out, List.take_length]; exact HV.out
      have htm : t.size ≤ maxLen := by unfold maxLen; omega
      have hVr := hV2.grown hnx hV2.lt
      clear HT
      go_wp2_with (go_at_call 11; refine (Go.Proofs.YtjnfjfihdachiaaGreatDoor.cut_ok t vs _ htm hVr HTF).mono ?_; rintro e w3 ⟨g2, cap2, rfl, hrow2, hg20, hg21, hcap2, hfz2, hb3⟩)
      have hrow3 := hrr.below hb3 (Nat.lt_of_lt_of_le hg1 hnx.size)
      have hne : g ≠ g2 := by have := hnx.size; omega
      have b3 := ((hb1.trans (hb2.mono hb1.size)).trans (hnx.mono (Nat.le_trans hb1.size hb2.size))).trans (hb3.mono (Nat.le_trans hb1.size (Nat.le_trans hb2.size hnx.size)))
      have hg2w : w.heap.size ≤ g2 := by have := hb1.size; have := hb2.size; have := hnx.size; omega
      rw [hvl] at hcap2
      clear hrow hrr
      go_loopw [54] (fun x wr => ∃ j : Nat, j ≤ ts.length ∧ x = .int .i64 j ∧ Row wr g ts ∧ RowFrom wr g2 vs j ∧ (∀ o, wr.frozen? ⟨g2, o, none⟩ = false) ∧ Below w.heap.size w wr)
        (fun x _ => ts.length - (intOf x).toNat)
      case atStart => exact ⟨0, Nat.zero_le _, rfl, hrow3, fun i t _ ht => hrow2 i t ht, hfz2, b3⟩
      case round =>
        obtain ⟨j, hj, rfl, r1, r2, r3, r4⟩ := hrel
        by_cases hlt : j < ts.length
        · obtain ⟨k, hk⟩ : ∃ k, ts[j]? = some k := ⟨ts[j], List.getElem?_eq_getElem hlt⟩
          obtain ⟨v, hv⟩ : ∃ v, vs[j]? = some v := ⟨vs[j]'(by omega), List.getElem?_eq_getElem (by omega)⟩
          obtain ⟨k1, k2, k3⟩ := HL.out.get hk hv
          obtain ⟨c0, c1, c2, c3⟩ := r1 j k hk
          obtain ⟨d0, d1, d2, d3⟩ := r2 j v (Nat.le_refl _) hv
          rw [← k1] at d0
          rw [← k2] at d1
          rw [← k3] at d2
          obtain ⟨tx, htx⟩ : ∃ x, x = bstr k.text := ⟨_, rfl⟩
          rw [← htx] at c1 d1
          have f3 := r3 (j * 4 + 3)
          have htok := tok_same (k.kind : Int) (k.value : Int) (k.at_ : Int) tx
          have e0 := (World.cell?_setCell_other wr ⟨g2, j * 4 + 3, none⟩ ⟨g2, j * 4, none⟩ (.int .i64 k.at_) (addr_ne (Or.inr (by omega)))).trans d0
          have e1 := (World.cell?_setCell_other wr ⟨g2, j * 4 + 3, none⟩ ⟨g2, j * 4 + 1, none⟩ (.int .i64 k.at_) (addr_ne (Or.inr (by omega)))).trans d1
          have e2 := (World.cell?_setCell_other wr ⟨g2, j * 4 + 3, none⟩ ⟨g2, j * 4 + 2, none⟩ (.int .i64 k.at_) (addr_ne (Or.inr (by omega)))).trans d2
          have e3 := World.cell?_setCell_same wr ⟨g2, j * 4 + 3, none⟩ (.int .i64 k.at_) d3
          have q0 := (World.cell?_setCell_other wr ⟨g2, j * 4 + 3, none⟩ ⟨g, j * 4, none⟩ (.int .i64 k.at_) (addr_ne (Or.inl (Ne.symm hne)))).trans c0
          have q1 := (World.cell?_setCell_other wr ⟨g2, j * 4 + 3, none⟩ ⟨g, j * 4 + 1, none⟩ (.int .i64 k.at_) (addr_ne (Or.inl (Ne.symm hne)))).trans c1
          have q2 := (World.cell?_setCell_other wr ⟨g2, j * 4 + 3, none⟩ ⟨g, j * 4 + 2, none⟩ (.int .i64 k.at_) (addr_ne (Or.inl (Ne.symm hne)))).trans c2
          have q3 := (World.cell?_setCell_other wr ⟨g2, j * 4 + 3, none⟩ ⟨g, j * 4 + 3, none⟩ (.int .i64 k.at_) (addr_ne (Or.inl (Ne.symm hne)))).trans c3
          have R1 : Hid (Row (wr.setCell ⟨g2, j * 4 + 3, none⟩ (.int .i64 k.at_)) g ts) := row_set r1 hne
          have R2 : Hid (RowFrom (wr.setCell ⟨g2, j * 4 + 3, none⟩ (.int .i64 k.at_)) g2 vs (j + 1)) := from_set r2
          have R3 : Hid (∀ o, wr.frozen? ⟨g2, o, none⟩ = false) := r3
          have R4 := r4.setCell (p := ⟨g2, j * 4 + 3, none⟩) hg2w (.int .i64 k.at_)
          have hjc : j < cap := by omega
          have hjc2 : j < cap2 := by omega
          clear hk hv k1 k2 k3 htx r1 r2 r3 HL HV hrow2 hrow3 hfz2 c0 c1 c2 d0 d1 d2
          go_wp2
          go_quiet (fail)
          go_wp2
          go_roundw
          case rel => exact ⟨j + 1, by omega, by go_num, fun i t ht => R1.out i t ht, fun i t hi ht => R2.out i t hi ht, fun o => by show (wr.setCell _ _).frozen? _ = false; rw [World.frozen?_setCell]; exact R3.out o, below_drewN R4 _⟩
          case measure => simp [intOf]; omega
        · obtain rfl : j = ts.length := by omega
          clear HL HV hrow2 hrow3 hfz2 r1 r2 r3
          go_wp2
          go_ret
          exact ⟨rfl, r4⟩
theorem again_walk (a0 : ByteArray) (w : World) (n0 : a0.size ≤ 140737488351232) (hV : Vars w) :
    Calls Tryz.prog 4 #[.string a0] w fun e w' => e = .returned (.bool true) ∧ Below w.heap.size w w' := by
  by_cases hl : 4000 < a0.size
  · exact again_long a0 w n0 hV hl
  · cases h : cutAll (bys a0) with
    | ok ts =>
      obtain ⟨h1, vs, h2, h3⟩ := cut_again (by rw [bys_length]; omega) h
      exact again_ok a0 ts vs w (by omega) hV h h1 h2 h3
    | error np => exact again_err a0 np.1 np.2 w (by omega) hV h
end Go.Proofs.YtjnfjfihdachiaaGreatDoor
