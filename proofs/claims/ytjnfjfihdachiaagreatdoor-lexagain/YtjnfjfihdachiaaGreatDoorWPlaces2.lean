/- The walk of the statement LexPlaces. Conditions: the package variables hold what their initialisers lay. -/
import Derived.Test.YtjnfjfihdachiaaGreatDoorWPlaces
import Derived.Deep.QuietTactic
import Derived.BigQuiet
namespace Go.Proofs.YtjnfjfihdachiaaGreatDoor
open Go.ChangeShapes Go.WideShapes Go.ChangeAt Go.RowKit
set_option linter.unusedVariables false

theorem below_drewN {B : Nat} {a w : World} (h : Below B a w) (n : Nat) : Below B a (w.drewN n) := ⟨h.os, h.tape, h.output, h.size, h.block⟩
set_option maxRecDepth 100000 in
set_option maxHeartbeats 4000000 in
theorem places_ok (a0 : ByteArray) (ts : List Tok) (w : World) (n0 : a0.size ≤ 140737488351232) (hV : Vars w) (HC : Hid (cutAll (bys a0) = .ok ts)) :
    Calls Tryz.prog 8 #[.string a0] w fun e w' => e = .returned (.bool true) ∧ Below w.heap.size w w' := by
  have hm : a0.size ≤ maxLen := by unfold maxLen; omega
  obtain ⟨hlen, hlen2⟩ := cutAll_len HC.out
  have hsz : 0 < ts.length := List.length_pos_iff.2 (cutAll_ne HC.out)
  go_enter Tryz.func8, Tryz.ntmps8
  go_wp2_with (first
    | (go_at_call 10; refine (awake_any _ hV).mono ?_; rintro e w1 ⟨rfl, hb1⟩; have hV1 := hV.grown hb1 hV.lt)
    | (go_at_call 11; refine (cut_ok a0 ts _ hm hV1 HC).mono ?_; rintro e w2 ⟨g, cap, rfl, hrow, hg0, hg1, hcap, hfz, hb2⟩))
  go_loopw [5, 22] (fun v i wr => ∃ (j k : Nat), j ≤ ts.length ∧ i = .int .i64 j ∧ v = .int .i64 k ∧ k ≤ a0.size ∧ Below w2.heap.size w2 wr ∧ Hid (Stand (bys a0) k (ts.drop j)))
    (fun _ i _ => ts.length - (intOf i).toNat)
  case atStart => exact ⟨0, 0, Nat.zero_le _, rfl, rfl, Nat.zero_le _, Below.refl _ _, (cutAll_stand HC.out).1⟩
  case round =>
    obtain ⟨j, k, hj, rfl, rfl, hk, hnx, HS⟩ := hrel
    have hrr := hrow.below hnx hg1
    by_cases hlt : j < ts.length
    · obtain ⟨t, ht⟩ : ∃ t, ts[j]? = some t := ⟨ts[j], List.getElem?_eq_getElem hlt⟩
      obtain ⟨c0, c1, c2, c3⟩ := hrr j t ht
      have p0 := HS.out.head ht
      obtain ⟨p1, p2, p3⟩ := ((cutAll_stand HC.out).1).drop ht
      rw [bys_length] at p1
      obtain ⟨at_, hat⟩ : ∃ n, n = t.at_ := ⟨_, rfl⟩
      obtain ⟨tx, htx⟩ : ∃ x, x = bstr t.text := ⟨_, rfl⟩
      obtain ⟨n, hn⟩ : ∃ n, n = t.text.length := ⟨_, rfl⟩
      have htn : tx.size = n := by rw [htx, bstr_size, hn]
      have hcut := cut_plus (s := a0) (t := tx) (k := at_) (n := n) (by omega) (by rw [htx, hat, hn, extract_bstr]; congr 1; rw [Nat.add_sub_cancel_left]; exact p2)
      rw [← hat, ← hn] at p3 p1
      rw [← hat] at p0 c3
      rw [← htx] at c1
      have HP : Hid (Stand (bys a0) (at_ + n) (ts.drop (j + 1))) := p3
      have d1 : decide (at_ < k) = false := decide_eq_false (by omega)
      have d2 : decide ((a0.size : Int) < (at_ : Int) + (n : Int)) = false := decide_eq_false (by omega)
      have d3 : decide (a0.size < at_ + n) = false := decide_eq_false (by omega)
      have hwr : IntKind.i64.wrap ((at_ : Int) + (n : Int)) = (at_ : Int) + (n : Int) := by rw [IntKind.wrap_i64]; omega
      clear hrow hrr p2 p3 hat htx hn ht hfz
      go_wp2
      go_quiet (fail)
      go_wp2
      go_roundw
      case rel => exact ⟨j + 1, at_ + n, by omega, by go_num, by go_num, by omega, below_drewN (hnx.alloc hnx.size _) _, HP⟩
      case measure => simp [intOf]; omega
    · obtain rfl : j = ts.length := by omega
      obtain ⟨us, e, he1, he2⟩ := (cutAll_stand HC.out).2
      obtain ⟨c0, c1, c2, c3⟩ := hrr us.length e (by rw [he1]; simp)
      rw [he2, bys_length] at c3
      have hul : ts.length = us.length + 1 := by rw [he1]; simp
      obtain ⟨m, hm2⟩ : ∃ m, m = us.length := ⟨_, rfl⟩
      rw [← hm2] at c3 hul
      have hi : ((ts.length : Int) - 1) = (m : Int) := by omega
      clear hrow hrr he1 he2 c0 c1 c2 hm2 hfz HS HC
      go_wp2
      go_ret
      exact ⟨rfl, (hb1.trans (hb2.mono hb1.size)).trans (hnx.mono (Nat.le_trans hb1.size hb2.size))⟩

theorem places_err (a0 : ByteArray) (n p : Nat) (w : World) (n0 : a0.size ≤ 140737488351232) (hV : Vars w) (HC : Hid (cutAll (bys a0) = .err n p)) :
    Calls Tryz.prog 8 #[.string a0] w fun e w' => e = .returned (.bool true) ∧ Below w.heap.size w w' := by
  have hm : a0.size ≤ maxLen := by unfold maxLen; omega
  go_enter Tryz.func8, Tryz.ntmps8
  go_wp2_with (first
    | (go_at_call 10; refine (awake_any _ hV).mono ?_; rintro e w1 ⟨rfl, hb1⟩; have hV1 := hV.grown hb1 hV.lt)
    | (go_at_call 11; refine (cut_err a0 n p _ hm hV1 HC).mono ?_; rintro e w2 ⟨fb, rfl, hf0, hf1, hb2⟩))
  go_ret
  exact ⟨rfl, hb1.trans (hb2.mono hb1.size)⟩
theorem places_walk (a0 : ByteArray) (w : World) (n0 : a0.size ≤ 140737488351232) (hV : Vars w) :
    Calls Tryz.prog 8 #[.string a0] w fun e w' => e = .returned (.bool true) ∧ Below w.heap.size w w' := by
  cases h : cutAll (bys a0) with
  | ok ts => exact places_ok a0 ts w n0 hV h
  | error np => exact places_err a0 np.1 np.2 w n0 hV h
end Go.Proofs.YtjnfjfihdachiaaGreatDoor
