/- What the statements' own 'same' answers: are two lists of numbers the same? Conditions: the lists lie in memory. -/
import Derived.Test.YtjiecfagblijhaaDoorCdUses
import Derived.BigQuiet
namespace Go.Proofs.YtjiecfagblijhaaDoor.Cd
open Go.ChangeShapes Go.WideShapes Go.ChangeAt Go.RowKit
set_option linter.unusedVariables false
set_option linter.unusedSimpArgs false

theorem below_drewq {B : Nat} {a w : World} (h : Below B a w) (q : Nat) : Below B a (w.drewN q) := ⟨h.os, h.tape, h.output, h.size, h.block⟩
theorem below_drew {k : Nat} {w w' : World} (h : Below k w w') : Below k w w'.drew := ⟨h.os, h.tape, h.output, h.size, h.block⟩
def NumsAt (w : World) (v : Value) (zs : List Int) : Prop :=
  ∃ ao cap, v = .slice ao zs.length cap ∧ zs.length ≤ maxLen ∧ ∀ k z, zs[k]? = some z → ∃ g, ao = some ⟨g, 0, none⟩ ∧ w.cell? ⟨g, k, none⟩ = some (.int .i64 z)
theorem Own.nums {w : World} {B : Nat} {v : Value} {zs : List Int} (h : Own w B v zs) : NumsAt w v zs := by
  obtain ⟨ao, cap, h1, h2, h3⟩ := h.form
  refine ⟨ao, cap, h1, h2, fun k z hz => ?_⟩
  obtain ⟨g, e, _, _, h4⟩ := h3 k z hz
  exact ⟨g, e, h4⟩
theorem take_two {α : Type} {xs ys : List α} {k : Nat} {a b : α} (h : xs[k]? = some a) (h' : ys[k]? = some b) (hk : xs.take k = ys.take k) (e : a = b) : xs.take (k + 1) = ys.take (k + 1) := by
  rw [List.take_add_one, List.take_add_one, h, h', hk, e]

set_option maxHeartbeats 4000000 in
set_option maxRecDepth 100000 in
theorem same_any (xs ys : List Int) (va vb : Value) (w : World) (ha : NumsAt w va xs) (hb : NumsAt w vb ys) :
    Calls Tryd.prog 12 #[va, vb] w fun e w' => e = .returned (.bool (decide (xs = ys))) ∧ Below w.heap.size w w' := by
  obtain ⟨ao, ca, rfl, hla, hra⟩ := ha
  obtain ⟨bo, cb, rfl, hlb, hrb⟩ := hb
  have HA := Lib.hid hra
  have HB := Lib.hid hrb
  clear hra hrb
  unfold maxLen at hla hlb
  by_cases hlen : xs.length = ys.length
  · obtain ⟨N, hN⟩ : ∃ N, xs.length = N := ⟨_, rfl⟩
    have hNb : ys.length = N := by omega
    rw [hN] at hla ⊢
    rw [hNb]
    have HNa := Lib.hid hN
    have HNb := Lib.hid hNb
    clear hN hNb hlen hlb
    go_enter Tryd.func12, Tryd.ntmps12
    go_wp2
    go_loopw [13] (fun i wr => ∃ k : Nat, k ≤ N ∧ i = .int .i64 k ∧ xs.take k = ys.take k ∧ Below w.heap.size w wr ∧ ∀ a, wr.cell? a = w.cell? a) (fun i _ => N - (intOf i).toNat)
    case atStart => exact ⟨0, Nat.zero_le _, rfl, rfl, Below.refl _ _, fun _ => rfl⟩
    case round =>
      obtain ⟨k, hk, rfl, hj, hBr, hcell⟩ := hrel
      by_cases hlt : k < N
      · obtain ⟨x, hx⟩ : ∃ x, xs[k]? = some x := ⟨xs[k]'(by rw [HNa.out]; exact hlt), by simp [HNa.out, hlt]⟩
        obtain ⟨y, hy⟩ : ∃ y, ys[k]? = some y := ⟨ys[k]'(by rw [HNb.out]; exact hlt), by simp [HNb.out, hlt]⟩
        obtain ⟨ga, rfl, ca0⟩ := HA.out k x hx
        obtain ⟨gb, rfl, cb0⟩ := HB.out k y hy
        rw [← hcell] at ca0 cb0
        have HX := Lib.hid hx
        have HY := Lib.hid hy
        have HJ := Lib.hid hj
        have HC := Lib.hid hcell
        clear hx hy hj hcell
        by_cases e : x = y
        · have HE := Lib.hid e
          subst e
          go_wp2
          go_quiet (fail)
          go_wp2
          go_roundw
          case rel => exact ⟨k + 1, by omega, by go_num, take_two HX.out HY.out HJ.out rfl, below_drewq hBr _, fun a => by rw [← HC.out]; rfl⟩
          case measure => simp [intOf]; omega
        · have HE := Lib.hid e
          have hd : (x != y) = true := by simpa using e
          clear e
          go_wp2
          go_quiet (fail)
          go_wp2
          go_ret
          exact ⟨ret_bool (decide_eq_false fun e => HE.out (by have h1 := HX.out; rw [e, HY.out] at h1; exact (Option.some.inj h1).symm)).symm, below_drewq hBr _⟩
      · have he : xs.take k = xs := List.take_of_length_le (by rw [HNa.out]; omega)
        have he' : ys.take k = ys := List.take_of_length_le (by rw [HNb.out]; omega)
        rw [he, he'] at hj
        have HJ := Lib.hid hj
        clear hj he he'
        go_wp2
        go_ret
        exact ⟨ret_bool (decide_eq_true HJ.out).symm, hBr⟩
  · have e : ¬ xs = ys := fun e => hlen (by rw [e])
    rw [decide_eq_false e]
    obtain ⟨N, hN⟩ : ∃ N, N = xs.length := ⟨_, rfl⟩
    obtain ⟨M, hM⟩ : ∃ M, M = ys.length := ⟨_, rfl⟩
    rw [← hN, ← hM] at hlen
    rw [← hN] at hla ⊢
    rw [← hM] at hlb ⊢
    have hd : ((N : Int) != (M : Int)) = true := by simpa using fun e : (N : Int) = (M : Int) => hlen (by omega)
    clear hN hM e HA HB
    go_enter Tryd.func12, Tryd.ntmps12
    go_wp2
    go_ret
    exact ⟨rfl, Below.refl _ _⟩
end Go.Proofs.YtjiecfagblijhaaDoor.Cd
