/- What Values of package code answers. Conditions: the codes lie in memory. -/
import Derived.Test.YtjiecfagblijhaaDoorCdGood
namespace Go.Proofs.YtjiecfagblijhaaDoor.Cd
open Go.ChangeShapes Go.WideShapes Go.ChangeAt Go.RowKit
set_option linter.unusedVariables false
set_option linter.unusedSimpArgs false

def stepV (n : Int) (x : Cd) : Int := (touchedP x).foldl moreV n
def inI (n : Int) : Prop := -9223372036854775808 ≤ n ∧ n ≤ 9223372036854775807
theorem more_in {n v : Int} (h0 : inI n) (h1 : inI v) : inI (moreV n v) := by unfold inI moreV at *; omega
theorem fold_in {U : List Int} (hU : ∀ z ∈ U, inI z) : ∀ {n : Int}, inI n → inI (U.foldl moreV n) := by
  induction U with
  | nil => exact fun h => h
  | cons a r ih => exact fun h => ih (fun z hz => hU z (List.mem_cons_of_mem _ hz)) (more_in h (hU a (by simp)))
theorem vals_in {cs : List Cd} (hc : ∀ x ∈ cs, x.fits) : ∀ {n : Int}, inI n → inI (cs.foldl stepV n) := by
  induction cs with
  | nil => exact fun h => h
  | cons a r ih => exact fun h => ih (fun z hz => hc z (List.mem_cons_of_mem _ hz)) (fold_in (touched_fits (hc a (by simp))) h)

set_option maxHeartbeats 4000000 in
set_option maxRecDepth 100000 in
theorem values_any (cs : List Cd) (v : Value) (w : World) (h : CodesAt w v cs) : Calls Tryd.prog 17 #[v] w fun e w' => e = .returned (.int .i64 (valuesP cs)) ∧ Below w.heap.size w w' := by
  obtain ⟨ao, cap, rfl, hl, hr⟩ := h
  have hfits : ∀ x ∈ cs, x.fits := fun x hx => by
    obtain ⟨i, hi, rfl⟩ := List.getElem_of_mem hx
    exact (hr i _ (List.getElem?_eq_getElem hi)).1
  have HR := Lib.hid hr
  have HF := Lib.hid hfits
  clear hr hfits
  obtain ⟨N, hN⟩ : ∃ N, cs.length = N := ⟨_, rfl⟩
  rw [hN] at hl ⊢
  have HM := Lib.hid hN
  clear hN
  go_enter Tryd.func17, Tryd.ntmps17
  go_wp2
  go_loopw [3, 10] (fun n i wr => ∃ k : Nat, k ≤ N ∧ n = .int .i64 ((cs.take k).foldl stepV 0) ∧ i = .int .i64 k ∧ Below w.heap.size w wr) (fun n i _ => N - (intOf i).toNat)
  case atStart => exact ⟨0, Nat.zero_le _, rfl, rfl, Below.refl _ _⟩
  case round =>
    obtain ⟨k, hk, rfl, rfl, hBr⟩ := hrel
    by_cases hlt : k < N
    · obtain ⟨y, hz⟩ : ∃ y, cs[k]? = some y := ⟨cs[k]'(by rw [HM.out]; exact hlt), by simp [HM.out, hlt]⟩
      obtain ⟨hF, g, off, rfl, hg', q0, q1, q2, q3, q4, q5, q6, q7⟩ := HR.out k y hz
      have key : ∀ j u, w.cell? ⟨g, j, none⟩ = some u → wr.cell? ⟨g, j, none⟩ = some u := fun j u hu => (World.cell?_of_block (hBr.block g hg')).trans hu
      replace q0 := key _ _ q0
      replace q1 := key _ _ q1
      replace q2 := key _ _ q2
      replace q3 := key _ _ q3
      replace q4 := key _ _ q4
      replace q5 := key _ _ q5
      replace q6 := key _ _ q6
      replace q7 := key _ _ q7
      clear key
      have PT := fun w1 => touched_any y w1
      have hU4 := touched_len y
      have hUf := touched_fits hF
      have hn0 : inI ((cs.take k).foldl stepV 0) := vals_in (fun x hx => HF.out x (List.mem_of_mem_take hx)) ⟨by decide, by decide⟩
      have hnx : (cs.take (k + 1)).foldl stepV 0 = (touchedP y).foldl moreV ((cs.take k).foldl stepV 0) := by rw [take_snoc' hz, List.foldl_append]; rfl
      obtain ⟨U, hU⟩ : ∃ U, U = touchedP y := ⟨_, rfl⟩
      obtain ⟨nv, hnv⟩ : ∃ nv, nv = (cs.take k).foldl stepV 0 := ⟨_, rfl⟩
      rw [← hU] at PT hU4 hUf hnx
      rw [← hnv] at hn0 hnx ⊢
      have HU := Lib.hid hUf
      have HN0 := Lib.hid hn0
      have HNX := Lib.hid hnx
      clear hU hnv hUf hn0 hnx hz hF
      go_wp2_with (go_at_call 24; refine (PT _).mono ?_; rintro ed w4 ⟨v4, rfl, ho4, hb4⟩; obtain ⟨ao4, cap4, rfl, hm4, hc4⟩ := ho4.form; have HC := Lib.hid hc4; clear hc4)
      go_loop [3, 17] (fun n i => ∃ j : Nat, j ≤ U.length ∧ n = .int .i64 ((U.take j).foldl moreV nv) ∧ i = .int .i64 j) (fun n i => U.length - (intOf i).toNat)
      case atStart => exact ⟨0, Nat.zero_le _, rfl, rfl⟩
      case round =>
        obtain ⟨j, hj, rfl, rfl⟩ := hrel
        by_cases hjl : j < U.length
        · obtain ⟨z, hz⟩ : ∃ z, U[j]? = some z := ⟨U[j], by simp [hjl]⟩
          obtain ⟨g4, rfl, hg1, hg2, hcz⟩ := HC.out j z hz
          have hzi := HU.out z (List.mem_of_getElem? hz)
          have hni := fold_in (fun z hz => HU.out z (List.mem_of_mem_take hz)) (U := U.take j) HN0.out
          have hns : (U.take (j + 1)).foldl moreV nv = moreV ((U.take j).foldl moreV nv) z := by rw [take_snoc' hz, List.foldl_append]; rfl
          obtain ⟨m, hm⟩ : ∃ m, m = (U.take j).foldl moreV nv := ⟨_, rfl⟩
          rw [← hm] at hni hns ⊢
          obtain ⟨hz0, hz1⟩ := hzi
          obtain ⟨hm0, hm1⟩ := hni
          have HS := Lib.hid hns
          clear hm hns hz
          go_wp2
          go_round
          case rel => exact ⟨j + 1, by omega, by rw [HS.out]; rfl, by go_num⟩
          case measure => simp [intOf]; omega
        · have he : U.take j = U := List.take_of_length_le (by omega)
          rw [he]
          go_wp2
          go_roundw
          case rel => exact ⟨k + 1, by omega, by rw [HNX.out], by go_num, (hBr.alloc hBr.size _).trans (hb4.mono (by have := hBr.size; simp; omega))⟩
          case measure => simp [intOf]; omega
    · have he : cs.take k = cs := List.take_of_length_le (by rw [HM.out]; omega)
      rw [he]
      go_wp2
      go_ret
      exact ⟨rfl, hBr⟩
end Go.Proofs.YtjiecfagblijhaaDoor.Cd
