/- Lists of codes in memory; what Good and Values of package code answer. Conditions: the codes lie in memory. -/
import Derived.Test.YtjiecfagblijhaaDoorCdSound
import Derived.Lib.MinMax
namespace Go.Proofs.YtjiecfagblijhaaDoor.Cd
open Go.ChangeShapes Go.WideShapes Go.ChangeAt Go.RowKit
set_option linter.unusedVariables false
set_option linter.unusedSimpArgs false

def CodesAt (w : World) (v : Value) (cs : List Cd) : Prop :=
  ∃ ao cap, v = .slice ao cs.length cap ∧ cs.length ≤ 2199023255552 ∧ ∀ i x, cs[i]? = some x → x.fits ∧ ∃ g off, ao = some ⟨g, off, none⟩ ∧ g < w.heap.size ∧
    w.cell? ⟨g, off + i * 8, none⟩ = some (.int .i64 x.op) ∧ w.cell? ⟨g, off + i * 8 + 1, none⟩ = some (.int .i64 x.dop) ∧ w.cell? ⟨g, off + i * 8 + 2, none⟩ = some (.int .i64 x.to) ∧ w.cell? ⟨g, off + i * 8 + 3, none⟩ = some (.int .i64 x.a) ∧
    w.cell? ⟨g, off + i * 8 + 4, none⟩ = some (.int .i64 x.b) ∧ w.cell? ⟨g, off + i * 8 + 5, none⟩ = some (.int .i64 x.c) ∧ w.cell? ⟨g, off + i * 8 + 6, none⟩ = some (.int .u64 x.v) ∧ w.cell? ⟨g, off + i * 8 + 7, none⟩ = some (.int .i64 x.t)
theorem CodesAt.below {w w' : World} {v : Value} {cs : List Cd} (h : CodesAt w v cs) (hb : Below w.heap.size w w') : CodesAt w' v cs := by
  obtain ⟨ao, cap, hv, hl, hr⟩ := h
  refine ⟨ao, cap, hv, hl, fun i x hx => ?_⟩
  obtain ⟨hf, g, off, e, hg, p0, p1, p2, p3, p4, p5, p6, p7⟩ := hr i x hx
  have key : ∀ j u, w.cell? ⟨g, j, none⟩ = some u → w'.cell? ⟨g, j, none⟩ = some u := fun j u hu => (World.cell?_of_block (hb.block g hg)).trans hu
  exact ⟨hf, g, off, e, Nat.lt_of_lt_of_le hg hb.size, key _ _ p0, key _ _ p1, key _ _ p2, key _ _ p3, key _ _ p4, key _ _ p5, key _ _ p6, key _ _ p7⟩
theorem CodesAt.take {w : World} {ao : Option Addr} {n cap : Nat} {cs : List Cd} (h : CodesAt w (.slice ao n cap) cs) (k : Nat) (hk : k ≤ cs.length) : CodesAt w (.slice ao k cap) (cs.take k) := by
  obtain ⟨ao', cap', hv, hl, hr⟩ := h
  simp only [Value.slice.injEq] at hv
  obtain ⟨rfl, _, rfl⟩ := hv
  have e : (cs.take k).length = k := by rw [List.length_take]; omega
  refine ⟨ao, cap, by rw [e], by omega, fun i x hx => ?_⟩
  have hi : i < k := by
    have := (List.getElem?_eq_some_iff.1 hx).1
    omega
  rw [List.getElem?_take_of_lt hi] at hx
  exact hr i x hx

theorem uses_fits {x : Cd} (h : x.fits) : ∀ z ∈ usesP x, -9223372036854775808 ≤ z ∧ z ≤ 9223372036854775807 := by
  obtain ⟨_, _, _, ha, hb, hc, _, _⟩ := h
  intro z hz
  unfold usesP at hz
  repeat' split at hz
  all_goals simp at hz
  all_goals first | (rcases hz with rfl | rfl | rfl <;> assumption) | (rcases hz with rfl | rfl <;> assumption) | (subst hz; assumption)
theorem touched_fits {x : Cd} (h : x.fits) : ∀ z ∈ touchedP x, -9223372036854775808 ≤ z ∧ z ≤ 9223372036854775807 := by
  intro z hz
  rcases List.mem_append.1 hz with hz | hz
  · exact uses_fits h z hz
  · split at hz
    · simp at hz; subst hz; exact h.2.2.1
    · simp at hz

theorem good_last {cs : List Cd} {m : Nat} (hm : cs.length = m + 1) {x : Cd} (hx : cs[m]? = some x) : cs.getLast? = some x := by
  rw [List.getLast?_eq_getElem?, hm]; exact hx
theorem good_bad {cs : List Cd} {k : Nat} {x : Cd} (h : cs[k]? = some x) {n : Int} (hz : soundB x n = false) : cs.all (fun x => soundB x n) = false := by
  rw [Bool.eq_false_iff]
  intro e
  have := List.all_eq_true.1 e x (List.mem_of_getElem? h)
  rw [hz] at this; cases this

set_option maxHeartbeats 4000000 in
set_option maxRecDepth 100000 in
theorem good_any (cs : List Cd) (v : Value) (w : World) (h : CodesAt w v cs) : Calls Tryd.prog 16 #[v] w fun e w' => e = .returned (.bool (goodB cs)) ∧ Below w.heap.size w w' := by
  obtain ⟨ao, cap, rfl, hl, hr⟩ := h
  have HR := Lib.hid hr
  clear hr
  by_cases h0 : cs.length < 1
  · have e : goodB cs = false := by
      unfold goodB
      rw [decide_eq_false (by omega)]; rfl
    rw [e]
    obtain ⟨n, hn⟩ : ∃ n, n = cs.length := ⟨_, rfl⟩
    rw [← hn] at h0 hl ⊢
    clear hn HR
    go_enter Tryd.func16, Tryd.ntmps16
    go_wp2
    go_ret
    exact ⟨rfl, Below.refl _ _⟩
  by_cases h1 : 4096 < cs.length
  · have e : goodB cs = false := by
      unfold goodB
      rw [decide_eq_false (show ¬ cs.length ≤ 4096 by omega), Bool.and_false]; rfl
    rw [e]
    obtain ⟨n, hn⟩ : ∃ n, n = cs.length := ⟨_, rfl⟩
    rw [← hn] at h0 h1 hl ⊢
    clear hn HR
    go_enter Tryd.func16, Tryd.ntmps16
    go_wp2
    go_ret
    exact ⟨rfl, Below.refl _ _⟩
  obtain ⟨N, hN⟩ : ∃ N, cs.length = N := ⟨_, rfl⟩
  obtain ⟨m, hm⟩ : ∃ m, cs.length = m + 1 := ⟨cs.length - 1, by omega⟩
  obtain ⟨x, hx⟩ : ∃ x, cs[m]? = some x := ⟨cs[m], by simp [hm]⟩
  have hlast := good_last hm hx
  obtain ⟨_, g, off, rfl, hg, p0, p1, p2, p3, p4, p5, p6, p7⟩ := HR.out m x hx
  have e : goodB cs = (endB x.op && cs.all (fun x => soundB x (N : Int))) := by
    unfold goodB
    rw [decide_eq_true (show 0 < cs.length by omega), decide_eq_true (show cs.length ≤ 4096 by omega), hlast, hN]
    rfl
  rw [e]
  obtain rfl : m = N - 1 := by omega
  obtain ⟨op, hop⟩ : ∃ op, op = x.op := ⟨_, rfl⟩
  rw [← hop] at p0 ⊢
  rw [hN] at h0 h1 ⊢
  have HX := Lib.hid hx
  have HM := Lib.hid hN
  clear hop hx hm hN e hlast p1 p2 p3 p4 p5 p6 p7 hl
  by_cases e13 : op = 13
  · subst e13
    rw [show endB 13 = true from rfl, Bool.true_and]
    go_enter Tryd.func16, Tryd.ntmps16
    go_wp2
    go_loopw [29] (fun i wr => ∃ k : Nat, k ≤ N ∧ i = .int .i64 k ∧ (cs.take k).all (fun x => soundB x (N : Int)) = true ∧ Below w.heap.size w wr) (fun i _ => N - (intOf i).toNat)
    case atStart => exact ⟨0, Nat.zero_le _, rfl, rfl, Below.refl _ _⟩
    case round =>
      obtain ⟨k, hk, rfl, hj, hBr⟩ := hrel
      by_cases hlt : k < N
      · obtain ⟨y, hz⟩ : ∃ y, cs[k]? = some y := ⟨cs[k]'(by rw [HM.out]; exact hlt), by simp [HM.out, hlt]⟩
        obtain ⟨HF, g', off', e', hg', q0, q1, q2, q3, q4, q5, q6, q7⟩ := HR.out k y hz
        simp only [Option.some.injEq, Addr.mk.injEq] at e'
        obtain ⟨rfl, rfl, _⟩ := e'
        have key : ∀ j u, w.cell? ⟨g, j, none⟩ = some u → wr.cell? ⟨g, j, none⟩ = some u := fun j u hu => (World.cell?_of_block (hBr.block g hg')).trans hu
        replace q0 := key _ _ q0
        replace q1 := key _ _ q1
        replace q2 := key _ _ q2
        replace q3 := key _ _ q3
        replace q4 := key _ _ q4
        replace q5 := key _ _ q5
        replace q6 := key _ _ q6
        replace q7 := key _ _ q7
        clear key
        have PS := fun w1 => sound_any y (N : Int) w1
        obtain ⟨S, hS⟩ : ∃ S, S = soundB y (N : Int) := ⟨_, rfl⟩
        rw [← hS] at PS
        have HS := Lib.hid hS
        have HJ := Lib.hid hj
        have HZ := Lib.hid hz
        clear hS hj hz HF
        cases S with
        | false =>
          go_wp2_with (go_at_call 23; refine (PS _).mono ?_; rintro ed w4 ⟨rfl, hb4⟩)
          go_ret
          exact ⟨ret_bool (good_bad HZ.out HS.out.symm).symm, (hBr.alloc hBr.size _).trans (hb4.mono (by have := hBr.size; simp; omega))⟩
        | true =>
          go_wp2_with (go_at_call 23; refine (PS _).mono ?_; rintro ed w4 ⟨rfl, hb4⟩)
          go_roundw
          case rel => exact ⟨k + 1, by omega, by go_num, by rw [take_snoc' HZ.out, List.all_append, HJ.out]; simp [← HS.out], (hBr.alloc hBr.size _).trans (hb4.mono (by have := hBr.size; simp; omega))⟩
          case measure => simp [intOf]; omega
      · have he : cs.take k = cs := List.take_of_length_le (by rw [HM.out]; omega)
        rw [he] at hj
        have HJ := Lib.hid hj
        clear hj he
        go_wp2
        go_ret
        exact ⟨ret_bool HJ.out.symm, hBr⟩
  · by_cases e6 : op = 6
    · subst e6
      rw [show endB 6 = true from rfl, Bool.true_and]
      go_enter Tryd.func16, Tryd.ntmps16
      go_wp2
      go_loopw [29] (fun i wr => ∃ k : Nat, k ≤ N ∧ i = .int .i64 k ∧ (cs.take k).all (fun x => soundB x (N : Int)) = true ∧ Below w.heap.size w wr) (fun i _ => N - (intOf i).toNat)
      case atStart => exact ⟨0, Nat.zero_le _, rfl, rfl, Below.refl _ _⟩
      case round =>
        obtain ⟨k, hk, rfl, hj, hBr⟩ := hrel
        by_cases hlt : k < N
        · obtain ⟨y, hz⟩ : ∃ y, cs[k]? = some y := ⟨cs[k]'(by rw [HM.out]; exact hlt), by simp [HM.out, hlt]⟩
          obtain ⟨HF, g', off', e', hg', q0, q1, q2, q3, q4, q5, q6, q7⟩ := HR.out k y hz
          simp only [Option.some.injEq, Addr.mk.injEq] at e'
          obtain ⟨rfl, rfl, _⟩ := e'
          have key : ∀ j u, w.cell? ⟨g, j, none⟩ = some u → wr.cell? ⟨g, j, none⟩ = some u := fun j u hu => (World.cell?_of_block (hBr.block g hg')).trans hu
          replace q0 := key _ _ q0
          replace q1 := key _ _ q1
          replace q2 := key _ _ q2
          replace q3 := key _ _ q3
          replace q4 := key _ _ q4
          replace q5 := key _ _ q5
          replace q6 := key _ _ q6
          replace q7 := key _ _ q7
          clear key
          have PS := fun w1 => sound_any y (N : Int) w1
          obtain ⟨S, hS⟩ : ∃ S, S = soundB y (N : Int) := ⟨_, rfl⟩
          rw [← hS] at PS
          have HS := Lib.hid hS
          have HJ := Lib.hid hj
          have HZ := Lib.hid hz
          clear hS hj hz HF
          cases S with
          | false =>
            go_wp2_with (go_at_call 23; refine (PS _).mono ?_; rintro ed w4 ⟨rfl, hb4⟩)
            go_ret
            exact ⟨ret_bool (good_bad HZ.out HS.out.symm).symm, (hBr.alloc hBr.size _).trans (hb4.mono (by have := hBr.size; simp; omega))⟩
          | true =>
            go_wp2_with (go_at_call 23; refine (PS _).mono ?_; rintro ed w4 ⟨rfl, hb4⟩)
            go_roundw
            case rel => exact ⟨k + 1, by omega, by go_num, by rw [take_snoc' HZ.out, List.all_append, HJ.out]; simp [← HS.out], (hBr.alloc hBr.size _).trans (hb4.mono (by have := hBr.size; simp; omega))⟩
            case measure => simp [intOf]; omega
        · have he : cs.take k = cs := List.take_of_length_le (by rw [HM.out]; omega)
          rw [he] at hj
          have HJ := Lib.hid hj
          clear hj he
          go_wp2
          go_ret
          exact ⟨ret_bool HJ.out.symm, hBr⟩
    · have e : endB op = false := by simp [endB, e13, e6]
      rw [e, Bool.false_and]
      replace e13 : (op != 13) = true := by simpa using e13
      replace e6 : (op != 6) = true := by simpa using e6
      go_enter Tryd.func16, Tryd.ntmps16
      go_wp2
      go_ret
      exact ⟨rfl, Below.refl _ _⟩
end Go.Proofs.YtjiecfagblijhaaDoor.Cd
