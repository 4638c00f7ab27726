/- The walk of CostMore: on every list of numbers and every number it returns true. Conditions: lex's variables are as they are laid. -/
import Derived.Test.YtclmeachbojopaaGreatDoorGCoAw
import Derived.Test.YtclmeachbojopaaGreatDoorGCoC
import Derived.Test.YtclmeachbojopaaGreatDoorGWSmall
import Derived.Test.YtclmeachbojopaaGreatDoorGWMadeA
import Derived.Test.YtclmeachbojopaaGreatDoorGMakeZ
import Derived.Test.YtclmeachbojopaaGreatDoorGRegAll
import Derived.Test.YtclmeachbojopaaGreatDoorGPUnaryA
import Derived.Lib.MinMax
namespace Go.Proofs.YtclmeachbojopaaGreatDoor.Co
open Go.ChangeShapes Go.WideShapes Go.ChangeAt Go.RowKit
set_option linter.unusedVariables false
set_option linter.unusedSimpArgs false

theorem keep {w w' : World} {k : Nat} {o : Obj} (hb : Below w.heap.size w w') (h : w.heap[k]? = some o) : w'.heap[k]? = some o := (hb.block k (heap_lt h)).trans h
theorem ns_later {w w' : World} {v : Value} {ns : List UInt8} (h : NsAt w.heap.size w v ns) (hb : Below w.heap.size w w') : NsAt w'.heap.size w' v ns := by
  obtain ⟨a, b, c, d, e, f⟩ := h.on hb.block
  exact ⟨a, b, c, d, e, fun i x hx => by obtain ⟨g, off, h1, h2, h3⟩ := f i x hx; exact ⟨g, off, h1, by have := hb.size; omega, h3⟩⟩
theorem thrs_zero {lo m n : Nat} {w : World} {v : Value} {ts : List (List Stm)} (h : Thrs lo w.heap.size m n w v ts) : Thrs 0 w.heap.size m n w v ts := by
  obtain ⟨ao, cap, rfl, hl, h⟩ := h
  refine ⟨ao, cap, rfl, hl, fun i ss hs => ?_⟩
  obtain ⟨g, off, tao, tcap, e, hlo, hg, hc, h0, h1⟩ := h i ss hs
  exact ⟨g, off, tao, tcap, e, Nat.zero_le _, hg, hc, h0, lo_zero h1⟩
theorem prog_threads (a b : Option Addr) (n m c d : Nat) (w : World) : (Instr.field 27 (.agg #[.slice a n c, .slice b m d]) 1).run Tryz.prog w = .ok (.slice b m d) w := by kernel_rfl
theorem mul_le (c b : Nat) (hc : c < 256) (hb : b <= 1048577) : 0 <= ((1 : Int) + c) * (b + 4) /\ ((1 : Int) + c) * (b + 4) <= 268436736 := by
  refine ⟨Int.mul_nonneg (by omega) (by omega), ?_⟩
  calc ((1 : Int) + c) * (b + 4) <= 256 * (b + 4) := Int.mul_le_mul_of_nonneg_right (by omega) (by omega)
    _ <= 256 * (1048577 + 4) := Int.mul_le_mul_of_nonneg_left (by omega) (by omega)
    _ = 268436736 := by decide
set_option maxHeartbeats 4000000 in
set_option maxRecDepth 100000 in
theorem more_walk (v0 : Value) (zs0 : List Int) (x0 : Nat) (w : World) (h0 : IntsAt w .u8 v0 zs0) (z0 : ∀ n ∈ zs0, (Lit.int .u8 n).wf = true) (n0 : zs0.length * 1 <= 140737488351232) (hx0 : x0 < 256) (hL : Lx.Vars w) :
    Calls Tryz.prog 6 #[v0, .int .u8 (x0 : Int)] w fun e w' => e = .returned (.bool true) /\ Below w.heap.size w w' := by
  obtain ⟨m, hm, hm2⟩ : ∃ m, m = min zs0.length 40 /\ m <= zs0.length := ⟨_, rfl, by omega⟩
  obtain ⟨ao, cap, rfl, hlc, hN⟩ := nsAt_of_ints h0 z0 m hm2
  have hmI : min (zs0.length : Int) 40 = (m : Int) := by omega
  have hmc : m <= cap := by omega
  obtain ⟨ns, hns⟩ : ∃ ns, ns = (byteL zs0).take m := ⟨_, rfl⟩
  rw [<- hns] at hN
  obtain ⟨p, hp⟩ : ∃ p, p = makeM ns := ⟨_, rfl⟩
  have hG := Pr.made_gP ns
  have HM := fun (w' : World) (hb : Below w.heap.size w w') => make_any ao m cap m ns w' (ns_later hN hb) (by omega) hmc hmc (by omega)
  rw [<- hp] at HM hG
  obtain ⟨ss, hss⟩ : ∃ ss, p.threads[0]? = some ss := by
    have := hG.t1
    cases h : p.threads with
    | nil => rw [h] at this; simp at this
    | cons a l => exact ⟨a, rfl⟩
  have ht1 := hG.t1
  have hT := Lib.hid hss
  have hfd := prog_threads
  obtain ⟨b, hb0⟩ : ∃ b, bcost 13 5 ss = b := ⟨_, rfl⟩
  have hbE := Lib.hid hb0
  have hbl : b <= 1048577 := by rw [<- hb0]; exact bcost_le _ _ _
  clear hb0
  have H0 := awake_any w hL
  have hxm : Int.tmod (x0 : Int) 8 = ((x0 % 8 : Nat) : Int) := by rw [Int.tmod_eq_emod_of_nonneg (by omega)]; omega
  obtain ⟨x, hx⟩ : ∃ x, x0 % 8 = x := ⟨_, rfl⟩
  have hx8 : x < 8 := by omega
  rw [hx] at hxm
  clear hp hns hN hm hL hss hx
  go_enter Tryz.func6, Tryz.ntmps6
  go_wp2_with (first
    | (go_at_call 9; refine PB1.mono ?_; rintro e w3 ⟨rfl, hb3⟩)
    | (go_at_call 8; refine (HM _ hbA).mono ?_; rintro e w2 ⟨dv, tv, rfl, D2, T2, hb2⟩; obtain ⟨dao, dcap, rfl, _⟩ := id D2; replace T2 := thrs_zero T2; obtain ⟨tbo, tbc, rfl, _, hTh⟩ := id T2; obtain ⟨tg, toff, tao, tcap, rfl, _, htg, _, htc, hSs⟩ := hTh 0 ss hT.out; rw [Nat.add_zero] at htc; have PB1 := block_all 13 5 _ _ w2 hSs; rw [hbE.out] at PB1; have HSs := Lib.hid hSs; clear hTh D2 T2 hSs)
    | (go_at_call 7; refine H0.mono ?_; rintro e wA ⟨rfl, hbA⟩))
  have hbw3 : Below w.heap.size w w3 := (hbA.trans (hb2.mono hbA.size)).trans (hb3.mono (hbA.trans (hb2.mono hbA.size)).size)
  obtain ⟨A, hA⟩ : ∃ A, min (4 + (1 + x) * (b + 4)) 1048577 = A := ⟨_, rfl⟩
  obtain ⟨A2, hA2⟩ : ∃ A2, min (2 * A) 1048577 = A2 := ⟨_, rfl⟩
  have hAl : A <= 1048577 := by rw [<- hA]; exact Nat.min_le_right _ _
  obtain ⟨W, hW⟩ : ∃ W, W = w3.alloc (.cells #[.int .i64 4, .string ⟨#[122]⟩, .slice none 0 0, .int .i64 ((1 : Int) + (x : Int)), .slice tao ss.length tcap, .slice none 0 0, .int .i64 0] 34) := ⟨_, rfl⟩
  have hhW : W.heap[w3.heap.size]? = some (.cells #[.int .i64 4, .string ⟨#[122]⟩, .slice none 0 0, .int .i64 ((1 : Int) + (x : Int)), .slice tao ss.length tcap, .slice none 0 0, .int .i64 0] 34 (0, 0)) := by rw [hW]; exact heap_alloc_new _ _
  have hbW3 : Below w3.heap.size w3 W := by rw [hW]; exact (Below.refl _ _).alloc (Nat.le_refl _) _
  rw [<- hW]
  clear hW
  have hbW : Below w.heap.size w W := hbw3.trans (hbW3.mono hbw3.size)
  have hSS := stms_later (stms_later HSs.out hb3) hbW3
  have hrep := loop_rep (c := 1 + x) (nm := ⟨#[122]⟩) (a := 0) (by omega) (by decide) hSS
  have e1 : ((1 + x : Nat) : Int) = 1 + (x : Int) := by omega
  rw [e1] at hrep
  have hSc : scost 13 6 (loopS ⟨#[122]⟩ (1 + x) ss 0) = A := by rw [scost_loop 13 5 (1 + x) _ _ _ (by omega), hbE.out, hA]
  have PS := fun wr (hb : Below W.heap.size W wr) => stmt_all 13 6 _ _ wr (srep_later hrep hb)
  have PB := fun wr g (hb : Below W.heap.size W wr) hg => block_all 13 6 _ _ wr (stms_two (Below.refl wr.heap.size wr) (g := g) hg (srep_later hrep hb) (srep_later hrep hb))
  have hBc : bcost 13 6 [loopS ⟨#[122]⟩ (1 + x) ss 0, loopS ⟨#[122]⟩ (1 + x) ss 0] = A2 := by
    rw [<- hA2, <- hSc]
    show min (scost 13 6 _ + (scost 13 6 _ + 0)) 1048577 = _
    omega
  rw [hSc] at PS
  rw [hBc] at PB
  obtain ⟨hm0, hm1⟩ := mul_le x b (by omega) hbl
  have e2 : ((4 + (1 + x) * (b + 4) : Nat) : Int) = 4 + (1 + (x : Int)) * ((b : Int) + 4) := by push_cast; rfl
  have HA : Hid (min (4 + (1 + (x : Int)) * ((b : Int) + 4)) 1048577 = (A : Int)) := by
    show _ = _
    rw [<- e2, <- hA]
    generalize 4 + (1 + x) * (b + 4) = y
    omega
  have HA2 : Hid (min (2 * (A : Int)) 1048577 = (A2 : Int)) := by show _ = _; omega
  clear hrep hSc hBc hSS e1 e2 hA hA2 hbW3 hxm HSs hbE PB1 HM
  refine wp_region_mono (by kernel_rfl) (by kernel_rfl) (by kernel_rfl) (by kernel_rfl) (by kernel_rfl) (fun (i : Nat) (v : Value) (w : World) => match i with | 0 => v = .agg #[.int .i64 4, .string ⟨#[122]⟩, .slice none 0 0, .int .i64 ((1 : Int) + (x : Int)), .slice tao ss.length tcap, .slice none 0 0, .int .i64 0] | 1 => v = .int .i64 (A : Int) | 2 => v = .int .i64 ((1 : Int) + (x : Int)) | 3 => v = .int .i64 (b : Int) | 4 => v = .int .i64 ((b : Int) + 4) | 5 => v = .int .i64 (((1 : Int) + (x : Int)) * ((b : Int) + 4)) | 6 => v = .int .i64 (4 + ((1 : Int) + (x : Int)) * ((b : Int) + 4)) | 7 => v = .int .i64 (A : Int) | 8 => v = .bool true | 9 => v = .bool true | 10 => v = .agg #[.int .i64 4, .string ⟨#[122]⟩, .slice none 0 0, .int .i64 ((1 : Int) + (x : Int)), .slice tao ss.length tcap, .slice none 0 0, .int .i64 0] | 11 => v = .agg #[.int .i64 4, .string ⟨#[122]⟩, .slice none 0 0, .int .i64 ((1 : Int) + (x : Int)), .slice tao ss.length tcap, .slice none 0 0, .int .i64 0] | 12 => ∃ g, v = .slice (some ⟨g, 0, none⟩) 2 2 /\ w.heap[g]? = some (.cells #[.int .i64 4, .string ⟨#[122]⟩, .slice none 0 0, .int .i64 ((1 : Int) + (x : Int)), .slice tao ss.length tcap, .slice none 0 0, .int .i64 0, .int .i64 4, .string ⟨#[122]⟩, .slice none 0 0, .int .i64 ((1 : Int) + (x : Int)), .slice tao ss.length tcap, .slice none 0 0, .int .i64 0] 34 (0, 0)) | 13 => v = .int .i64 (A2 : Int) | 14 => v = .agg #[.int .i64 4, .string ⟨#[122]⟩, .slice none 0 0, .int .i64 ((1 : Int) + (x : Int)), .slice tao ss.length tcap, .slice none 0 0, .int .i64 0] | 15 => v = .int .i64 (A : Int) | 16 => v = .int .i64 (2 * (A : Int)) | 17 => v = .int .i64 (A2 : Int) | 18 => v = .bool true | 19 => v = .bool true | 20 => v = .bool true | _ => True) ?_ [(9, true)] (by kernel_rfl) ?_ ?_ ?_
  · intro i v w w' hb h
    match i with
    | 0 => exact h
    | 1 => exact h
    | 2 => exact h
    | 3 => exact h
    | 4 => exact h
    | 5 => exact h
    | 6 => exact h
    | 7 => exact h
    | 8 => exact h
    | 9 => exact h
    | 10 => exact h
    | 11 => exact h
    | 12 => exact ⟨h.choose, h.choose_spec.1, keep hb h.choose_spec.2⟩
    | 13 => exact h
    | 14 => exact h
    | 15 => exact h
    | 16 => exact h
    | 17 => exact h
    | 18 => exact h
    | 19 => exact h
    | 20 => exact h
    | _ + 21 => trivial
  · intro p hp v w h
    simp only [List.mem_cons, List.not_mem_nil, or_false] at hp
    subst hp
    exact h
  · intro a wr i op hop hb hF hP K hK
    have s6 : a.tmps[6]?.getD undef = .int .i64 ((1 : Int) + (x : Int)) := (hF 6 (by kernel_rfl)).trans rfl
    have s7 : a.tmps[7]?.getD undef = .int .i64 (b : Int) := (hF 7 (by kernel_rfl)).trans rfl
    have s8 : a.tmps[8]?.getD undef = .pointer (some ⟨w3.heap.size, 0, none⟩) := (hF 8 (by kernel_rfl)).trans rfl
    have hh' := keep hb hhW
    obtain ⟨q0, q1, q2, q3, q4, q5, q6⟩ := stmt_cells hh'
    match i with
    | 0 =>
      simp only [List.getElem?_toArray, List.getElem?_cons_zero, List.getElem?_cons_succ, Option.some.injEq] at hop
      subst hop
      go_simp
      exact hK _ _ (Below.refl _ _) fun _ => by first | rfl | exact wrap_val (by omega)
    | 1 =>
      simp only [List.getElem?_toArray, List.getElem?_cons_zero, List.getElem?_cons_succ, Option.some.injEq] at hop
      subst hop
      have n0 : a.tmps[29]?.getD undef = .agg #[.int .i64 4, .string ⟨#[122]⟩, .slice none 0 0, .int .i64 ((1 : Int) + (x : Int)), .slice tao ss.length tcap, .slice none 0 0, .int .i64 0] := hP 0 29 (by kernel_rfl) (by kernel_rfl)
      go_simp
      go_at_call 11
      refine (PS wr hb).mono ?_
      rintro e w1 ⟨rfl, hb1⟩
      go_simp
      exact hK _ _ hb1 fun _ => rfl
    | 2 =>
      simp only [List.getElem?_toArray, List.getElem?_cons_zero, List.getElem?_cons_succ, Option.some.injEq] at hop
      subst hop
      go_simp
      exact hK _ _ (Below.refl _ _) fun _ => by first | rfl | exact wrap_val (by omega)
    | 3 =>
      simp only [List.getElem?_toArray, List.getElem?_cons_zero, List.getElem?_cons_succ, Option.some.injEq] at hop
      subst hop
      go_simp
      exact hK _ _ (Below.refl _ _) fun _ => by first | rfl | exact wrap_val (by omega)
    | 4 =>
      simp only [List.getElem?_toArray, List.getElem?_cons_zero, List.getElem?_cons_succ, Option.some.injEq] at hop
      subst hop
      have n3 : a.tmps[32]?.getD undef = .int .i64 (b : Int) := hP 3 32 (by kernel_rfl) (by kernel_rfl)
      go_simp
      exact hK _ _ (Below.refl _ _) fun _ => by first | rfl | exact wrap_val (by omega)
    | 5 =>
      simp only [List.getElem?_toArray, List.getElem?_cons_zero, List.getElem?_cons_succ, Option.some.injEq] at hop
      subst hop
      have n2 : a.tmps[31]?.getD undef = .int .i64 ((1 : Int) + (x : Int)) := hP 2 31 (by kernel_rfl) (by kernel_rfl)
      have n4 : a.tmps[33]?.getD undef = .int .i64 ((b : Int) + 4) := hP 4 33 (by kernel_rfl) (by kernel_rfl)
      go_simp
      exact hK _ _ (Below.refl _ _) fun _ => by first | rfl | exact wrap_val (by omega)
    | 6 =>
      simp only [List.getElem?_toArray, List.getElem?_cons_zero, List.getElem?_cons_succ, Option.some.injEq] at hop
      subst hop
      have n5 : a.tmps[34]?.getD undef = .int .i64 (((1 : Int) + (x : Int)) * ((b : Int) + 4)) := hP 5 34 (by kernel_rfl) (by kernel_rfl)
      go_simp
      exact hK _ _ (Below.refl _ _) fun _ => by first | rfl | exact wrap_val (by omega)
    | 7 =>
      simp only [List.getElem?_toArray, List.getElem?_cons_zero, List.getElem?_cons_succ, Option.some.injEq] at hop
      subst hop
      have n6 : a.tmps[35]?.getD undef = .int .i64 (4 + ((1 : Int) + (x : Int)) * ((b : Int) + 4)) := hP 6 35 (by kernel_rfl) (by kernel_rfl)
      go_simp
      rw [HA.out]
      exact hK _ _ (Below.refl _ _) fun _ => by first | rfl | exact wrap_val (by omega)
    | 8 =>
      simp only [List.getElem?_toArray, List.getElem?_cons_zero, List.getElem?_cons_succ, Option.some.injEq] at hop
      subst hop
      have n1 : a.tmps[30]?.getD undef = .int .i64 (A : Int) := hP 1 30 (by kernel_rfl) (by kernel_rfl)
      have n7 : a.tmps[36]?.getD undef = .int .i64 (A : Int) := hP 7 36 (by kernel_rfl) (by kernel_rfl)
      go_simp
      exact hK _ _ (Below.refl _ _) fun _ => by first | rfl | exact wrap_val (by omega)
    | 9 =>
      simp only [List.getElem?_toArray, List.getElem?_cons_zero, List.getElem?_cons_succ, Option.some.injEq] at hop
      subst hop
      have n8 : a.tmps[37]?.getD undef = .bool true := hP 8 37 (by kernel_rfl) (by kernel_rfl)
      go_simp
      exact hK _ _ (Below.refl _ _) fun _ => by first | rfl | exact wrap_val (by omega)
    | 10 =>
      simp only [List.getElem?_toArray, List.getElem?_cons_zero, List.getElem?_cons_succ, Option.some.injEq] at hop
      subst hop
      go_simp
      exact hK _ _ (Below.refl _ _) fun _ => by first | rfl | exact wrap_val (by omega)
    | 11 =>
      simp only [List.getElem?_toArray, List.getElem?_cons_zero, List.getElem?_cons_succ, Option.some.injEq] at hop
      subst hop
      go_simp
      exact hK _ _ (Below.refl _ _) fun _ => by first | rfl | exact wrap_val (by omega)
    | 12 =>
      simp only [List.getElem?_toArray, List.getElem?_cons_zero, List.getElem?_cons_succ, Option.some.injEq] at hop
      subst hop
      have n10 : a.tmps[39]?.getD undef = .agg #[.int .i64 4, .string ⟨#[122]⟩, .slice none 0 0, .int .i64 ((1 : Int) + (x : Int)), .slice tao ss.length tcap, .slice none 0 0, .int .i64 0] := hP 10 39 (by kernel_rfl) (by kernel_rfl)
      have n11 : a.tmps[40]?.getD undef = .agg #[.int .i64 4, .string ⟨#[122]⟩, .slice none 0 0, .int .i64 ((1 : Int) + (x : Int)), .slice tao ss.length tcap, .slice none 0 0, .int .i64 0] := hP 11 40 (by kernel_rfl) (by kernel_rfl)
      go_simp
      exact hK _ _ ((Below.refl _ _).alloc (Nat.le_refl _) _) fun _ => ⟨wr.heap.size, rfl, heap_alloc_new _ _⟩
    | 13 =>
      simp only [List.getElem?_toArray, List.getElem?_cons_zero, List.getElem?_cons_succ, Option.some.injEq] at hop
      subst hop
      obtain ⟨g, n12, hg12⟩ : ∃ g, a.tmps[41]?.getD undef = .slice (some ⟨g, 0, none⟩) 2 2 /\ wr.heap[g]? = some (.cells #[.int .i64 4, .string ⟨#[122]⟩, .slice none 0 0, .int .i64 ((1 : Int) + (x : Int)), .slice tao ss.length tcap, .slice none 0 0, .int .i64 0, .int .i64 4, .string ⟨#[122]⟩, .slice none 0 0, .int .i64 ((1 : Int) + (x : Int)), .slice tao ss.length tcap, .slice none 0 0, .int .i64 0] 34 (0, 0)) := (hP 12 41 (by kernel_rfl) (by kernel_rfl))
      go_simp
      go_at_call 9
      refine (PB wr g hb hg12).mono ?_
      rintro e w1 ⟨rfl, hb1⟩
      go_simp
      exact hK _ _ hb1 fun _ => rfl
    | 14 =>
      simp only [List.getElem?_toArray, List.getElem?_cons_zero, List.getElem?_cons_succ, Option.some.injEq] at hop
      subst hop
      go_simp
      exact hK _ _ (Below.refl _ _) fun _ => by first | rfl | exact wrap_val (by omega)
    | 15 =>
      simp only [List.getElem?_toArray, List.getElem?_cons_zero, List.getElem?_cons_succ, Option.some.injEq] at hop
      subst hop
      have n14 : a.tmps[43]?.getD undef = .agg #[.int .i64 4, .string ⟨#[122]⟩, .slice none 0 0, .int .i64 ((1 : Int) + (x : Int)), .slice tao ss.length tcap, .slice none 0 0, .int .i64 0] := hP 14 43 (by kernel_rfl) (by kernel_rfl)
      go_simp
      go_at_call 11
      refine (PS wr hb).mono ?_
      rintro e w1 ⟨rfl, hb1⟩
      go_simp
      exact hK _ _ hb1 fun _ => rfl
    | 16 =>
      simp only [List.getElem?_toArray, List.getElem?_cons_zero, List.getElem?_cons_succ, Option.some.injEq] at hop
      subst hop
      have n15 : a.tmps[44]?.getD undef = .int .i64 (A : Int) := hP 15 44 (by kernel_rfl) (by kernel_rfl)
      go_simp
      exact hK _ _ (Below.refl _ _) fun _ => by first | rfl | exact wrap_val (by omega)
    | 17 =>
      simp only [List.getElem?_toArray, List.getElem?_cons_zero, List.getElem?_cons_succ, Option.some.injEq] at hop
      subst hop
      have n16 : a.tmps[45]?.getD undef = .int .i64 (2 * (A : Int)) := hP 16 45 (by kernel_rfl) (by kernel_rfl)
      go_simp
      rw [HA2.out]
      exact hK _ _ (Below.refl _ _) fun _ => by first | rfl | exact wrap_val (by omega)
    | 18 =>
      simp only [List.getElem?_toArray, List.getElem?_cons_zero, List.getElem?_cons_succ, Option.some.injEq] at hop
      subst hop
      have n13 : a.tmps[42]?.getD undef = .int .i64 (A2 : Int) := hP 13 42 (by kernel_rfl) (by kernel_rfl)
      have n17 : a.tmps[46]?.getD undef = .int .i64 (A2 : Int) := hP 17 46 (by kernel_rfl) (by kernel_rfl)
      go_simp
      exact hK _ _ (Below.refl _ _) fun _ => by first | rfl | exact wrap_val (by omega)
    | 19 =>
      simp only [List.getElem?_toArray, List.getElem?_cons_zero, List.getElem?_cons_succ, Option.some.injEq] at hop
      subst hop
      have n9 : a.tmps[38]?.getD undef = .bool true := hP 9 38 (by kernel_rfl) (by kernel_rfl)
      have n18 : a.tmps[47]?.getD undef = .bool true := hP 18 47 (by kernel_rfl) (by kernel_rfl)
      go_simp
      exact hK _ _ (Below.refl _ _) fun _ => by first | rfl | exact wrap_val (by omega)
    | 20 =>
      simp only [List.getElem?_toArray, List.getElem?_cons_zero, List.getElem?_cons_succ, Option.some.injEq] at hop
      subst hop
      have n19 : a.tmps[48]?.getD undef = .bool true := hP 19 48 (by kernel_rfl) (by kernel_rfl)
      go_simp
      exact hK _ _ (Below.refl _ _) fun _ => by first | rfl | exact wrap_val (by omega)
    | _ + 21 => simp at hop
  · intro V wz hbz hR
    have e20 : V 20 = .bool true := hR 20 (by kernel_rfl)
    have hfin := hbW.trans (hbz.mono hbW.size)
    clear hR PS PB HA HA2 hbz hbW hhW
    refine Pr.at_writeAll (Pr.pairs [29, 30, 31, 32, 33, 34, 35, 36, 37, 38, 39, 40, 41, 42, 43, 44, 45, 46, 47, 48, 4] V) (fun t => by kernel_rfl) ?_
    simp only [Pr.pairs, List.zipIdx, List.map, List.foldl, Nat.zero_add, Nat.reduceAdd, List.setIfInBounds_toArray, List.set_cons_zero, List.set_cons_succ, e20]
    go_wp2
    go_ret
    exact ⟨rfl, hfin⟩
end Go.Proofs.YtclmeachbojopaaGreatDoor.Co
