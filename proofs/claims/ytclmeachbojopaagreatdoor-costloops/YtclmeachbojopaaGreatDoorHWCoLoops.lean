/- The walk of CostLoops: on every list of numbers it returns true. Conditions: lex's and errors' variables are as they are laid. -/
import Derived.Test.YtclmeachbojopaaGreatDoorGCoAw
import Derived.Test.YtclmeachbojopaaGreatDoorGCoC
import Derived.Test.YtclmeachbojopaaGreatDoorGErrAll
import Derived.Test.YtclmeachbojopaaGreatDoorIntsFrame
import Derived.Lib.MinMax
namespace Go.Proofs.YtclmeachbojopaaGreatDoor.Co
open Go.ChangeShapes Go.WideShapes Go.ChangeAt Go.RowKit
set_option linter.unusedVariables false
set_option linter.unusedSimpArgs false

def fenceS (a : Int) : Stm := { kind := 8, name := ⟨#[]⟩, exprs := [], count := 0, body := [], els := [], at_ := a }
theorem fence_rep {m n : Nat} {w : World} {a : Int} : SRep 0 w.heap.size w m (n + 1) (.agg #[.int .i64 8, .string ⟨#[]⟩, .slice none 0 0, .int .i64 0, .slice none 0 0, .slice none 0 0, .int .i64 a]) (fenceS a) :=
  ⟨by simp [fenceS], by simp [fenceS], by show (⟨#[]⟩ : ByteArray).size <= _; decide, none, 0, none, 0, none, 0, rfl, kids_nil, stms0, stms0⟩
theorem fence_cost (m n : Nat) (a : Int) : bcost m (n + 1) [fenceS a] = 4 := by
  rw [bcost_one]; rfl
theorem getD_mem {zs : List Int} {k : Nat} (h : k < zs.length) : zs.getD k 0 ∈ zs := by
  rw [List.getD_eq_getElem?_getD, List.getElem?_eq_getElem h]
  exact List.getElem_mem h
theorem byte_of {z : Int} (h : (Lit.int .u8 z).wf = true) : ∃ c : Nat, z = c /\ c < 256 := by
  simp [Lit.wf] at h
  have h1 : IntKind.u8.min = 0 := rfl
  have h2 : IntKind.u8.max = 255 := rfl
  rw [h1, h2] at h
  exact ⟨z.toNat, by omega, by omega⟩
def LpInv (w : World) (k : Nat) (S : Stm) (v : Value) (c : Nat) (wr : World) : Prop :=
  (∃ ao cap, v = .slice ao 1 cap) /\ Stms 0 wr.heap.size wr (fun v' s' => SRep 0 wr.heap.size wr 0 (k + 1) v' s') v [S] /\ bcost 0 (k + 1) [S] = c /\ (k = 0 -> c = 4) /\ (0 < k -> S.at_ = 7) /\ Below w.heap.size w wr
theorem mul_le (c b : Nat) (hc : c < 256) (hb : b <= 1048577) : 0 <= ((1 : Int) + c) * (b + 4) /\ ((1 : Int) + c) * (b + 4) <= 268436736 := by
  refine ⟨Int.mul_nonneg (by omega) (by omega), ?_⟩
  calc ((1 : Int) + c) * (b + 4) <= 256 * (b + 4) := Int.mul_le_mul_of_nonneg_right (by omega) (by omega)
    _ <= 256 * (1048577 + 4) := Int.mul_le_mul_of_nonneg_left (by omega) (by omega)
    _ = 268436736 := by decide
theorem lp_start {w wA : World} (hb : Below w.heap.size w wA) : LpInv w 0 (fenceS 9) (.slice (some ⟨wA.heap.size, 0, none⟩) 1 1) 4 (wA.alloc (.cells #[.int .i64 8, .string ⟨#[]⟩, .slice none 0 0, .int .i64 0, .slice none 0 0, .slice none 0 0, .int .i64 9] 34)) :=
  ⟨⟨_, _, rfl⟩, stms_one ((Below.refl _ _).alloc (Nat.le_refl _) _) (heap_alloc_new _ _) fence_rep, fence_cost _ _ _, fun _ => rfl, fun h => by omega, hb.alloc hb.size _⟩
theorem lp_next {w wr : World} {k c x : Nat} {S : Stm} {ao : Option Addr} {cap : Nat} (h : LpInv w k S (.slice ao 1 cap) c wr) (hx : x < 256) :
    LpInv w (k + 1) (loopS ⟨#[105]⟩ (1 + x) [S] 7) (.slice (some ⟨wr.heap.size, 0, none⟩) 1 1) (min (4 + (1 + x) * (c + 4)) 1048577) (wr.alloc (.cells #[.int .i64 4, .string ⟨#[105]⟩, .slice none 0 0, .int .i64 (1 + (x : Int)), .slice ao 1 cap, .slice none 0 0, .int .i64 7] 34)) := by
  obtain ⟨_, hS, hc, _, _, hb⟩ := h
  refine ⟨⟨_, _, rfl⟩, ?_, ?_, fun h => by omega, fun _ => rfl, hb.alloc hb.size _⟩
  · have hr := loop_rep (c := 1 + x) (nm := ⟨#[105]⟩) (a := 7) (body := [S]) (by omega) (by decide) hS
    have e : ((1 + x : Nat) : Int) = 1 + (x : Int) := by omega
    rw [e] at hr
    exact stms_one ((Below.refl _ _).alloc (Nat.le_refl _) _) (heap_alloc_new _ _) hr
  · rw [bcost_one, scost_loop 0 (k + 1) (1 + x) _ _ _ (by omega), hc]
theorem tail_facts {w wr : World} {k c : Nat} {S : Stm} {ao : Option Addr} {cap : Nat} (h : LpInv w k S (.slice ao 1 cap) c wr) :
    (c <= 1048576 -> (Calls Tryz.prog 14 #[.agg #[.slice none 0 0, .slice (some ⟨wr.heap.size, 0, none⟩) 2 2]] (wr.alloc (.cells #[.slice none 0 0, .slice ao 1 cap] 29)) fun e w' => e = .returned .nilIface /\ Below (wr.alloc (.cells #[.slice none 0 0, .slice ao 1 cap] 29)).heap.size (wr.alloc (.cells #[.slice none 0 0, .slice ao 1 cap] 29)) w') /\
      ∀ w1, Below wr.heap.size wr w1 -> Calls Tryz.prog 9 #[.slice ao 1 cap] w1 fun e w' => e = .returned (.int .i64 (c : Int)) /\ Below w1.heap.size w1 w') /\
    (c = 1048577 -> (Calls Tryz.prog 14 #[.agg #[.slice none 0 0, .slice (some ⟨wr.heap.size, 0, none⟩) 2 2]] (wr.alloc (.cells #[.slice none 0 0, .slice ao 1 cap] 29)) fun e w' => ∃ fb, e = .returned (.iface 70 (.pointer (some ⟨fb, 0, none⟩))) /\ w'.heap[fb]? = some (.cells #[.int .i64 7, .iface 46 (.int .i64 6)] 73 (0, 0)) /\ Below (wr.alloc (.cells #[.slice none 0 0, .slice ao 1 cap] 29)).heap.size (wr.alloc (.cells #[.slice none 0 0, .slice ao 1 cap] 29)) w') /\
      ∀ w1, Below wr.heap.size wr w1 -> Calls Tryz.prog 9 #[.slice ao 1 cap] w1 fun e w' => e = .returned (.int .i64 1048577) /\ Below w1.heap.size w1 w') := by
  obtain ⟨_, hS, hc, hk0, hk7, hb⟩ := h
  have hT := thrs_two (W := wr.alloc (.cells #[.slice none 0 0, .slice ao 1 cap] 29)) ((Below.refl _ _).alloc (Nat.le_refl _) _) (heap_alloc_new _ _) (ss := []) (ts := [S]) stms0 hS
  refine ⟨fun h => ⟨check_ok none 0 0 _ _ _ hT fun j ss hj => ?_, fun w1 hb1 => ?_⟩, fun h => ⟨?_, fun w1 hb1 => ?_⟩⟩
  · match j with
    | 0 => simp at hj; subst hj; rw [bcost_nil]; omega
    | 1 => simp at hj; subst hj; omega
    | j + 2 => simp at hj
  · rw [<- hc]; exact block_all 0 (k + 1) _ _ w1 (stms_later hS hb1)
  · have := check_bad none 0 0 _ _ _ hT 1 S [] rfl (by omega) fun j ss hj1 hj => by
      obtain rfl : j = 0 := by omega
      simp at hj; subst hj; rw [bcost_nil]; omega
    rwa [hk7 (by omega)] at this
  · have := block_all 0 (k + 1) _ _ w1 (stms_later hS hb1)
    rwa [hc, h] at this
theorem keep {w w' : World} {k : Nat} {o : Obj} (hb : Below w.heap.size w w') (h : w.heap[k]? = some o) : w'.heap[k]? = some o := (hb.block k (heap_lt h)).trans h
set_option maxHeartbeats 4000000 in
set_option maxRecDepth 100000 in
theorem loops_walk (v0 : Value) (zs0 : List Int) (w : World) (h0 : IntsAt w .u8 v0 zs0) (z0 : ∀ n ∈ zs0, (Lit.int .u8 n).wf = true) (hL : Lx.Vars w) (hT : TypeVar w) :
    Calls Tryz.prog 4 #[v0] w fun e w' => e = .returned (.bool true) /\ Below w.heap.size w w' := by
  have H0 := awake_any w hL
  obtain ⟨ao0, cap0, rfl, hlc, hcm, hl, hi⟩ := h0
  have HI := Lib.hid hi
  have HT := Lib.hid hT
  clear hi hL hT
  unfold maxLen at hcm hl
  go_enter Tryz.func4, Tryz.ntmps4
  go_wp2_with (go_at_call 7; refine H0.mono ?_; rintro e wA ⟨rfl, hbA⟩; have HS := Lib.hid (lp_start hbA))
  go_loopw [3, 4, 15] (fun v wt i wr => ∃ (k : Nat) (S : Stm) (c : Nat), k <= 12 /\ k <= zs0.length /\ i = .int .i64 k /\ wt = .int .i64 (c : Int) /\ LpInv w k S v c wr) (fun _ _ i _ => zs0.length - (intOf i).toNat)
  case atStart => exact ⟨0, fenceS 9, 4, by omega, by omega, rfl, rfl, HS.out⟩
  case round =>
    obtain ⟨k, S, c, hk12, hk, rfl, rfl, hI⟩ := hrel
    obtain ⟨⟨ao, cap, rfl⟩, hS, hc, hk0, hk7, hbr⟩ := id hI
    have hcl : c <= 1048577 := by rw [<- hc]; exact bcost_le _ _ _
    have HIn := Lib.hid hI
    have hzr := hbr.size
    by_cases hgo : k < 12 /\ k < zs0.length
    · obtain ⟨hlt12, hlt⟩ := hgo
      obtain ⟨b, off, rfl, hbw, hcell⟩ := HI.out k hlt
      obtain ⟨x, hx, hx2⟩ := byte_of (z0 _ (getD_mem hlt))
      rw [hx] at hcell
      have hcell' := (hbr.cell (p := ⟨b, off + k, none⟩) hbw).trans hcell
      obtain ⟨hm0, hm1⟩ := mul_le x c hx2 hcl
      have HN := Lib.hid (lp_next HIn.out hx2)
      have hne12 : ¬ (k : Int) = 12 := by omega
      clear hS hc hk0 hk7 hI hcell hx
      go_wp2
      go_roundw
      case rel =>
        refine ⟨k + 1, _, _, by omega, by omega, by go_num, ?_, HN.out⟩
        have e : ((4 + (1 + x) * (c + 4) : Nat) : Int) = 4 + (1 + (x : Int)) * ((c : Int) + 4) := by push_cast; rfl
        rw [<- e]
        congr 1
        generalize 4 + (1 + x) * (c + 4) = y
        omega
      case measure => simp [intOf]; omega
    · have HN2 := Lib.hid (tail_facts hI)
      have TB := HT.out
      have hfin1 : ∀ {o : Obj} {w1 : World}, Below (wr.alloc o).heap.size (wr.alloc o) w1 -> Below w.heap.size w w1 := fun {o w1} h1 => (hbr.alloc hzr _).trans (h1.mono (by rw [alloc_size]; omega))
      have hfin2 : ∀ {o : Obj} {w1 w2 : World}, Below (wr.alloc o).heap.size (wr.alloc o) w1 -> Below w1.heap.size w1 w2 -> Below w.heap.size w w2 := fun {o w1 w2} h1 h2 => (hfin1 h1).trans (h2.mono (hfin1 h1).size)
      by_cases hcl2 : c <= 1048576
      · obtain ⟨hCk, hBk⟩ := HN2.out.1 hcl2
        have hcI : (c : Int) <= 1048576 := by omega
        clear hS hc hk0 hk7 hI
        by_cases hlt : k < zs0.length
        · obtain rfl : k = 12 := by omega
          obtain ⟨b, off, rfl, hbw, hcell⟩ := HI.out 12 hlt
          obtain ⟨x, hx, hx2⟩ := byte_of (z0 _ (getD_mem hlt))
          rw [hx] at hcell
          have hcell' := (hbr.cell (p := ⟨b, off + 12, none⟩) hbw).trans hcell
          clear hcell hx
          go_wp2_with (first | (go_at_call 9; refine (hBk _ (((Below.refl _ _).alloc (Nat.le_refl _) _).trans (hb1.mono (by simp)))).mono ?_; rintro e w2 ⟨rfl, hb2⟩) | (go_at_call 14; refine hCk.mono ?_; rintro e w1 ⟨rfl, hb1⟩))
          go_ret
          exact ⟨rfl, hfin2 hb1 hb2⟩
        · obtain rfl : k = zs0.length := by omega
          go_wp2_with (first | (go_at_call 9; refine (hBk _ (((Below.refl _ _).alloc (Nat.le_refl _) _).trans (hb1.mono (by simp)))).mono ?_; rintro e w2 ⟨rfl, hb2⟩) | (go_at_call 14; refine hCk.mono ?_; rintro e w1 ⟨rfl, hb1⟩))
          go_ret
          exact ⟨rfl, hfin2 hb1 hb2⟩
      · obtain ⟨hCk, hBk⟩ := HN2.out.2 (by omega)
        obtain rfl : c = 1048577 := by omega
        clear hS hc hk0 hk7 hI
        by_cases hlt : k < zs0.length
        · obtain rfl : k = 12 := by omega
          obtain ⟨b, off, rfl, hbw, hcell⟩ := HI.out 12 hlt
          obtain ⟨x, hx, hx2⟩ := byte_of (z0 _ (getD_mem hlt))
          rw [hx] at hcell
          have hcell' := (hbr.cell (p := ⟨b, off + 12, none⟩) hbw).trans hcell
          clear hcell hx
          go_wp2_with (first
            | (go_at_call 16; refine (place_any fb _ _ _ T3.out f3.out).mono ?_; rintro e w4 ⟨rfl, hb4⟩)
            | (go_at_call 15; refine (number_any fb _ _ _ T2.out f2.out).mono ?_; rintro e w3 ⟨rfl, hb3⟩; have T3 := Lib.hid (T2.out.below hb3); have f3 := Lib.hid (keep hb3 f2.out))
            | (go_at_call 9; refine (hBk _ (((Below.refl _ _).alloc (Nat.le_refl _) _).trans (hb1.mono (by simp)))).mono ?_; rintro e w2 ⟨rfl, hb2⟩; have T2 := Lib.hid ((HT.out.below (hfin1 hb1)).below hb2); have f2 := Lib.hid (keep hb2 f1.out))
            | (go_at_call 14; refine hCk.mono ?_; rintro e w1 ⟨fb, rfl, hf1, hb1⟩; have f1 := Lib.hid hf1; clear hf1))
          go_ret
          exact ⟨rfl, ((hfin2 hb1 hb2).trans (hb3.mono (hfin2 hb1 hb2).size)).trans (hb4.mono ((hfin2 hb1 hb2).trans (hb3.mono (hfin2 hb1 hb2).size)).size)⟩
        · obtain rfl : k = zs0.length := by omega
          go_wp2_with (first
            | (go_at_call 16; refine (place_any fb _ _ _ T3.out f3.out).mono ?_; rintro e w4 ⟨rfl, hb4⟩)
            | (go_at_call 15; refine (number_any fb _ _ _ T2.out f2.out).mono ?_; rintro e w3 ⟨rfl, hb3⟩; have T3 := Lib.hid (T2.out.below hb3); have f3 := Lib.hid (keep hb3 f2.out))
            | (go_at_call 9; refine (hBk _ (((Below.refl _ _).alloc (Nat.le_refl _) _).trans (hb1.mono (by simp)))).mono ?_; rintro e w2 ⟨rfl, hb2⟩; have T2 := Lib.hid ((HT.out.below (hfin1 hb1)).below hb2); have f2 := Lib.hid (keep hb2 f1.out))
            | (go_at_call 14; refine hCk.mono ?_; rintro e w1 ⟨fb, rfl, hf1, hb1⟩; have f1 := Lib.hid hf1; clear hf1))
          go_ret
          exact ⟨rfl, ((hfin2 hb1 hb2).trans (hb3.mono (hfin2 hb1 hb2).size)).trans (hb4.mono ((hfin2 hb1 hb2).trans (hb3.mono (hfin2 hb1 hb2).size)).size)⟩
end Go.Proofs.YtclmeachbojopaaGreatDoor.Co
