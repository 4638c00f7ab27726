/- Own texts laid together: CoPlain, CoExpr, CoStmt, CoInner, CoAll. Conditions: as each theorem says. -/
import Derived.Test.YtclmeachbojopaaGreatDoorGTreeB
import Derived.Test.YtclmeachbojopaaGreatDoorGBits
import Derived.Deep.QuietTactic
import Derived.BigQuiet
import Derived.RegionTactic
import Derived.Lib.QuietBelow
set_option linter.unusedVariables false
set_option linter.unusedSimpArgs false
namespace Go.Proofs.YtclmeachbojopaaGreatDoor.Co
def sumc {α : Type} (f : α -> Nat) (xs : List α) : Nat := min ((xs.map f).sum) 1048577
theorem sumc_le {α : Type} (f : α -> Nat) (xs : List α) : sumc f xs <= 1048577 := Nat.min_le_right _ _
theorem sumc_nil {α : Type} (f : α -> Nat) : sumc f [] = 0 := rfl
theorem sumc_snoc {α : Type} (f : α -> Nat) (xs : List α) (k : Nat) (x : α) (h : xs[k]? = some x) : sumc f (xs.take (k + 1)) = min (sumc f (xs.take k) + f x) 1048577 := by
  have e : xs.take (k + 1) = xs.take k ++ [x] := by rw [List.take_add_one, h]; rfl
  unfold sumc
  rw [e, List.map_append, List.sum_append, List.map_singleton, List.sum_singleton]
  omega
theorem sum_take_le {α : Type} (f : α -> Nat) : ∀ (xs : List α) (k : Nat), ((xs.take k).map f).sum <= (xs.map f).sum
  | [], k => by simp
  | x :: xs, 0 => by simp
  | x :: xs, k + 1 => by
    have := sum_take_le f xs k
    simp only [List.take_succ_cons, List.map_cons, List.sum_cons]
    omega
theorem sumc_full {α : Type} (f : α -> Nat) (xs : List α) (k : Nat) (h : 1048577 <= sumc f (xs.take k)) : sumc f xs = 1048577 := by
  have := sum_take_le f xs k
  unfold sumc at *
  omega
def ecost : Nat -> Tree -> Nat
  | 0, _ => 0
  | n + 1, t => min (1 + sumc (ecost n) t.kids) 1048577
theorem ecost_le : ∀ (n : Nat) (t : Tree), ecost n t <= 1048577
  | 0, _ => by simp [ecost]
  | n + 1, t => Nat.min_le_right _ _
def rounds (count : Int) : Nat := min count.toNat 256
def innerc (kind count : Int) (b : Nat) : Nat := if kind = 4 then rounds count * (4 + b) else b
theorem rounds_le (count : Int) : rounds count <= 256 := Nat.min_le_right _ _
theorem innerc_le (kind count : Int) (b : Nat) (h : b <= 1048577) : innerc kind count b <= 268436736 := by
  unfold innerc
  split
  · calc rounds count * (4 + b) <= 256 * (4 + 1048577) := Nat.mul_le_mul (rounds_le _) (by omega)
      _ = 268436736 := by decide
  · omega
def two (a b : Nat) : Nat := min (a + b) 1048577
def scost (m : Nat) : Nat -> Stm -> Nat
  | 0, _ => 0
  | n + 1, s => min (4 + sumc (ecost m) s.exprs + innerc s.kind s.count (two (sumc (scost m n) s.body) (sumc (scost m n) s.els))) 1048577
theorem scost_le (m : Nat) : ∀ (n : Nat) (s : Stm), scost m n s <= 1048577
  | 0, _ => by simp [scost]
  | n + 1, t => Nat.min_le_right _ _
def bcost (m n : Nat) (ss : List Stm) : Nat := sumc (scost m n) ss
end Go.Proofs.YtclmeachbojopaaGreatDoor.Co
namespace Go.Proofs.YtclmeachbojopaaGreatDoor.Co
open Go.ChangeShapes Go.WideShapes Go.ChangeAt Go.RowKit
theorem atMost_lo (n : Int) (w : World) (h : n <= 1048577) : Calls Tryz.prog 22 #[.int .i64 n] w fun e w' => e = .returned (.int .i64 n) /\ w' = w := by
  go_enter Tryz.func22, Tryz.ntmps22
  go_wp2
  go_ret
  exact ⟨rfl, rfl⟩
theorem atMost_hi (n : Int) (w : World) (h : 1048577 < n) : Calls Tryz.prog 22 #[.int .i64 n] w fun e w' => e = .returned (.int .i64 1048577) /\ w' = w := by
  go_enter Tryz.func22, Tryz.ntmps22
  go_wp2
  go_ret
  exact ⟨rfl, rfl⟩
theorem ret_int {a b : Int} (h : a = b) : Ending.returned (.int .i64 a) = .returned (.int .i64 b) := by rw [h]
theorem kids_later {lo n : Nat} {w w' : World} {kv : Value} {ks : List Tree} (h : Kids lo w.heap.size w (fun v' t' => ERep lo w.heap.size w n v' t') kv ks) (hb : Below w.heap.size w w') : Kids lo w'.heap.size w' (fun v' t' => ERep lo w'.heap.size w' n v' t') kv ks :=
  h.carry (Nat.le_refl _) hb.size (Same35.of_below hb) fun _ _ hr => hr.mono hb.size hb
def ECost (lo n : Nat) : Prop := ∀ (v : Value) (t : Tree) (w : World), ERep lo w.heap.size w n v t ->
  Calls Tryz.prog 12 #[v] w fun e w' => e = .returned (.int .i64 (ecost n t : Nat)) /\ Below w.heap.size w w'

set_option maxHeartbeats 2000000 in
set_option maxRecDepth 100000 in
theorem sumE_of {lo n : Nat} (ih : ECost lo n) (kv : Value) (ks : List Tree) (w : World) (hK : Kids lo w.heap.size w (fun v' t' => ERep lo w.heap.size w n v' t') kv ks) :
    Calls Tryz.prog 23 #[.func (.func 12) #[] #[], kv] w fun e w' => e = .returned (.int .i64 (sumc (ecost n) ks : Nat)) /\ Below w.heap.size w w' := by
  have HK := Lib.hid hK
  obtain ⟨ao, cap, rfl, hl, _⟩ := hK
  go_enter Tryz.func23, Tryz.ntmps23
  go_wp2
  go_loopw [5, 10] (fun s i wr => ∃ k : Nat, k <= ks.length /\ i = .int .i64 k /\ s = .int .i64 (sumc (ecost n) (ks.take k) : Nat) /\ Below w.heap.size w wr) (fun _ i _ => ks.length - (intOf i).toNat)
  case atStart => exact ⟨0, Nat.zero_le _, rfl, by simp [sumc_nil], Below.refl _ _⟩
  case round =>
    obtain ⟨k, hk, rfl, rfl, hbr⟩ := hrel
    have hzr := hbr.size
    by_cases hlt : k < ks.length
    · obtain ⟨x, hx⟩ : ∃ x, ks[k]? = some x := ⟨ks[k], by simp [hlt]⟩
      obtain ⟨_, _, e, _, hKr⟩ := HK.out.on hbr
      cases e
      obtain ⟨g, off, c0, c1, c2, c3, c4, c5, rfl, _, hg, _, h0, h1, h2, h3, h4, h5, hr⟩ := hKr k x hx
      have hgr : g < wr.heap.size := by omega
      have hR := Lib.hid hr
      cases n with
      | zero => exact hr.elim
      | succ n =>
      obtain ⟨hv1, kvx, hv, kax, kcx, rfl, _, _⟩ := hr
      simp only [Value.agg.injEq, Array.mk.injEq, List.cons.injEq, and_true] at hv
      obtain ⟨rfl, rfl, rfl, rfl, rfl, rfl⟩ := hv
      have P : ∀ o, Calls Tryz.prog 12 #[.agg #[.int .i64 x.kind, .int .i64 x.op, .string x.name, .int .u64 x.value, .slice kax x.kids.length kcx, .int .i64 x.at_]] (wr.alloc o) _ := fun o =>
        ih _ x (wr.alloc o) (hR.out.mono (by rw [alloc_size]; omega) ((Below.refl _ _).alloc (by omega) o))
      have HS := Lib.hid (sumc_snoc (ecost (n + 1)) ks k x hx)
      have hle := sumc_le (ecost (n + 1)) (ks.take k)
      have hcl := ecost_le (n + 1) x
      have HF := fun h => sumc_full (ecost (n + 1)) ks (k + 1) h
      clear hKr hx
      generalize sumc (ecost (n + 1)) (ks.take k) = s at HS hle ⊢
      generalize ecost (n + 1) x = c at HS hcl P ⊢
      by_cases hs : s + c <= 1048576
      · have hs0 : ((s : Int) + c) <= 1048577 := by omega
        have hs1 : ¬ ((s : Int) + c) = 1048577 := by omega
        go_wp2_with (first | (go_at_call 22; refine (atMost_lo _ _ hs0).mono ?_; rintro e w2 ⟨rfl, rfl⟩) | (go_at_call 12; refine (P _).mono ?_; rintro e w1 ⟨rfl, hb1⟩))
        go_roundw
        case rel =>
          refine ⟨k + 1, by omega, by go_num, ?_, ?_⟩
          · rw [HS.out, Nat.min_eq_left (by omega)]; go_num
          · exact (hbr.alloc hzr _).trans (hb1.mono (by rw [alloc_size]; omega))
        case measure => simp [intOf]; omega
      · have hF := HF (by rw [HS.out]; omega)
        by_cases hs2 : s + c = 1048577
        · have hs0 : ((s : Int) + c) <= 1048577 := by omega
          have hs1 : ((s : Int) + c) = 1048577 := by omega
          have P2 := fun w => atMost_lo _ w hs0
          rw [hs1] at P2
          have HS1 := Lib.hid hs1
          clear hs1 hs0
          go_wp2_with (first | (go_at_call 22; rw [HS1.out]; refine (P2 _).mono ?_; rintro e w2 ⟨rfl, rfl⟩) | (go_at_call 12; refine (P _).mono ?_; rintro e w1 ⟨rfl, hb1⟩))
          go_ret
          exact ⟨by rw [hF]; rfl, (hbr.alloc hzr _).trans (hb1.mono (by rw [alloc_size]; omega))⟩
        · have hs0 : 1048577 < ((s : Int) + c) := by omega
          go_wp2_with (first | (go_at_call 22; refine (atMost_hi _ _ hs0).mono ?_; rintro e w2 ⟨rfl, rfl⟩) | (go_at_call 12; refine (P _).mono ?_; rintro e w1 ⟨rfl, hb1⟩))
          go_ret
          exact ⟨by rw [hF]; rfl, (hbr.alloc hzr _).trans (hb1.mono (by rw [alloc_size]; omega))⟩
    · obtain rfl : k = ks.length := by omega
      go_wp2
      go_ret
      exact ⟨by rw [List.take_length]; rfl, hbr⟩
set_option maxHeartbeats 2000000 in
set_option maxRecDepth 100000 in
theorem expr_succ {lo n : Nat} (ih : ECost lo n) : ECost lo (n + 1) := fun v t w hE => by
  obtain ⟨hv, kv, rfl, hK⟩ := hE
  have P : ∀ o, Calls Tryz.prog 23 #[.func (.func 12) #[] #[], kv] (w.alloc o) _ := fun o => sumE_of ih kv t.kids (w.alloc o) (kids_later hK ((Below.refl _ _).alloc (Nat.le_refl _) o))
  obtain ⟨kao, kcap, rfl, _⟩ := hK
  have hle := sumc_le (ecost n) t.kids
  have HE : Hid (ecost (n + 1) t = min (1 + sumc (ecost n) t.kids) 1048577) := rfl
  rw [HE.out]
  generalize sumc (ecost n) t.kids = s at hle P ⊢
  by_cases hs : 1 + s <= 1048577
  · have hs0 : (1 + (s : Int)) <= 1048577 := by omega
    go_enter Tryz.func12, Tryz.ntmps12
    go_wp2_with (first | (go_at_call 22; refine (atMost_lo _ _ hs0).mono ?_; rintro e w2 ⟨rfl, rfl⟩) | (go_at_call 23; refine (P _).mono ?_; rintro e w1 ⟨rfl, hb1⟩))
    go_ret
    exact ⟨ret_int (by omega), ((Below.refl _ _).alloc (Nat.le_refl _) _).trans (hb1.mono (by rw [alloc_size]; omega))⟩
  · have hs0 : 1048577 < (1 + (s : Int)) := by omega
    go_enter Tryz.func12, Tryz.ntmps12
    go_wp2_with (first | (go_at_call 22; refine (atMost_hi _ _ hs0).mono ?_; rintro e w2 ⟨rfl, rfl⟩) | (go_at_call 23; refine (P _).mono ?_; rintro e w1 ⟨rfl, hb1⟩))
    go_ret
    exact ⟨ret_int (by omega), ((Below.refl _ _).alloc (Nat.le_refl _) _).trans (hb1.mono (by rw [alloc_size]; omega))⟩
theorem expr_all (lo : Nat) : ∀ n, ECost lo n
  | 0 => fun v t w h => h.elim
  | n + 1 => expr_succ (expr_all lo n)
theorem srep_later {lo m n : Nat} {w w' : World} {v : Value} {s : Stm} (h : SRep lo w.heap.size w m n v s) (hb : Below w.heap.size w w') : SRep lo w'.heap.size w' m n v s :=
  h.carry (Nat.le_refl _) hb.size (Same35.of_below hb) (Same45.of_below hb)
theorem stms_later {lo m n : Nat} {w w' : World} {v : Value} {ss : List Stm} (h : Stms lo w.heap.size w (fun v' s' => SRep lo w.heap.size w m n v' s') v ss) (hb : Below w.heap.size w w') : Stms lo w'.heap.size w' (fun v' s' => SRep lo w'.heap.size w' m n v' s') v ss :=
  h.carry (Nat.le_refl _) hb.size (Same45.of_below hb) fun _ _ hr => srep_later hr hb
def SCost (lo m n : Nat) : Prop := ∀ (v : Value) (t : Stm) (w : World), SRep lo w.heap.size w m n v t ->
  Calls Tryz.prog 11 #[v] w fun e w' => e = .returned (.int .i64 (scost m n t : Nat)) /\ Below w.heap.size w w'
def BCost (lo m n : Nat) : Prop := ∀ (v : Value) (ss : List Stm) (w : World), Stms lo w.heap.size w (fun v' s' => SRep lo w.heap.size w m n v' s') v ss ->
  Calls Tryz.prog 9 #[v] w fun e w' => e = .returned (.int .i64 (bcost m n ss : Nat)) /\ Below w.heap.size w w'
theorem bcost_le (m n : Nat) (ss : List Stm) : bcost m n ss <= 1048577 := sumc_le _ _

set_option maxHeartbeats 2000000 in
set_option maxRecDepth 100000 in
theorem sumS_of {lo m n : Nat} (ih : SCost lo m n) (kv : Value) (ks : List Stm) (w : World) (hK : Stms lo w.heap.size w (fun v' t' => SRep lo w.heap.size w m n v' t') kv ks) :
    Calls Tryz.prog 21 #[.func (.func 11) #[] #[], kv] w fun e w' => e = .returned (.int .i64 (sumc (scost m n) ks : Nat)) /\ Below w.heap.size w w' := by
  have HK := Lib.hid hK
  obtain ⟨ao, cap, rfl, hl, _⟩ := hK
  go_enter Tryz.func21, Tryz.ntmps21
  go_wp2
  go_loopw [5, 10] (fun s i wr => ∃ k : Nat, k <= ks.length /\ i = .int .i64 k /\ s = .int .i64 (sumc (scost m n) (ks.take k) : Nat) /\ Below w.heap.size w wr) (fun _ i _ => ks.length - (intOf i).toNat)
  case atStart => exact ⟨0, Nat.zero_le _, rfl, by simp [sumc_nil], Below.refl _ _⟩
  case round =>
    obtain ⟨k, hk, rfl, rfl, hbr⟩ := hrel
    have hzr := hbr.size
    by_cases hlt : k < ks.length
    · obtain ⟨x, hx⟩ : ∃ x, ks[k]? = some x := ⟨ks[k], by simp [hlt]⟩
      obtain ⟨_, _, e, _, hKr⟩ := HK.out.on hbr
      cases e
      obtain ⟨g, off, c0, c1, c2, c3, c4, c5, c6, rfl, _, hg, _, h0, h1, h2, h3, h4, h5, h6, hr⟩ := hKr k x hx
      have hgr : g < wr.heap.size := by omega
      have hR := Lib.hid hr
      cases n with
      | zero => exact hr.elim
      | succ n =>
      obtain ⟨_, _, _, ea, ec, ba, bc, la, lc, hv, _⟩ := hr
      simp only [Value.agg.injEq, Array.mk.injEq, List.cons.injEq, and_true] at hv
      obtain ⟨rfl, rfl, rfl, rfl, rfl, rfl, rfl⟩ := hv
      have P : ∀ o, Calls Tryz.prog 11 #[.agg #[.int .i64 x.kind, .string x.name, .slice ea x.exprs.length ec, .int .i64 x.count, .slice ba x.body.length bc, .slice la x.els.length lc, .int .i64 x.at_]] (wr.alloc o) _ := fun o =>
        ih _ x (wr.alloc o) (srep_later (hR.out.carry (Nat.le_refl _) hzr (Same35.refl _ _ _) (fun _ _ _ _ _ h => h)) ((Below.refl _ _).alloc (by omega) o))
      have HS := Lib.hid (sumc_snoc (scost m (n + 1)) ks k x hx)
      have hle := sumc_le (scost m (n + 1)) (ks.take k)
      have hcl := scost_le m (n + 1) x
      have HF := fun h => sumc_full (scost m (n + 1)) ks (k + 1) h
      clear hKr hx
      generalize sumc (scost m (n + 1)) (ks.take k) = s at HS hle ⊢
      generalize scost m (n + 1) x = c at HS hcl P ⊢
      by_cases hs : s + c <= 1048576
      · have hs0 : ((s : Int) + c) <= 1048577 := by omega
        have hs1 : ¬ ((s : Int) + c) = 1048577 := by omega
        go_wp2_with (first | (go_at_call 22; refine (atMost_lo _ _ hs0).mono ?_; rintro e w2 ⟨rfl, rfl⟩) | (go_at_call 11; refine (P _).mono ?_; rintro e w1 ⟨rfl, hb1⟩))
        go_roundw
        case rel =>
          refine ⟨k + 1, by omega, by go_num, ?_, ?_⟩
          · rw [HS.out, Nat.min_eq_left (by omega)]; go_num
          · exact (hbr.alloc hzr _).trans (hb1.mono (by rw [alloc_size]; omega))
        case measure => simp [intOf]; omega
      · have hF := HF (by rw [HS.out]; omega)
        by_cases hs2 : s + c = 1048577
        · have hs0 : ((s : Int) + c) <= 1048577 := by omega
          have hs1 : ((s : Int) + c) = 1048577 := by omega
          have P2 := fun w => atMost_lo _ w hs0
          rw [hs1] at P2
          have HS1 := Lib.hid hs1
          clear hs1 hs0
          go_wp2_with (first | (go_at_call 22; rw [HS1.out]; refine (P2 _).mono ?_; rintro e w2 ⟨rfl, rfl⟩) | (go_at_call 11; refine (P _).mono ?_; rintro e w1 ⟨rfl, hb1⟩))
          go_ret
          exact ⟨by rw [hF]; rfl, (hbr.alloc hzr _).trans (hb1.mono (by rw [alloc_size]; omega))⟩
        · have hs0 : 1048577 < ((s : Int) + c) := by omega
          go_wp2_with (first | (go_at_call 22; refine (atMost_hi _ _ hs0).mono ?_; rintro e w2 ⟨rfl, rfl⟩) | (go_at_call 11; refine (P _).mono ?_; rintro e w1 ⟨rfl, hb1⟩))
          go_ret
          exact ⟨by rw [hF]; rfl, (hbr.alloc hzr _).trans (hb1.mono (by rw [alloc_size]; omega))⟩
    · obtain rfl : k = ks.length := by omega
      go_wp2
      go_ret
      exact ⟨by rw [List.take_length]; rfl, hbr⟩
set_option maxHeartbeats 2000000 in
set_option maxRecDepth 100000 in
theorem block_of {lo m n : Nat} (ih : SCost lo m n) : BCost lo m n := fun v ss w hS => by
  have P := sumS_of ih v ss w hS
  obtain ⟨ao, cap, rfl, _⟩ := hS
  go_enter Tryz.func9, Tryz.ntmps9
  go_wp2_with (go_at_call 21; refine P.mono ?_; rintro e w1 ⟨rfl, hb1⟩)
  go_ret
  exact ⟨rfl, hb1⟩
set_option maxHeartbeats 2000000 in
set_option maxRecDepth 100000 in
theorem sumB_of {lo m n : Nat} (ih : BCost lo m n) (kv : Value) (ks : List (List Stm)) (w : World) (hK : Thrs lo w.heap.size m n w kv ks) :
    Calls Tryz.prog 32 #[.func (.func 9) #[] #[], kv] w fun e w' => e = .returned (.int .i64 (sumc (bcost m n) ks : Nat)) /\ Below w.heap.size w w' := by
  have HK := Lib.hid hK
  obtain ⟨ao, cap, rfl, hl, _⟩ := hK
  go_enter Tryz.func32, Tryz.ntmps32
  go_wp2
  go_loopw [5, 10] (fun s i wr => ∃ k : Nat, k <= ks.length /\ i = .int .i64 k /\ s = .int .i64 (sumc (bcost m n) (ks.take k) : Nat) /\ Below w.heap.size w wr) (fun _ i _ => ks.length - (intOf i).toNat)
  case atStart => exact ⟨0, Nat.zero_le _, rfl, by simp [sumc_nil], Below.refl _ _⟩
  case round =>
    obtain ⟨k, hk, rfl, rfl, hbr⟩ := hrel
    have hzr := hbr.size
    by_cases hlt : k < ks.length
    · obtain ⟨x, hx⟩ : ∃ x, ks[k]? = some x := ⟨ks[k], by simp [hlt]⟩
      obtain ⟨_, _, e, _, hKr⟩ := HK.out.on hbr
      cases e
      obtain ⟨g, off, tao, tcap, rfl, _, hg, _, h0, hS⟩ := hKr k x hx
      have hgr : g < wr.heap.size := by omega
      have P := ih (.slice tao x.length tcap) x wr (hS.carry (Nat.le_refl _) hbr.size (fun _ _ _ _ _ h => h) fun _ _ hr => hr.carry (Nat.le_refl _) hbr.size (Same35.refl _ _ _) (fun _ _ _ _ _ h => h))
      clear hS
      have HS := Lib.hid (sumc_snoc (bcost m n) ks k x hx)
      have hle := sumc_le (bcost m n) (ks.take k)
      have hcl := bcost_le m n x
      have HF := fun h => sumc_full (bcost m n) ks (k + 1) h
      clear hKr hx
      generalize sumc (bcost m n) (ks.take k) = s at HS hle ⊢
      generalize bcost m n x = c at HS hcl P ⊢
      by_cases hs : s + c <= 1048576
      · have hs0 : ((s : Int) + c) <= 1048577 := by omega
        have hs1 : ¬ ((s : Int) + c) = 1048577 := by omega
        go_wp2_with (first | (go_at_call 22; refine (atMost_lo _ _ hs0).mono ?_; rintro e w2 ⟨rfl, rfl⟩) | (go_at_call 9; refine P.mono ?_; rintro e w1 ⟨rfl, hb1⟩))
        go_roundw
        case rel =>
          refine ⟨k + 1, by omega, by go_num, ?_, ?_⟩
          · rw [HS.out, Nat.min_eq_left (by omega)]; go_num
          · exact hbr.trans (hb1.mono hzr)
        case measure => simp [intOf]; omega
      · have hF := HF (by rw [HS.out]; omega)
        by_cases hs2 : s + c = 1048577
        · have hs0 : ((s : Int) + c) <= 1048577 := by omega
          have hs1 : ((s : Int) + c) = 1048577 := by omega
          have P2 := fun w => atMost_lo _ w hs0
          rw [hs1] at P2
          have HS1 := Lib.hid hs1
          clear hs1 hs0
          go_wp2_with (first | (go_at_call 22; rw [HS1.out]; refine (P2 _).mono ?_; rintro e w2 ⟨rfl, rfl⟩) | (go_at_call 9; refine P.mono ?_; rintro e w1 ⟨rfl, hb1⟩))
          go_ret
          exact ⟨by rw [hF]; rfl, hbr.trans (hb1.mono hzr)⟩
        · have hs0 : 1048577 < ((s : Int) + c) := by omega
          go_wp2_with (first | (go_at_call 22; refine (atMost_hi _ _ hs0).mono ?_; rintro e w2 ⟨rfl, rfl⟩) | (go_at_call 9; refine P.mono ?_; rintro e w1 ⟨rfl, hb1⟩))
          go_ret
          exact ⟨by rw [hF]; rfl, hbr.trans (hb1.mono hzr)⟩
    · obtain rfl : k = ks.length := by omega
      go_wp2
      go_ret
      exact ⟨by rw [List.take_length]; rfl, hbr⟩
theorem two_sumc {α : Type} (f : α -> Nat) (a b : α) : sumc f [a, b] = two (f a) (f b) := by
  simp [sumc, two]
theorem thrs2 {m n : Nat} {w : World} {ao bo : Option Addr} {ac bc : Nat} {ss ts : List Stm} (hs : Stms 0 w.heap.size w (fun v' s' => SRep 0 w.heap.size w m n v' s') (.slice ao ss.length ac) ss) (ht : Stms 0 w.heap.size w (fun v' s' => SRep 0 w.heap.size w m n v' s') (.slice bo ts.length bc) ts) (o : Obj) :
    Thrs 0 ((w.alloc o).alloc (.cells #[.slice ao ss.length ac, .slice bo ts.length bc] 29)).heap.size m n ((w.alloc o).alloc (.cells #[.slice ao ss.length ac, .slice bo ts.length bc] 29)) (.slice (some ⟨w.heap.size + 1, 0, none⟩) 2 2) [ss, ts] := by
  have hb : Below w.heap.size w ((w.alloc o).alloc (.cells #[.slice ao ss.length ac, .slice bo ts.length bc] 29)) := ((Below.refl _ _).alloc (Nat.le_refl _) _).alloc (by rw [alloc_size]; omega) _
  have hh : ((w.alloc o).alloc (.cells #[.slice ao ss.length ac, .slice bo ts.length bc] 29)).heap[w.heap.size + 1]? = some (.cells #[.slice ao ss.length ac, .slice bo ts.length bc] 29 (0, 0)) := by
    have := heap_alloc_new (w.alloc o) (.cells #[.slice ao ss.length ac, .slice bo ts.length bc] 29)
    rwa [alloc_size] at this
  refine ⟨_, 2, rfl, by simp, fun i x hx => ?_⟩
  match i with
  | 0 =>
    simp at hx; subst hx
    exact ⟨w.heap.size + 1, 0, ao, ac, rfl, Nat.zero_le _, by rw [alloc_size, alloc_size]; omega, ⟨_, _, hh⟩, by rw [Lib.cell_of_heap hh]; rfl, stms_later hs hb⟩
  | 1 =>
    simp at hx; subst hx
    exact ⟨w.heap.size + 1, 0, bo, bc, rfl, Nat.zero_le _, by rw [alloc_size, alloc_size]; omega, ⟨_, _, hh⟩, by rw [Lib.cell_of_heap hh]; rfl, stms_later ht hb⟩
  | i + 2 => simp at hx
theorem two_le (a b : Nat) : two a b <= 1048577 := Nat.min_le_right _ _
set_option maxHeartbeats 2000000 in
set_option maxRecDepth 100000 in
theorem inner_any {m n : Nat} (ih : BCost 0 m n) (v : Value) (s : Stm) (w : World) (hS : SRep 0 w.heap.size w m (n + 1) v s) :
    Calls Tryz.prog 24 #[v] w fun e w' => e = .returned (.int .i64 (innerc s.kind s.count (two (bcost m n s.body) (bcost m n s.els)) : Nat)) /\ Below w.heap.size w w' := by
  obtain ⟨h1, h2, hn, eao, ecap, bao, bcap, lao, lcap, rfl, hE, hB, hL⟩ := hS
  have P : ∀ o, Calls Tryz.prog 32 #[.func (.func 9) #[] #[], .slice (some ⟨w.heap.size + 1, 0, none⟩) 2 2] ((w.alloc o).alloc (.cells #[.slice bao s.body.length bcap, .slice lao s.els.length lcap] 29)) _ := fun o => sumB_of ih _ _ _ (thrs2 hB hL o)
  rw [two_sumc] at P
  have hle := two_le (bcost m n s.body) (bcost m n s.els)
  generalize two (bcost m n s.body) (bcost m n s.els) = q at P hle ⊢
  have hbel : ∀ {o o' : Obj} {w1 : World}, Below ((w.alloc o).alloc o').heap.size ((w.alloc o).alloc o') w1 -> Below w.heap.size w w1 := fun {o o' w1} hb1 =>
    (((Below.refl _ _).alloc (Nat.le_refl _) _).alloc (by rw [alloc_size]; omega) _).trans (hb1.mono (by rw [alloc_size, alloc_size]; omega))
  clear hE hB hL
  by_cases hk : s.kind = 4
  · have HI : Hid (innerc s.kind s.count q = rounds s.count * (4 + q)) := by show _ = _; unfold innerc; rw [if_pos hk]
    have HK := Lib.hid hk
    rw [HI.out]
    obtain ⟨K, hK⟩ : ∃ K, s.kind = K := ⟨_, rfl⟩
    rw [HK.out]
    clear hK hk K
    obtain ⟨c, hc⟩ : ∃ c, s.count = c := ⟨_, rfl⟩
    rw [hc] at h1 h2 ⊢
    clear hc HI
    by_cases hc0 : c <= 0
    · have hr : rounds c = 0 := by unfold rounds; omega
      have HR := Lib.hid hr
      clear hr
      by_cases hc1 : c < 0
      · go_enter Tryz.func24, Tryz.ntmps24
        go_wp2
        go_ret
        exact ⟨by rw [HR.out]; simp, (Below.refl _ _).alloc (Nat.le_refl _) _⟩
      · obtain rfl : c = 0 := by omega
        go_enter Tryz.func24, Tryz.ntmps24
        go_wp2
        go_ret
        exact ⟨by rw [HR.out]; simp, (Below.refl _ _).alloc (Nat.le_refl _) _⟩
    · by_cases hc1 : c <= 256
      · have hr : (rounds c : Int) = c := by unfold rounds; omega
        have HR := Lib.hid hr
        clear hr
        have hq0 : c * (4 + (q : Int)) <= 268436736 := by
          calc c * (4 + (q : Int)) <= 256 * (4 + q) := Int.mul_le_mul_of_nonneg_right hc1 (by omega)
            _ <= 256 * (4 + 1048577) := Int.mul_le_mul_of_nonneg_left (by omega) (by omega)
            _ = 268436736 := by decide
        have hq1 : 0 <= c * (4 + (q : Int)) := Int.mul_nonneg (by omega) (by omega)
        go_enter Tryz.func24, Tryz.ntmps24
        go_wp2_with (go_at_call 32; refine (P _).mono ?_; rintro e w1 ⟨rfl, hb1⟩)
        go_ret
        exact ⟨ret_int (by simp [HR.out]), hbel hb1⟩
      · have hr : rounds c = 256 := by unfold rounds; omega
        have HR := Lib.hid hr
        clear hr
        go_enter Tryz.func24, Tryz.ntmps24
        go_wp2_with (go_at_call 32; refine (P _).mono ?_; rintro e w1 ⟨rfl, hb1⟩)
        go_ret
        exact ⟨ret_int (by simp [HR.out]), hbel hb1⟩
  · have HI : Hid (innerc s.kind s.count q = q) := by show _ = _; unfold innerc; rw [if_neg hk]
    rw [HI.out]
    clear HI
    go_enter Tryz.func24, Tryz.ntmps24
    go_wp2_with (go_at_call 32; refine (P _).mono ?_; rintro e w1 ⟨rfl, hb1⟩)
    go_ret
    exact ⟨rfl, hbel hb1⟩
theorem regrown7 {w : World} {k : Nat} {x0 x1 x2 x3 x4 x5 x6 : Value} (h : w.heap[k]? = some (.cells #[x0, x1, x2, x3, x4, x5, x6] 34 (0, 0))) : (∀ d os, (Sort.grow (redrawn w d) os).cell? ⟨k, 0, none⟩ = some x0) /\ (∀ d os, (Sort.grow (redrawn w d) os).cell? ⟨k, 1, none⟩ = some x1) /\ (∀ d os, (Sort.grow (redrawn w d) os).cell? ⟨k, 2, none⟩ = some x2) /\ (∀ d os, (Sort.grow (redrawn w d) os).cell? ⟨k, 3, none⟩ = some x3) /\ (∀ d os, (Sort.grow (redrawn w d) os).cell? ⟨k, 4, none⟩ = some x4) /\ (∀ d os, (Sort.grow (redrawn w d) os).cell? ⟨k, 5, none⟩ = some x5) /\ (∀ d os, (Sort.grow (redrawn w d) os).cell? ⟨k, 6, none⟩ = some x6) := by
  obtain ⟨h0, h1, h2, h3, h4, h5, h6⟩ := stmt_cells h
  exact ⟨cell_regrown h0, cell_regrown h1, cell_regrown h2, cell_regrown h3, cell_regrown h4, cell_regrown h5, cell_regrown h6⟩
theorem atMost_re {q n : Int} (w : World) (h : (n <= 1048577 /\ q = n) \/ (1048577 < n /\ q = 1048577)) (d : Nat) (os : Array Obj) : Calls Tryz.prog 22 #[.int .i64 n] (Sort.grow (redrawn w d) os) fun e w'' => e = .returned (.int .i64 q) /\ ∃ p : Regrown, w'' = Sort.grow (redrawn w p.d) p.os := by
  rcases h with ⟨h, rfl⟩ | ⟨h, rfl⟩
  · exact Calls.regrown_of ((atMost_lo _ _ h).mono fun e w' h => ⟨h.1, by rw [h.2]; exact Below.refl _ _⟩)
  · exact Calls.regrown_of ((atMost_hi _ _ h).mono fun e w' h => ⟨h.1, by rw [h.2]; exact Below.refl _ _⟩)
set_option maxHeartbeats 2000000 in
set_option maxRecDepth 100000 in
theorem stmt_succ {m n : Nat} (ih : BCost 0 m n) : SCost 0 m (n + 1) := fun v s w hS => by
  have PI := fun W (hb : Below w.heap.size w W) => inner_any ih v s W (srep_later hS hb)
  obtain ⟨h1, h2, hn, eao, ecap, bao, bcap, lao, lcap, rfl, hE, hB, hL⟩ := hS
  have PE := fun W (hb : Below w.heap.size w W) => sumE_of (expr_all 0 m) _ _ W (kids_later hE hb)
  have HC : Hid (scost m (n + 1) s = min (4 + sumc (ecost m) s.exprs + innerc s.kind s.count (two (bcost m n s.body) (bcost m n s.els))) 1048577) := rfl
  rw [HC.out]
  have ha := sumc_le (ecost m) s.exprs
  have hb := innerc_le s.kind s.count _ (two_le (bcost m n s.body) (bcost m n s.els))
  generalize sumc (ecost m) s.exprs = a at PE ha ⊢
  generalize innerc s.kind s.count (two (bcost m n s.body) (bcost m n s.els)) = b at PI hb ⊢
  clear hE hB hL HC
  obtain ⟨q, hq⟩ : ∃ q, min (4 + a + b) 1048577 = q := ⟨_, rfl⟩
  rw [hq]
  have cT := fun (W : World) => atMost_re (q := (q : Int)) (n := 4 + (a : Int) + (b : Int)) W (by omega)
  clear hq
  go_enter Tryz.func11, Tryz.ntmps11
  go_wp2
  obtain ⟨W, hW⟩ : ∃ W, W = w.alloc (.cells #[.int .i64 s.kind, .string s.name, .slice eao s.exprs.length ecap, .int .i64 s.count, .slice bao s.body.length bcap, .slice lao s.els.length lcap, .int .i64 s.at_] 34) := ⟨_, rfl⟩
  have hh : W.heap[w.heap.size]? = some (.cells #[.int .i64 s.kind, .string s.name, .slice eao s.exprs.length ecap, .int .i64 s.count, .slice bao s.body.length bcap, .slice lao s.els.length lcap, .int .i64 s.at_] 34 (0, 0)) := by rw [hW]; exact heap_alloc_new _ _
  have hbW : Below w.heap.size w W := by rw [hW]; exact (Below.refl _ _).alloc (Nat.le_refl _) _
  rw [<- hW]
  clear hW
  obtain ⟨Q0, Q1, Q2, Q3, Q4, Q5, Q6⟩ := regrown7 hh
  have hre : ∀ d os, Below w.heap.size w (Sort.grow (redrawn W d) os) := fun d os => hbW.trans ((below_regrown W d os).mono hbW.size)
  have cE := fun d os => Calls.regrown_of (PE _ (hre d os))
  have cI := fun d os => Calls.regrown_of (PI _ (hre d os))
  have cM := cT W
  clear PE PI cT hh
  refine wp_region_quiet_below (by kernel_rfl) (by kernel_rfl) ?_
  repeat (go_big_quiet_step (first | with_reducible exact cE _ _ | with_reducible exact cI _ _ | with_reducible exact cM _ _))
  refine wpQuiet_nil ?_
  intro _ hw'
  obtain ⟨⟨dq, osq⟩, hw''⟩ := hw'
  subst hw''
  go_wp2
  go_ret
  exact ⟨rfl, hre dq osq⟩
theorem stmt_all (m : Nat) : ∀ n, SCost 0 m n
  | 0 => fun v t w h => h.elim
  | n + 1 => stmt_succ (block_of (stmt_all m n))
theorem block_all (m n : Nat) : BCost 0 m n := block_of (stmt_all m n)
end Go.Proofs.YtclmeachbojopaaGreatDoor.Co
