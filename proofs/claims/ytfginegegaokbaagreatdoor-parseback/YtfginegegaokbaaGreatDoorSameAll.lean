/- What tree.Same answers, when it is called. Conditions: both programs lie in memory as their plain data say. -/
import Derived.Test.YtfginegegaokbaaGreatDoorSameDecl
namespace Go.Proofs.YtfginegegaokbaaGreatDoor
open Go.ChangeShapes Go.WideShapes Go.ChangeAt Go.RowKit
set_option linter.unusedVariables false
set_option linter.unusedSimpArgs false

set_option maxHeartbeats 2000000 in
set_option maxRecDepth 100000 in
theorem eqDecls_any (kv kv' : Value) (ks ks' : List Dcl) (w : World) (hK : Dcls 0 w.heap.size w kv ks) (hK' : Dcls 0 w.heap.size w kv' ks') :
    Calls Tryz.prog 31 #[kv, kv', .func (.func 32) #[] #[]] w fun e w' => e = .returned (.bool (listEq deqD ks ks')) ∧ Below w.heap.size w w' := by
  have HK := Lib.hid hK
  have HK' := Lib.hid hK'
  obtain ⟨ao, cap, rfl, hl, _⟩ := hK
  obtain ⟨ao', cap', rfl, hl', _⟩ := hK'
  by_cases hne : ks.length = ks'.length
  · have hneI : ¬ (ks.length : Int) ≠ (ks'.length : Int) := by omega
    have HNE := Lib.hid hne
    go_enter Tryz.func31, Tryz.ntmps31
    go_wp2
    clear hne hneI
    go_loopw [17] (fun i wr => ∃ k : Nat, k ≤ ks.length ∧ i = .int .i64 k ∧ Below w.heap.size w wr ∧ ∀ j x y, j < k → ks[j]? = some x → ks'[j]? = some y → deqD x y = true) (fun i _ => ks.length - (intOf i).toNat)
    case atStart => exact ⟨0, Nat.zero_le _, rfl, Below.refl _ _, fun j x y hj => by omega⟩
    case round =>
      obtain ⟨k, hk, rfl, hbr, hall⟩ := hrel
      have hzr := hbr.size
      by_cases hlt : k < ks.length
      · have hlt' : k < ks'.length := by have := HNE.out; omega
        obtain ⟨x, hx⟩ : ∃ x, ks[k]? = some x := ⟨ks[k], by simp [hlt]⟩
        obtain ⟨y, hy⟩ : ∃ y, ks'[k]? = some y := ⟨ks'[k], by simp [hlt']⟩
        obtain ⟨_, _, e, _, hKr⟩ := HK.out.on hbr
        cases e
        obtain ⟨_, _, e, _, hKr'⟩ := HK'.out.on hbr
        cases e
        obtain ⟨_, g, off, rfl, _, hg, _, h0, h1, h2, h3, h4, h5⟩ := hKr k x hx
        obtain ⟨_, g', off', rfl, _, hg', _, i0, i1, i2, i3, i4, i5⟩ := hKr' k y hy
        have hgr : g < wr.heap.size := by omega
        have hgr' : g' < wr.heap.size := by omega
        have P := fun w => sameDecl_any x y w
        have HX := Lib.hid (And.intro hx hy)
        clear hKr hKr' hx hy
        by_cases ht : deqD x y = true
        · rw [ht] at P
          have HTQ := Lib.hid ht
          clear ht
          go_wp2_with (go_at_call 32; refine (P _).mono ?_; rintro e w1 ⟨rfl, hb1⟩)
          go_roundw
          case rel =>
            refine ⟨k + 1, by omega, by go_num, ?_, fun j x' y' hj hx' hy' => ?_⟩
            · exact ((hbr.alloc hzr _).alloc (by rw [alloc_size]; omega) _).trans (hb1.mono (by rw [alloc_size, alloc_size]; omega))
            · by_cases hjk : j = k
              · subst hjk
                rw [HX.out.1] at hx'
                rw [HX.out.2] at hy'
                cases hx'; cases hy'
                exact HTQ.out
              · exact hall j x' y' (by omega) hx' hy'
          case measure => simp [intOf]; omega
        · have htf : deqD x y = false := by simpa using ht
          rw [htf] at P
          have HTQ := Lib.hid htf
          clear ht htf
          go_wp2_with (go_at_call 32; refine (P _).mono ?_; rintro e w1 ⟨rfl, hb1⟩)
          go_ret
          refine ⟨by rw [listEq_false HX.out.1 HX.out.2 HTQ.out]; rfl, ?_⟩
          exact ((hbr.alloc hzr _).alloc (by rw [alloc_size]; omega) _).trans (hb1.mono (by rw [alloc_size, alloc_size]; omega))
      · obtain rfl : k = ks.length := by omega
        have hle : listEq deqD ks ks' = true := listEq_true HNE.out fun i x y hx hy => hall i x y (by
          have := (List.getElem?_eq_some_iff.1 hx).1; omega) hx hy
        have HL := Lib.hid hle
        have hend : ¬ (ks.length : Int) < (ks'.length : Int) := by have := HNE.out; omega
        clear hle
        go_wp2
        go_ret
        exact ⟨by rw [HL.out]; rfl, hbr⟩
  · have hneI : (ks.length : Int) ≠ (ks'.length : Int) := by omega
    have HL := Lib.hid (listEq_ne (f := deqD) hne)
    clear hne
    go_enter Tryz.func31, Tryz.ntmps31
    go_wp2
    go_ret
    exact ⟨by rw [HL.out]; rfl, Below.refl _ _⟩
def beqB (m n : Nat) (a b : List Stm) : Bool := listEq (seqS m n) a b
set_option maxHeartbeats 2000000 in
set_option maxRecDepth 100000 in
theorem eqThreads_any (m n : Nat) (kv kv' : Value) (ks ks' : List (List Stm)) (w : World) (hK : Thrs 0 w.heap.size m n w kv ks) (hK' : Thrs 0 w.heap.size m n w kv' ks') :
    Calls Tryz.prog 33 #[kv, kv', .func (.func 34) #[] #[]] w fun e w' => e = .returned (.bool (listEq (beqB m n) ks ks')) ∧ Below w.heap.size w w' := by
  have HK := Lib.hid hK
  have HK' := Lib.hid hK'
  obtain ⟨ao, cap, rfl, hl, _⟩ := hK
  obtain ⟨ao', cap', rfl, hl', _⟩ := hK'
  by_cases hne : ks.length = ks'.length
  · have hneI : ¬ (ks.length : Int) ≠ (ks'.length : Int) := by omega
    have HNE := Lib.hid hne
    go_enter Tryz.func33, Tryz.ntmps33
    go_wp2
    clear hne hneI
    go_loopw [17] (fun i wr => ∃ k : Nat, k ≤ ks.length ∧ i = .int .i64 k ∧ Below w.heap.size w wr ∧ ∀ j x y, j < k → ks[j]? = some x → ks'[j]? = some y → beqB m n x y = true) (fun i _ => ks.length - (intOf i).toNat)
    case atStart => exact ⟨0, Nat.zero_le _, rfl, Below.refl _ _, fun j x y hj => by omega⟩
    case round =>
      obtain ⟨k, hk, rfl, hbr, hall⟩ := hrel
      have hzr := hbr.size
      by_cases hlt : k < ks.length
      · have hlt' : k < ks'.length := by have := HNE.out; omega
        obtain ⟨x, hx⟩ : ∃ x, ks[k]? = some x := ⟨ks[k], by simp [hlt]⟩
        obtain ⟨y, hy⟩ : ∃ y, ks'[k]? = some y := ⟨ks'[k], by simp [hlt']⟩
        obtain ⟨_, _, e, _, hKr⟩ := HK.out.on hbr
        cases e
        obtain ⟨_, _, e, _, hKr'⟩ := HK'.out.on hbr
        cases e
        obtain ⟨g, off, ta, tc, rfl, _, hg, _, h0, hS⟩ := hKr k x hx
        obtain ⟨g', off', ta', tc', rfl, _, hg', _, i0, hS'⟩ := hKr' k y hy
        have P := sameBlock_of (sameStmt_all m n) _ _ _ _ wr (hS.carry (Nat.le_refl _) hzr (fun _ _ _ _ _ h => h) fun _ _ hr => hr.carry (Nat.le_refl _) hzr (Same35.refl _ _ _) (fun _ _ _ _ _ h => h)) (hS'.carry (Nat.le_refl _) hzr (fun _ _ _ _ _ h => h) fun _ _ hr => hr.carry (Nat.le_refl _) hzr (Same35.refl _ _ _) (fun _ _ _ _ _ h => h))
        have HX := Lib.hid (And.intro hx hy)
        clear hKr hKr' hx hy hS hS'
        by_cases ht : listEq (seqS m n) x y = true
        · rw [ht] at P
          have HTQ : Hid (beqB m n x y = true) := ht
          clear ht
          go_wp2_with (go_at_call 34; refine P.mono ?_; rintro e w1 ⟨rfl, hb1⟩)
          go_roundw
          case rel =>
            refine ⟨k + 1, by omega, by go_num, hbr.trans (hb1.mono hzr), fun j x' y' hj hx' hy' => ?_⟩
            by_cases hjk : j = k
            · subst hjk
              rw [HX.out.1] at hx'
              rw [HX.out.2] at hy'
              cases hx'; cases hy'
              exact HTQ.out
            · exact hall j x' y' (by omega) hx' hy'
          case measure => simp [intOf]; omega
        · have htf : listEq (seqS m n) x y = false := by simpa using ht
          rw [htf] at P
          have HTQ : Hid (beqB m n x y = false) := htf
          clear ht htf
          go_wp2_with (go_at_call 34; refine P.mono ?_; rintro e w1 ⟨rfl, hb1⟩)
          go_ret
          exact ⟨by rw [listEq_false HX.out.1 HX.out.2 HTQ.out]; rfl, hbr.trans (hb1.mono hzr)⟩
      · obtain rfl : k = ks.length := by omega
        have hle : listEq (beqB m n) ks ks' = true := listEq_true HNE.out fun i x y hx hy => hall i x y (by
          have := (List.getElem?_eq_some_iff.1 hx).1; omega) hx hy
        have HL := Lib.hid hle
        have hend : ¬ (ks.length : Int) < (ks'.length : Int) := by have := HNE.out; omega
        clear hle
        go_wp2
        go_ret
        exact ⟨by rw [HL.out]; rfl, hbr⟩
  · have hneI : (ks.length : Int) ≠ (ks'.length : Int) := by omega
    have HL := Lib.hid (listEq_ne (f := beqB m n) hne)
    clear hne
    go_enter Tryz.func33, Tryz.ntmps33
    go_wp2
    go_ret
    exact ⟨by rw [HL.out]; rfl, Below.refl _ _⟩
/-- The same program but for where its parts stand. -/
def peqP (m n : Nat) (p q : Prg) : Bool := listEq deqD p.decls q.decls && listEq (beqB m n) p.threads q.threads
theorem dcls_later {w w' : World} {v : Value} {ds : List Dcl} (h : Dcls 0 w.heap.size w v ds) (hb : Below w.heap.size w w') : Dcls 0 w'.heap.size w' v ds := by
  have hz := hb.size
  obtain ⟨ao, cap, rfl, hl, h⟩ := h.on hb
  refine ⟨ao, cap, rfl, hl, fun i d hd => ?_⟩
  obtain ⟨hf, g, off, e, hlo, hg, r⟩ := h i d hd
  exact ⟨hf, g, off, e, Nat.zero_le _, by omega, r⟩
theorem thrs_later {m n : Nat} {w w' : World} {v : Value} {ts : List (List Stm)} (h : Thrs 0 w.heap.size m n w v ts) (hb : Below w.heap.size w w') : Thrs 0 w'.heap.size m n w' v ts := by
  have hz := hb.size
  obtain ⟨ao, cap, rfl, hl, h⟩ := h.on hb
  refine ⟨ao, cap, rfl, hl, fun i ss hs => ?_⟩
  obtain ⟨g, off, tao, tcap, e, hlo, hg, hc, h0, h1⟩ := h i ss hs
  exact ⟨g, off, tao, tcap, e, Nat.zero_le _, by omega, hc, h0, h1.carry (Nat.zero_le _) hz (fun _ _ _ _ _ h => h) fun _ _ hr => hr.carry (Nat.zero_le _) hz (Same35.refl _ _ _) (fun _ _ _ _ _ h => h)⟩
set_option maxHeartbeats 2000000 in
set_option maxRecDepth 100000 in
theorem same_any (m n : Nat) (p q : Prg) (dv tv dv' tv' : Value) (w : World) (hD : Dcls 0 w.heap.size w dv p.decls) (hT : Thrs 0 w.heap.size m n w tv p.threads) (hD' : Dcls 0 w.heap.size w dv' q.decls) (hT' : Thrs 0 w.heap.size m n w tv' q.threads) :
    Calls Tryz.prog 14 #[.agg #[dv, tv], .agg #[dv', tv']] w fun e w' => e = .returned (.bool (peqP m n p q)) ∧ Below w.heap.size w w' := by
  have PD : ∀ w', Below w.heap.size w w' → Calls Tryz.prog 31 #[dv, dv', .func (.func 32) #[] #[]] w' fun e w'' => e = .returned (.bool (listEq deqD p.decls q.decls)) ∧ Below w'.heap.size w' w'' := fun w' hb => eqDecls_any _ _ _ _ w' (dcls_later hD hb) (dcls_later hD' hb)
  have PT : ∀ w', Below w.heap.size w w' → Calls Tryz.prog 33 #[tv, tv', .func (.func 34) #[] #[]] w' fun e w'' => e = .returned (.bool (listEq (beqB m n) p.threads q.threads)) ∧ Below w'.heap.size w' w'' := fun w' hb => eqThreads_any m n _ _ _ _ w' (thrs_later hT hb) (thrs_later hT' hb)
  have hbb : ∀ o o', Below w.heap.size w ((w.alloc o).alloc o') := fun o o' => ((Below.refl _ _).alloc (Nat.le_refl _) o).alloc (by rw [alloc_size]; omega) o'
  have HP : Hid (peqP m n p q = (listEq deqD p.decls q.decls && listEq (beqB m n) p.threads q.threads)) := rfl
  rw [HP.out]
  obtain ⟨da, dc, rfl, _⟩ := hD
  obtain ⟨ta, tc, rfl, _⟩ := hT
  obtain ⟨da', dc', rfl, _⟩ := hD'
  obtain ⟨ta', tc', rfl, _⟩ := hT'
  obtain ⟨q1, hq1⟩ : ∃ b, listEq deqD p.decls q.decls = b := ⟨_, rfl⟩
  obtain ⟨q2, hq2⟩ : ∃ b, listEq (beqB m n) p.threads q.threads = b := ⟨_, rfl⟩
  rw [hq1] at PD ⊢
  rw [hq2] at PT ⊢
  clear hq1 hq2 HP
  cases q1 <;> cases q2 <;> (
    go_enter Tryz.func14, Tryz.ntmps14
    go_wp2_with (first
      | (go_at_call 31; refine (PD _ (hbb _ _)).mono ?_; rintro e w1 ⟨rfl, hb1⟩; have hW1 := (hbb _ _).trans (hb1.mono (by simp; omega)); have hc1 := fun b o (h : b < _) => hb1.cell (p := ⟨b, o, none⟩) h; simp only [alloc_size] at hc1)
      | (go_at_call 33; refine (PT _ hW1).mono ?_; rintro e w2 ⟨rfl, hb2⟩; have hW2 := hW1.trans (hb2.mono (by have := hW1.size; omega))))
    go_ret
    first
      | exact ⟨by simp, hW2⟩
      | exact ⟨by simp, hW1⟩)
end Go.Proofs.YtfginegegaokbaaGreatDoor
