/- The walk of PlaceOf: on every input it returns true. Conditions: none. -/
import Derived.Test.YtonlfplojhlmjaaPlLabW
namespace Go.Proofs.Ytonlfplojhlmjaa.Pl
open Go.ChangeShapes Go.WideShapes Go.RowKit Go.Maps
set_option linter.unusedVariables false
set_option linter.unusedSimpArgs false

theorem decls_start {zs : List Int} {bs : List Bool} {k : Nat} {d : Pd} (h : (declsP zs bs)[k]? = some d) : startsP (declsP zs bs) none0 0 d.name = some (sizeP ((declsP zs bs).take k)) := by
  have := starts_at (declsP zs bs) none0 0 k d (fun a b x y => decls_unlike zs bs a b x y) (fun _ _ => rfl) h
  rw [Int.zero_add] at this
  exact this
theorem decls_cells {zs : List Int} {bs : List Bool} {k : Nat} {d : Pd} (h : (declsP zs bs)[k]? = some d) : cellsP d = (if 1 < d.size then min d.size 64 else 1) := by
  have hl := (decls_name (List.mem_of_getElem? h)).2.2.2
  unfold cellsP
  cases hd : d.lock with
  | true => rw [if_pos rfl, if_neg (by have := hl hd; omega)]
  | false => rw [if_neg (by simp)]; split <;> omega
theorem meas {k n : Nat} (h : k < n) : n - (intOf (Value.int .i64 ((k : Int) + 1))).toNat < n - (intOf (Value.int .i64 (k : Int))).toNat := by
  simp only [intOf]; omega

set_option maxHeartbeats 4000000 in
set_option maxRecDepth 100000 in
theorem of_walk (w : World) (v0 v1 : Value) (zs0 : List Int) (bs1 : List Bool) (h0 : IntsAt w .i8 v0 zs0) (z0 : ∀ n ∈ zs0, (Lit.int .i8 n).wf = true) (h1 : BoolsAt w v1 bs1) :
    Calls Try.prog 3 #[v0, v1] w fun e w' => e = .returned (.bool true) ∧ Below w.heap.size w w' := by
  obtain ⟨ds, hds⟩ : ∃ ds, ds = declsP zs0 bs1 := ⟨_, rfl⟩
  have HA := awake_any w
  have HD : ∀ w1, Below w.heap.size w w1 → Calls Try.prog 9 #[v0, v1] w1 fun e w' => ∃ v', e = .returned v' ∧ PRow w1.heap.size w' v' ds ∧ Below w1.heap.size w1 w' := fun w1 hb => hds ▸ decls_any zs0 bs1 v0 _ w1 (ints_below h0 hb) z0 (bools_below h1 hb)
  have HP : ∀ lo w v, PRow lo w v ds → PsAt w v ds := fun lo w v h => hds ▸ row_ps (hds ▸ h)
  have hlen : ds.length ≤ 600 := by rw [hds, decls_len]; omega
  have HST : Hid (∀ k d, ds[k]? = some d → startsP ds none0 0 d.name = some (sizeP (ds.take k))) := Lib.hid fun k d h => by rw [hds] at h ⊢; exact decls_start h
  have HCE : Hid (∀ (k : Nat) d, ds[k]? = some d → cellsP d = (if 1 < d.size then min d.size 64 else 1)) := Lib.hid fun k d h => by rw [hds] at h; exact decls_cells h
  clear hds h0 h1
  go_enter Try.func3, Try.ntmps3
  go_wp2_with (first
    | (go_at_call 8; refine HA.mono ?_; rintro e w1 ⟨rfl, hb1⟩)
    | (go_at_call 9; refine (HD _ hb1).mono ?_; rintro e w2 ⟨v2, rfl, hR2, hb2⟩; have hP2 := HP _ _ _ hR2; obtain ⟨ao, cap, rfl⟩ := ps_slice hP2; have HO := of_any ds _ w2 hP2)
    | (go_at_call 10; refine HO.mono ?_; rintro e w3 ⟨rfl, hM3, hb3⟩; have hP3 := (hP2.below hb3).below ((Below.refl _ _).alloc (Nat.le_refl _) (.cells #[.map (some (w2.heap.size + 1)), .int .i64 (sizeP ds)] 29)); have hM4 := hM3.below ((Below.refl _ _).alloc (Nat.le_refl _) (.cells #[.map (some (w2.heap.size + 1)), .int .i64 (sizeP ds)] 29)); have HL := labels_any ds _ _ hP3)
    | (go_at_call 11; refine HL.mono ?_; rintro e w5 ⟨v5, rfl, hR5, hb5⟩; obtain ⟨lo5, cp5, rfl⟩ := lrow_slice hR5))
  have hP5 := hP3.below hb5
  have hM5 := hM4.below hb5
  have hB4 : (w3.alloc (.cells #[.map (some (w2.heap.size + 1)), .int .i64 (sizeP ds)] 29)).heap[w3.heap.size]? = some (.cells #[.map (some (w2.heap.size + 1)), .int .i64 (sizeP ds)] 29 (0, 0)) := by rw [alloc_at, if_pos rfl]
  have hB5 : w5.heap[w3.heap.size]? = some (.cells #[.map (some (w2.heap.size + 1)), .int .i64 (sizeP ds)] 29 (0, 0)) := (hb5.block _ (heap_lt hB4)).trans hB4
  have hb05 : Below w.heap.size w w5 := by
    have a := hb1.trans (hb2.mono hb1.size)
    have b := a.trans (hb3.mono a.size)
    have c := b.alloc b.size (.cells #[.map (some (w2.heap.size + 1)), .int .i64 (sizeP ds)] 29)
    exact c.trans (hb5.mono c.size)
  have HP5 := Lib.hid hP5
  have HM5 := Lib.hid hM5
  have HR5 := Lib.hid hR5
  have HB5 := Lib.hid hB5
  have hsz := size_nonneg ds
  have hll := labels_len ds
  clear hP5 hM5 hR5 hB5 hB4 hb1 hb2 hb3 hb5 hP3 hM4 HL HO hP2 hR2 hM3
  go_loopw [8, 27] (fun s i wr => ∃ k : Nat, k ≤ ds.length ∧ i = .int .i64 k ∧ s = .int .i64 (sizeP (ds.take k)) ∧ Below w5.heap.size w5 wr) (fun _ i _ => ds.length - (intOf i).toNat)
  case atStart => exact ⟨0, Nat.zero_le _, rfl, rfl, Below.refl _ _⟩
  case round =>
    obtain ⟨k, hk, rfl, hs, hBr⟩ := hrel
    by_cases hlt : k < ds.length
    · obtain ⟨d, hd⟩ : ∃ d, ds[k]? = some d := ⟨ds[k], by simp [hlt]⟩
      obtain ⟨nm, g, off, rfl, hg, p0, p1, p2, p3, p4, p5⟩ := ps_get HP5.out hd
      have key : ∀ j u, w5.cell? ⟨g, j, none⟩ = some u → wr.cell? ⟨g, j, none⟩ = some u := fun j u hu => (World.cell?_of_block (hBr.block g hg)).trans hu
      replace p0 := key _ _ p0
      replace p1 := key _ _ p1
      replace p2 := key _ _ p2
      replace p3 := key _ _ p3
      replace p4 := key _ _ p4
      replace p5 := key _ _ p5
      clear key
      have hb := size_nonneg (ds.take k)
      rw [List.length_take, Nat.min_eq_left hk] at hb
      have hnext : sizeP (ds.take (k + 1)) = sizeP (ds.take k) + cellsP d := by rw [take_snoc hd, size_snoc]
      have hc := cells_pos d
      have hce := HCE.out k d hd
      have hst := HST.out k d hd
      have hin : sizeP (ds.take k) + cellsP d ≤ sizeP ds := by
        rw [← hnext]
        have e : sizeP ds = sizeP (ds.take (k + 1)) + sizeP (ds.drop (k + 1)) := by
          have app : ∀ a b : List Pd, sizeP (a ++ b) = sizeP a + sizeP b := fun a b => by
            induction a with
            | nil => simp [sizeP]
            | cons x a ih => simp only [sizeP, List.cons_append, ih]; omega
          rw [← app, List.take_append_drop]
        have := size_nonneg (ds.drop (k + 1))
        omega
      have hlab : ∀ j : Nat, (j : Int) < cellsP d → (labelsP ds)[(sizeP (ds.take k)).toNat + j]? = some (labelP d) := fun j hj => labels_at ds k d j hd hj
      obtain ⟨S, hS⟩ : ∃ S : Nat, (S : Int) = sizeP (ds.take k) := ⟨(sizeP (ds.take k)).toNat, by omega⟩
      obtain ⟨C, hC⟩ : ∃ C : Nat, (C : Int) = cellsP d := ⟨(cellsP d).toNat, by omega⟩
      rw [← hS] at hs hnext hb hst hin hlab
      rw [← hC] at hnext hc hce hin hlab
      rw [Int.toNat_natCast] at hlab
      have HN := Lib.hid hnext
      have HLA := Lib.hid hlab
      clear hnext hd hlab hS hC
      subst hs
      have hMr := (HM5.out.below hBr).below ((Below.refl _ _).alloc (Nat.le_refl _) (dobj d))
      have hBx : (wr.alloc (dobj d)).heap[w3.heap.size]? = some (.cells #[.map (some (w2.heap.size + 1)), .int .i64 (sizeP ds)] 29 (0, 0)) := (((Below.refl _ _).alloc (Nat.le_refl _) (dobj d)).block _ (by have := hBr.size; have := heap_lt HB5.out; omega)).trans ((hBr.block _ (heap_lt HB5.out)).trans HB5.out)
      have H6 := start_some hMr (sizeP ds) d.name nm (S : Int) hst
      have hDx : (wr.alloc (dobj d)).heap[wr.heap.size]? = some (dobj d) := by rw [alloc_at, if_pos rfl]
      obtain ⟨b0, b1, _, _⟩ := map_cells hBx
      have HBX := Lib.hid hBx
      have HDX := Lib.hid hDx
      have HM := Lib.hid hMr
      clear hBx hDx hMr hst
      have hb6 : Below w5.heap.size w5 (wr.alloc (dobj d)) := hBr.alloc hBr.size _
      go_wp2_with fail
      go_at_call 12
      refine H6.mono ?_
      rintro e w6 ⟨rfl, hb7⟩
      have hD6 : w6.heap[wr.heap.size]? = some (dobj d) := (hb7.block _ (heap_lt HDX.out)).trans HDX.out
      obtain ⟨x0, x1, x2, x3, x4, x5⟩ := dobj_cells hD6
      have h56 := hb6.trans (hb7.mono hb6.size)
      have HD6 := Lib.hid hD6
      clear hD6 H6
      by_cases h1 : 1 < d.size
      · rw [if_pos h1] at hce
        have hce2 : min d.size 64 = (C : Int) := hce.symm
        clear hce
        go_wp2
        go_loopw [14] (fun i wr => ∃ j : Nat, j ≤ C ∧ i = .int .i64 j ∧ wr = w6) (fun i _ => C - (intOf i).toNat)
        case atStart => exact ⟨0, Nat.zero_le _, rfl, rfl⟩
        case round =>
          obtain ⟨j, hj, rfl, rfl⟩ := hrel
          by_cases hlj : j < C
          · have hl := HLA.out j (by omega)
            obtain ⟨g5, rfl, hg5, q0⟩ := lrow_at HR5.out hl
            have hTL : S + j < (labelsP ds).length := (List.getElem?_eq_some_iff.1 hl).1
            obtain ⟨T, hT⟩ : ∃ T, T = S + j := ⟨_, rfl⟩
            have hTe : wrap64 ((S : Int) + (j : Int)) = (T : Int) := by unfold wrap64; omega
            rw [Nat.zero_add] at q0
            have hTL2 := hTL
            rw [← hT] at hTL
            clear hT
            replace q0 : wr.cell? ⟨g5, S + j, none⟩ = some (.int .i64 (labelP d)) := (World.cell?_of_block (h56.block g5 hg5)).trans q0
            clear hl
            cases hk2 : d.lock with
            | true =>
              rw [hk2] at x0
              have e : labelP d = 0 := by unfold labelP; rw [if_pos hk2]
              rw [e] at q0
              go_wp2
              go_roundw
              case rel => exact ⟨j + 1, by omega, by go_num, by trivial⟩
              case measure => exact meas hlj
            | false =>
              rw [hk2] at x0
              have e : labelP d = d.label := by unfold labelP; rw [if_neg (by simp [hk2])]
              rw [e] at q0
              go_wp2
              go_roundw
              case rel => exact ⟨j + 1, by omega, by go_num, by trivial⟩
              case measure => exact meas hlj
          · obtain rfl : j = C := by omega
            go_wp2
            go_roundw
            case rel => exact ⟨k + 1, by omega, by go_num, by rw [HN.out], h56⟩
            case measure => exact meas hlt
      · rw [if_neg h1] at hce
        obtain rfl : C = 1 := by omega
        go_wp2
        go_loopw [14] (fun i wr => ∃ j : Nat, j ≤ 1 ∧ i = .int .i64 j ∧ wr = w6) (fun i _ => 1 - (intOf i).toNat)
        case atStart => exact ⟨0, Nat.zero_le _, rfl, rfl⟩
        case round =>
          obtain ⟨j, hj, rfl, rfl⟩ := hrel
          by_cases hlj : j < 1
          · have hl := HLA.out j (by omega)
            obtain ⟨g5, rfl, hg5, q0⟩ := lrow_at HR5.out hl
            have hTL : S + j < (labelsP ds).length := (List.getElem?_eq_some_iff.1 hl).1
            obtain ⟨T, hT⟩ : ∃ T, T = S + j := ⟨_, rfl⟩
            have hTe : wrap64 ((S : Int) + (j : Int)) = (T : Int) := by unfold wrap64; omega
            rw [Nat.zero_add] at q0
            have hTL2 := hTL
            rw [← hT] at hTL
            clear hT
            replace q0 : wr.cell? ⟨g5, S + j, none⟩ = some (.int .i64 (labelP d)) := (World.cell?_of_block (h56.block g5 hg5)).trans q0
            clear hl
            cases hk2 : d.lock with
            | true =>
              rw [hk2] at x0
              have e : labelP d = 0 := by unfold labelP; rw [if_pos hk2]
              rw [e] at q0
              go_wp2
              go_roundw
              case rel => exact ⟨j + 1, by omega, by go_num, by trivial⟩
              case measure => exact meas hlj
            | false =>
              rw [hk2] at x0
              have e : labelP d = d.label := by unfold labelP; rw [if_neg (by simp [hk2])]
              rw [e] at q0
              go_wp2
              go_roundw
              case rel => exact ⟨j + 1, by omega, by go_num, by trivial⟩
              case measure => exact meas hlj
          · obtain rfl : j = 1 := by omega
            go_wp2
            go_roundw
            case rel => exact ⟨k + 1, by omega, by go_num, by rw [HN.out]; rfl, h56⟩
            case measure => exact meas hlt
    · obtain rfl : k = ds.length := by omega
      rw [List.take_length] at hs
      have hBx : wr.heap[w3.heap.size]? = some (.cells #[.map (some (w2.heap.size + 1)), .int .i64 (sizeP ds)] 29 (0, 0)) := (hBr.block _ (heap_lt HB5.out)).trans HB5.out
      obtain ⟨b0, b1, _, _⟩ := map_cells hBx
      have HBX := Lib.hid hBx
      clear hBx
      have h0r := hb05.trans (hBr.mono hb05.size)
      subst hs
      go_wp2_with (go_at_call 13; refine (size_any _ _ _).mono ?_; rintro e w7 ⟨rfl, hb7⟩)
      go_ret
      exact ⟨by simp [hll], h0r.trans (hb7.mono h0r.size)⟩
end Go.Proofs.Ytonlfplojhlmjaa.Pl
