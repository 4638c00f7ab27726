/- The walk of PlaceMore: on every input it returns true. Conditions: none. -/
import Derived.Test.YtonlfplojhlmjaaPlApart
import Derived.Test.YtonlfplojhlmjaaRegMono
import Derived.Laws.AppendOwnNone
namespace Go.Proofs.Ytonlfplojhlmjaa.Pl
open Go.ChangeShapes Go.WideShapes Go.RowKit Go.Maps
set_option linter.unusedVariables false
set_option linter.unusedSimpArgs false

theorem below_none {w w' : World} (h : w.grownBy w' none) : Below w.heap.size w w' := ⟨h.os, h.tape, h.output, h.size, fun k hk => h.block k hk (by simp)⟩
/-- 'append(nil, ds...)', at the operation. -/
theorem wpList_copy_ps {ops : Array Oper} {rest : List Oper} {o : Oper} {act : Act} {Q : Exit → Act → World → Prop} (w : World) (hgd : o.guard = none) (s x : Operand)
    (ho : o.op = .call { callee := .builtin .append, args := #[s, x], argTypes := #[25, 25] }) (lo : Nat) (v : Value) (ds : List Pd) (hs : act.eval s = .slice none 0 0) (hx : act.eval x = v) (hR : PRow lo w v ds) (hlen : ds.length ≤ 600)
    (h : ∀ v' w', PRow w.heap.size w' v' ds → Below w.heap.size w w' → wpList Try.prog ops Q rest (act.put o.dst v') w') : wpList Try.prog ops Q (o :: rest) act w := by
  refine wpList_plain hgd fun K hK => ?_
  obtain ⟨i0, hi, hz0, hz1, hz2⟩ := info_parts infoD
  rcases hR.2 with ⟨rfl, h0⟩ | ⟨g, cap, cur, rfl, hb, hgg, rest'⟩
  · have hown : w.ownsRow w.heap.size 35 6 (.slice none 0 0) 0 [] := World.ownsRow_nil _ _ _ _
    have hrun := run_append_owned_none (P := Try.prog) (w := w) w.heap.size 25 o.type 35 i0 6 Try.underlying25 hi _ _ _ hown
    have hd0 : ds = [] := List.length_eq_zero_iff.1 h0
    subst hd0
    unfold Oper.wp
    simp [execOp, ho, resolve, invoke, builtin, hs, hx, hrun, Result.andThen]
    exact hK _ _ (h _ _ hown (Below.refl _ _))
  · obtain ⟨v', w', hr, h2, h3, h4, h5⟩ := run_append_own_at (P := Try.prog) w w.heap.size 25 o.type 35 i0 _ 6 64 Try.underlying25 hi hz0 hz1 hz2 rfl (by decide) (.slice none 0 0) 0 [] (World.ownsRow_nil _ _ _ _) ⟨g, 0, none⟩ ds.length cap (dflat ds) (dflat_len ds) (fun j u hu => World.ownsRow.cells hR (g := g) rfl j u hu) (dflat_one ds) (by unfold maxLen; omega) (by omega) (Nat.le_refl _)
    unfold Oper.wp execOp
    simp only [ho, resolve, invoke, builtin, Sem.run_bind, Sem.run_pure, Result.andThen_ok, List.map_toArray, List.map_cons, List.map_nil, hs, hx, hr]
    exact hK _ _ (h v' w' (by simpa [PRow] using h2) (below_none h3))
def zz : ByteArray := ⟨#[122, 122, 122, 122]⟩
def moreP (n : Int) : Pd := ⟨false, 0, zz, n, ⟨#[]⟩, 0⟩
theorem more_unlike {zs : List Int} (n : Int) (a b : Nat) (x y : Pd) (ha : (declsP zs [] ++ [moreP n])[a]? = some x) (hb : (declsP zs [] ++ [moreP n])[b]? = some y) (h : x.name = y.name) : a = b := by
  have key : ∀ (k : Nat) (d : Pd), (declsP zs [] ++ [moreP n])[k]? = some d → ((declsP zs [])[k]? = some d ∧ k < (declsP zs []).length ∧ d.name.size = 3) ∨ (k = (declsP zs []).length ∧ d = moreP n) := fun k d hd => by
    rcases Nat.lt_trichotomy k (declsP zs []).length with hk | hk | hk
    · rw [List.getElem?_append_left hk] at hd
      exact .inl ⟨hd, hk, (decls_name (List.mem_of_getElem? hd)).1⟩
    · subst hk
      simp at hd
      exact .inr ⟨rfl, hd.symm⟩
    · rw [List.getElem?_eq_none (by simp; omega)] at hd; cases hd
  rcases key a x ha with ⟨h1, _, s1⟩ | ⟨h1, rfl⟩ <;> rcases key b y hb with ⟨h2, _, s2⟩ | ⟨h2, rfl⟩
  · exact decls_unlike zs [] a b x y h1 h2 h
  · rw [h] at s1; exact absurd (show (4 : Nat) = 3 from s1) (by decide)
  · rw [← h] at s2; exact absurd (show (4 : Nat) = 3 from s2) (by decide)
  · omega
theorem more_start {zs : List Int} (n : Int) {k : Nat} {d : Pd} (hd : (declsP zs [])[k]? = some d) : startsP (declsP zs [] ++ [moreP n]) none0 0 d.name = some (sizeP ((declsP zs []).take k)) := by
  have hk := (List.getElem?_eq_some_iff.1 hd).1
  have := starts_at (declsP zs [] ++ [moreP n]) none0 0 k d (fun a b x y => more_unlike n a b x y) (fun _ _ => rfl) (by rw [List.getElem?_append_left hk]; exact hd)
  rw [Int.zero_add, List.take_append_of_le_length (by omega)] at this
  exact this
theorem more_zz {zs : List Int} (n : Int) : startsP (declsP zs [] ++ [moreP n]) none0 0 zz = some (sizeP (declsP zs [])) := by
  have := starts_at (declsP zs [] ++ [moreP n]) none0 0 (declsP zs []).length (moreP n) (fun a b x y => more_unlike n a b x y) (fun _ _ => rfl) (by simp)
  rw [Int.zero_add, List.take_left] at this
  exact this
theorem more_size {zs : List Int} (n : Int) : sizeP (declsP zs [] ++ [moreP n]) = sizeP (declsP zs []) + max 1 (min n 64) := by
  rw [size_snoc]
  congr 1
  unfold cellsP moreP
  simp only [Bool.false_eq_true, if_false]
  omega

theorem more_row {B : Nat} {w5 : World} {v5 : Value} {ds : List Pd} {n : Int} (hown : w5.ownsRow B 35 6 v5 (ds.length + 1) (dflat ds ++ [.bool false, .int .i64 0, .string ⟨#[122, 122, 122, 122]⟩, .int .i64 n, .string ⟨#[]⟩, .int .i64 0])) : PRow B w5 v5 (ds ++ [moreP n]) := by
  show World.ownsRow _ _ _ _ _ _ _
  rw [dflat_snoc, List.length_append]
  exact hown
theorem prow_slice {lo : Nat} {w : World} {v : Value} {ds : List Pd} (h : PRow lo w v ds) : ∃ ao cap, v = .slice ao ds.length cap := by
  rcases h.2 with ⟨rfl, h0⟩ | ⟨g, cap, cur, rfl, _⟩
  · exact ⟨none, 0, by rw [h0]⟩
  · exact ⟨_, _, rfl⟩
theorem more_below {w3 w4 w5 : World} {v4 : Value} {ds : List Pd} {o : Obj} (hR : PRow w3.heap.size w4 v4 ds) (hg : (w4.alloc o).grownBy w5 v4.ownBlock) (hb : Below w3.heap.size w3 w4) : Below w3.heap.size w3 w5 :=
  (hb.alloc hb.size o).grown hg (by rw [alloc_size]; have := hb.size; omega) (fun q hq => own_ge hR hq)

set_option maxHeartbeats 4000000 in
set_option maxRecDepth 100000 in
theorem more_walk (w : World) (v0 : Value) (zs0 : List Int) (a1 : Int) (h0 : IntsAt w .i8 v0 zs0) (z0 : ∀ n ∈ zs0, (Lit.int .i8 n).wf = true) (b1 : -128 ≤ a1 ∧ a1 ≤ 127) :
    Calls Try.prog 5 #[v0, .int .i8 a1] w fun e w' => e = .returned (.bool true) ∧ Below w.heap.size w w' := by
  obtain ⟨ds, hds⟩ : ∃ ds, ds = declsP zs0 [] := ⟨_, rfl⟩
  have HA := awake_any w
  have HD : ∀ w1, Below w.heap.size w w1 → Calls Try.prog 9 #[v0, .slice none 0 0] w1 fun e w' => ∃ v', e = .returned v' ∧ PRow w1.heap.size w' v' ds ∧ Below w1.heap.size w1 w' := fun w1 hb => hds ▸ decls_any zs0 [] v0 _ w1 (ints_below h0 hb) z0 (bools_nil w1)
  have HP : ∀ lo w v, PRow lo w v ds → PsAt w v ds := fun lo w v h => hds ▸ row_ps (hds ▸ h)
  have hlen : ds.length ≤ 600 := by rw [hds, decls_len]; omega
  have HST : Hid (∀ k d, ds[k]? = some d → startsP ds none0 0 d.name = some (sizeP (ds.take k))) := Lib.hid fun k d h => by rw [hds] at h ⊢; exact decls_start h
  have HMS : Hid (∀ k d, ds[k]? = some d → startsP (ds ++ [moreP a1]) none0 0 d.name = some (sizeP (ds.take k))) := Lib.hid fun k d h => by rw [hds] at h ⊢; exact more_start a1 h
  have HZZ : Hid (startsP (ds ++ [moreP a1]) none0 0 zz = some (sizeP ds)) := Lib.hid (by rw [hds]; exact more_zz a1)
  have HSZ : Hid (sizeP (ds ++ [moreP a1]) = sizeP ds + max 1 (min a1 64)) := Lib.hid (by rw [hds]; exact more_size a1)
  have HNM : Hid (∀ d ∈ ds ++ [moreP a1], d.name.size ≤ maxLen) := Lib.hid fun d hd => by
    rcases List.mem_append.1 hd with hd | hd
    · rw [hds] at hd; rw [(decls_name hd).1]; unfold maxLen; omega
    · simp at hd; subst hd; show (4 : Nat) ≤ maxLen; unfold maxLen; omega
  have hwa : wrap64 a1 = a1 := by unfold wrap64; omega
  obtain ⟨i0, hi, hz0, hz1, hz2⟩ := info_parts infoD
  clear hds h0
  go_enter Try.func5, Try.ntmps5
  go_wp2_with (first
    | (go_at_call 8; refine HA.mono ?_; rintro e w1 ⟨rfl, hb1⟩)
    | (go_at_call 9; refine (HD _ hb1).mono ?_; rintro e w2 ⟨v2, rfl, hR2, hb2⟩; have hP2 := HP _ _ _ hR2; have HO := of_any ds _ w2 hP2; have hb02 := hb1.trans (hb2.mono hb1.size); obtain ⟨ao, cap, hv2⟩ := ps_slice hP2; subst hv2)
    | (go_at_call 10; refine HO.mono ?_; rintro e w3 ⟨rfl, hM3, hb3⟩; have hR3 := own_keepB hR2 hb3; have hb03 := hb02.trans (hb3.mono hb02.size))
    | (at_builtin; refine wpList_copy_ps w3 rfl (.const (.slice none 0 0)) (.tmp 22) rfl _ _ ds rfl rfl hR3 hlen ?_; intro v4 w4 hR4 hb4; obtain ⟨ao4, cp4, rfl⟩ := prow_slice hR4; replace hR4 := Lib.hid hR4; go_wp2_with (first | (at_builtin; refine wpList_append_own_at _ rfl _ _ 25 rfl w3.heap.size 35 i0 (.agg #[.bool false, .int .i64 0, .string ⟨#[]⟩, .int .i64 0, .string ⟨#[]⟩, .int .i64 0]) 6 64 Try.underlying25 hi hz0 hz1 hz2 rfl (by decide) _ ds.length _ rfl (own_keepB hR4.out ((Below.refl _ _).alloc (Nat.le_refl _) _)) ⟨_, 0, none⟩ 1 1 [.bool false, .int .i64 0, .string ⟨#[122, 122, 122, 122]⟩, .int .i64 a1, .string ⟨#[]⟩, .int .i64 0] rfl rfl (six_news _ _ _ _ _ _ _ _ rfl) (six_one _ _ _ _ _ _) (by unfold maxLen; omega) (by omega) (by simp; have := hb4.size; omega) ?_; intro v5 w5 hown5 hgrow hnil hloc; have hR5 := more_row hown5; have hb45 := more_below hR4.out hgrow hb4; have HO2 := of_any (ds ++ [moreP a1]) v5 w5 (PRow.at hR5 (by simp; omega) HNM.out); rw [HSZ.out] at HO2; replace hR5 := Lib.hid hR5) | (go_at_call 10; refine HO2.mono ?_; rintro e w6 ⟨rfl, hM6, hb6⟩))))
  obtain ⟨S, hS⟩ : ∃ S, S = sizeP ds := ⟨_, rfl⟩
  obtain ⟨c, hc⟩ : ∃ c, c = max 1 (min a1 64) := ⟨_, rfl⟩
  have hS0 := size_nonneg ds
  have hc0 : 1 ≤ c ∧ c ≤ 64 := by omega
  rw [← hS] at hS0
  have HZ2 : Hid (startsP (ds ++ [moreP a1]) none0 0 zz = some S) := Lib.hid (by rw [hS]; exact HZZ.out)
  rw [← hS, ← hc]
  have hb06 : Below w.heap.size w w6 := by
    have a := hb03.trans (hb45.mono hb03.size)
    exact a.trans (hb6.mono a.size)
  have hM36 := (hM3.below hb45).below hb6
  obtain ⟨wB, hwB⟩ : ∃ wB, wB = (w6.alloc (.cells #[.map (some (w2.heap.size + 1)), .int .i64 S] 29)).alloc (.cells #[.map (some (w5.heap.size + 1)), .int .i64 (S + c)] 29) := ⟨_, rfl⟩
  have hb6B : Below w6.heap.size w6 wB := by rw [hwB]; exact ((Below.refl _ _).alloc (Nat.le_refl _) _).alloc (by simp) _
  have hB1 : wB.heap[w6.heap.size]? = some (.cells #[.map (some (w2.heap.size + 1)), .int .i64 S] 29 (0, 0)) := by rw [hwB, alloc_at, if_neg (by rw [alloc_size]; omega), alloc_at, if_pos rfl]
  have hB2 : wB.heap[w6.heap.size + 1]? = some (.cells #[.map (some (w5.heap.size + 1)), .int .i64 (S + c)] 29 (0, 0)) := by rw [hwB, alloc_at, if_pos (by rw [alloc_size])]
  have hMA := hM36.below hb6B
  have hMB := hM6.below hb6B
  have hPB := (((hP2.below hb3).below hb45).below hb6).below hb6B
  have h0B := hb06.trans (hb6B.mono hb06.size)
  rw [← hwB]
  have HMA := Lib.hid hMA
  have HMB := Lib.hid hMB
  have HPB := Lib.hid hPB
  have HB1 := Lib.hid hB1
  have HB2 := Lib.hid hB2
  have HS := Lib.hid hS
  have HC := Lib.hid hc
  obtain ⟨q1, hq1⟩ : ∃ q1, q1 = w6.heap.size := ⟨_, rfl⟩
  rw [← hq1] at HB1 HB2
  rw [← hq1]
  clear hwB hB1 hB2 hMA hMB hPB hM36 hM6 hM3 hb1 hb2 hb02 hb3 hb03 hb45 hb4 hR2 hR3 hR4 hR5 hP2 HO HO2 hgrow hloc hnil hown5 hS hc hb6 hb6B hb06 hq1
  go_loopw [32] (fun i wr => ∃ k : Nat, k ≤ ds.length ∧ i = .int .i64 k ∧ Below wB.heap.size wB wr) (fun i _ => ds.length - (intOf i).toNat)
  case atStart => exact ⟨0, Nat.zero_le _, rfl, Below.refl _ _⟩
  case round =>
    obtain ⟨k, hk, rfl, hBr⟩ := hrel
    by_cases hlt : k < ds.length
    · obtain ⟨d, hd⟩ : ∃ d, ds[k]? = some d := ⟨ds[k], by simp [hlt]⟩
      obtain ⟨nm, g, off, rfl, hg, p0, p1, p2, p3, p4, p5⟩ := ps_get HPB.out hd
      have key : ∀ j u, wB.cell? ⟨g, j, none⟩ = some u → wr.cell? ⟨g, j, none⟩ = some u := fun j u hu => (World.cell?_of_block (hBr.block g hg)).trans hu
      replace p0 := key _ _ p0
      replace p1 := key _ _ p1
      replace p2 := key _ _ p2
      replace p3 := key _ _ p3
      replace p4 := key _ _ p4
      replace p5 := key _ _ p5
      clear key
      have hst := HST.out k d hd
      have hms := HMS.out k d hd
      obtain ⟨I, hI⟩ : ∃ I, I = sizeP (ds.take k) := ⟨_, rfl⟩
      rw [← hI] at hst hms
      have hbD : Below wr.heap.size wr (wr.alloc (dobj d)) := (Below.refl _ _).alloc (Nat.le_refl _) _
      have hBD := hBr.trans (hbD.mono hBr.size)
      have hb1 : (wr.alloc (dobj d)).heap[q1]? = _ := (hBD.block _ (heap_lt HB1.out)).trans HB1.out
      have hb2 : (wr.alloc (dobj d)).heap[q1 + 1]? = _ := (hBD.block _ (heap_lt HB2.out)).trans HB2.out
      have hdd : (wr.alloc (dobj d)).heap[wr.heap.size]? = some (dobj d) := by rw [alloc_at, if_pos rfl]
      have H1 := start_some (HMA.out.below hBD) S d.name nm I hst
      obtain ⟨m0, m1, _, _⟩ := map_cells hb1
      have K2 := Lib.hid hb2
      have KD := Lib.hid hdd
      clear hI hb1 hb2 hdd hst hd
      go_wp2_with fail
      go_at_call 12
      refine H1.mono ?_
      rintro e w7 ⟨rfl, hb7⟩
      have hb72 : w7.heap[q1 + 1]? = _ := (hb7.block _ (heap_lt K2.out)).trans K2.out
      have hd7 : w7.heap[wr.heap.size]? = _ := (hb7.block _ (heap_lt KD.out)).trans KD.out
      have H2 := start_some ((HMB.out.below hBD).below hb7) (S + c) d.name nm I hms
      obtain ⟨n0, n1, _, _⟩ := map_cells hb72
      obtain ⟨x0, x1, x2, x3, x4, x5⟩ := dobj_cells hd7
      have hB7 := hBD.trans (hb7.mono hBD.size)
      clear hb72 hd7 H1 m0 m1 hms
      go_wp2_with fail
      go_at_call 12
      refine H2.mono ?_
      rintro e w8 ⟨rfl, hb8⟩
      clear H2
      go_wp2
      go_roundw
      case rel => exact ⟨k + 1, by omega, by go_num, hB7.trans (hb8.mono hB7.size)⟩
      case measure => exact meas hlt
    · obtain rfl : k = ds.length := by omega
      have hb1 : wr.heap[q1]? = _ := (hBr.block _ (heap_lt HB1.out)).trans HB1.out
      have hb2 : wr.heap[q1 + 1]? = _ := (hBr.block _ (heap_lt HB2.out)).trans HB2.out
      have h0r := h0B.trans (hBr.mono h0B.size)
      have H1 := start_some (HMB.out.below hBr) (S + c) zz (by show (4 : Nat) ≤ maxLen; unfold maxLen; omega) S HZ2.out
      obtain ⟨n0, n1, _, _⟩ := map_cells hb2
      have K1 := Lib.hid hb1
      have K2 := Lib.hid hb2
      clear hb1 hb2
      go_wp2_with fail
      go_at_call 12
      refine H1.mono ?_
      rintro e w7 ⟨rfl, hb7⟩
      have kb1 : w7.heap[q1]? = _ := (hb7.block _ (heap_lt K1.out)).trans K1.out
      have kb2 : w7.heap[q1 + 1]? = _ := (hb7.block _ (heap_lt K2.out)).trans K2.out
      have h07 := h0r.trans (hb7.mono h0r.size)
      have hcc : max 1 (min a1 64) = c := HC.out.symm
      clear n0 n1 H1
      go_wp2_with fail
      refine wp_region_mono (by kernel_rfl) (by kernel_rfl) (by kernel_rfl) (by kernel_rfl) (by kernel_rfl) (fun (i : Nat) (v : Value) (wv : World) => match i with | 0 => v = .bool true | 1 => v = .bool true | 2 => v = .int .i64 S | 3 => v = .agg #[.map (some (w2.heap.size + 1)), .int .i64 S] | 4 => v = .int .i64 S | 5 => v = .bool true | 6 => v = .bool true | 7 => v = .bool true | 8 => v = .agg #[.map (some (w5.heap.size + 1)), .int .i64 (S + c)] | 9 => v = .int .i64 (S + c) | 10 => v = .agg #[.map (some (w2.heap.size + 1)), .int .i64 S] | 11 => v = .int .i64 S | 12 => v = .int .i8 a1 | 13 => v = .int .i64 a1 | 14 => v = .int .i64 (min a1 64) | 15 => v = .int .i64 c | 16 => v = .int .i64 (S + c) | 17 => v = .bool true | 18 => v = .bool true | 19 => v = .bool true | _ => True) ?_ [(1, true), (7, true)] (by kernel_rfl) ?_ ?_ ?_
      · intro i v w w' hb h
        match i with
        | 0 => exact h
        | 1 => exact h
        | 2 => exact h
        | 3 => exact h
        | 4 => exact h
        | 5 => exact h
        | 6 => exact h
        | 7 => exact h
        | 8 => exact h
        | 9 => exact h
        | 10 => exact h
        | 11 => exact h
        | 12 => exact h
        | 13 => exact h
        | 14 => exact h
        | 15 => exact h
        | 16 => exact h
        | 17 => exact h
        | 18 => exact h
        | 19 => exact h
        | _ + 20 => trivial
      · intro p hp v w h
        simp only [List.mem_cons, List.not_mem_nil, or_false] at hp
        rcases hp with rfl | rfl
        · exact h
        · exact h
      · intro a wr i op hop hb hF hP K hK
        have s1 : a.tmps[1]?.getD undef = .int .i8 a1 := (hF 1 (by kernel_rfl)).trans rfl
        have s6 : a.tmps[6]?.getD undef = .pointer (some ⟨q1, 0, none⟩) := (hF 6 (by kernel_rfl)).trans rfl
        have s7 : a.tmps[7]?.getD undef = .pointer (some ⟨q1 + 1, 0, none⟩) := (hF 7 (by kernel_rfl)).trans rfl
        have s14 : a.tmps[14]?.getD undef = .int .i64 S := (hF 14 (by kernel_rfl)).trans rfl
        have s15 : a.tmps[15]?.getD undef = .bool true := (hF 15 (by kernel_rfl)).trans rfl
        have kc1 : wr.heap[q1]? = _ := (hb.block _ (heap_lt kb1)).trans kb1
        have kc2 : wr.heap[q1 + 1]? = _ := (hb.block _ (heap_lt kb2)).trans kb2
        obtain ⟨m0, m1, _, _⟩ := map_cells kc1
        obtain ⟨n00, n01, _, _⟩ := map_cells kc2
        match i with
        | 0 =>
          simp only [List.getElem?_toArray, List.getElem?_cons_zero, List.getElem?_cons_succ, Option.some.injEq] at hop
          subst hop
          go_simp
          exact hK _ _ (Below.refl _ _) fun _ => by first | rfl | exact wrap_val (by omega)
        | 1 =>
          simp only [List.getElem?_toArray, List.getElem?_cons_zero, List.getElem?_cons_succ, Option.some.injEq] at hop
          subst hop
          have n0 : a.tmps[59]?.getD undef = .bool true := hP 0 59 (by kernel_rfl) (by kernel_rfl)
          go_simp
          exact hK _ _ (Below.refl _ _) fun _ => by first | rfl | exact wrap_val (by omega)
        | 2 =>
          simp only [List.getElem?_toArray, List.getElem?_cons_zero, List.getElem?_cons_succ, Option.some.injEq] at hop
          subst hop
          go_simp
          exact hK _ _ (Below.refl _ _) fun _ => by first | rfl | exact wrap_val (by omega)
        | 3 =>
          simp only [List.getElem?_toArray, List.getElem?_cons_zero, List.getElem?_cons_succ, Option.some.injEq] at hop
          subst hop
          go_simp
          exact hK _ _ (Below.refl _ _) fun _ => by first | rfl | exact wrap_val (by omega)
        | 4 =>
          simp only [List.getElem?_toArray, List.getElem?_cons_zero, List.getElem?_cons_succ, Option.some.injEq] at hop
          subst hop
          have n3 : a.tmps[62]?.getD undef = .agg #[.map (some (w2.heap.size + 1)), .int .i64 S] := hP 3 62 (by kernel_rfl) (by kernel_rfl)
          go_simp
          go_at_call 13
          refine (size_any _ _ _).mono ?_
          rintro e w9 ⟨rfl, hb9⟩
          go_simp
          exact hK _ _ hb9 fun _ => rfl
        | 5 =>
          simp only [List.getElem?_toArray, List.getElem?_cons_zero, List.getElem?_cons_succ, Option.some.injEq] at hop
          subst hop
          have n2 : a.tmps[61]?.getD undef = .int .i64 S := hP 2 61 (by kernel_rfl) (by kernel_rfl)
          have n4 : a.tmps[63]?.getD undef = .int .i64 S := hP 4 63 (by kernel_rfl) (by kernel_rfl)
          go_simp
          exact hK _ _ (Below.refl _ _) fun _ => by first | rfl | exact wrap_val (by omega)
        | 6 =>
          simp only [List.getElem?_toArray, List.getElem?_cons_zero, List.getElem?_cons_succ, Option.some.injEq] at hop
          subst hop
          have n1 : a.tmps[60]?.getD undef = .bool true := hP 1 60 (by kernel_rfl) (by kernel_rfl)
          have n5 : a.tmps[64]?.getD undef = .bool true := hP 5 64 (by kernel_rfl) (by kernel_rfl)
          go_simp
          exact hK _ _ (Below.refl _ _) fun _ => by first | rfl | exact wrap_val (by omega)
        | 7 =>
          simp only [List.getElem?_toArray, List.getElem?_cons_zero, List.getElem?_cons_succ, Option.some.injEq] at hop
          subst hop
          have n6 : a.tmps[65]?.getD undef = .bool true := hP 6 65 (by kernel_rfl) (by kernel_rfl)
          go_simp
          exact hK _ _ (Below.refl _ _) fun _ => by first | rfl | exact wrap_val (by omega)
        | 8 =>
          simp only [List.getElem?_toArray, List.getElem?_cons_zero, List.getElem?_cons_succ, Option.some.injEq] at hop
          subst hop
          go_simp
          exact hK _ _ (Below.refl _ _) fun _ => by first | rfl | exact wrap_val (by omega)
        | 9 =>
          simp only [List.getElem?_toArray, List.getElem?_cons_zero, List.getElem?_cons_succ, Option.some.injEq] at hop
          subst hop
          have n8 : a.tmps[67]?.getD undef = .agg #[.map (some (w5.heap.size + 1)), .int .i64 (S + c)] := hP 8 67 (by kernel_rfl) (by kernel_rfl)
          go_simp
          go_at_call 13
          refine (size_any _ _ _).mono ?_
          rintro e w9 ⟨rfl, hb9⟩
          go_simp
          exact hK _ _ hb9 fun _ => rfl
        | 10 =>
          simp only [List.getElem?_toArray, List.getElem?_cons_zero, List.getElem?_cons_succ, Option.some.injEq] at hop
          subst hop
          go_simp
          exact hK _ _ (Below.refl _ _) fun _ => by first | rfl | exact wrap_val (by omega)
        | 11 =>
          simp only [List.getElem?_toArray, List.getElem?_cons_zero, List.getElem?_cons_succ, Option.some.injEq] at hop
          subst hop
          have n10 : a.tmps[69]?.getD undef = .agg #[.map (some (w2.heap.size + 1)), .int .i64 S] := hP 10 69 (by kernel_rfl) (by kernel_rfl)
          go_simp
          go_at_call 13
          refine (size_any _ _ _).mono ?_
          rintro e w9 ⟨rfl, hb9⟩
          go_simp
          exact hK _ _ hb9 fun _ => rfl
        | 12 =>
          simp only [List.getElem?_toArray, List.getElem?_cons_zero, List.getElem?_cons_succ, Option.some.injEq] at hop
          subst hop
          go_simp
          exact hK _ _ (Below.refl _ _) fun _ => by first | rfl | exact wrap_val (by omega)
        | 13 =>
          simp only [List.getElem?_toArray, List.getElem?_cons_zero, List.getElem?_cons_succ, Option.some.injEq] at hop
          subst hop
          have n12 : a.tmps[71]?.getD undef = .int .i8 a1 := hP 12 71 (by kernel_rfl) (by kernel_rfl)
          go_simp
          exact hK _ _ (Below.refl _ _) fun _ => by first | rfl | exact wrap_val (by omega)
        | 14 =>
          simp only [List.getElem?_toArray, List.getElem?_cons_zero, List.getElem?_cons_succ, Option.some.injEq] at hop
          subst hop
          have n13 : a.tmps[72]?.getD undef = .int .i64 a1 := hP 13 72 (by kernel_rfl) (by kernel_rfl)
          go_simp
          exact hK _ _ (Below.refl _ _) fun _ => by first | rfl | exact wrap_val (by omega)
        | 15 =>
          simp only [List.getElem?_toArray, List.getElem?_cons_zero, List.getElem?_cons_succ, Option.some.injEq] at hop
          subst hop
          have n14 : a.tmps[73]?.getD undef = .int .i64 (min a1 64) := hP 14 73 (by kernel_rfl) (by kernel_rfl)
          go_simp
          exact hK _ _ (Below.refl _ _) fun _ => by first | rfl | exact wrap_val (by omega)
        | 16 =>
          simp only [List.getElem?_toArray, List.getElem?_cons_zero, List.getElem?_cons_succ, Option.some.injEq] at hop
          subst hop
          have n11 : a.tmps[70]?.getD undef = .int .i64 S := hP 11 70 (by kernel_rfl) (by kernel_rfl)
          have n15 : a.tmps[74]?.getD undef = .int .i64 c := hP 15 74 (by kernel_rfl) (by kernel_rfl)
          go_simp
          exact hK _ _ (Below.refl _ _) fun _ => by first | rfl | exact wrap_val (by omega)
        | 17 =>
          simp only [List.getElem?_toArray, List.getElem?_cons_zero, List.getElem?_cons_succ, Option.some.injEq] at hop
          subst hop
          have n9 : a.tmps[68]?.getD undef = .int .i64 (S + c) := hP 9 68 (by kernel_rfl) (by kernel_rfl)
          have n16 : a.tmps[75]?.getD undef = .int .i64 (S + c) := hP 16 75 (by kernel_rfl) (by kernel_rfl)
          go_simp
          exact hK _ _ (Below.refl _ _) fun _ => by first | rfl | exact wrap_val (by omega)
        | 18 =>
          simp only [List.getElem?_toArray, List.getElem?_cons_zero, List.getElem?_cons_succ, Option.some.injEq] at hop
          subst hop
          have n7 : a.tmps[66]?.getD undef = .bool true := hP 7 66 (by kernel_rfl) (by kernel_rfl)
          have n17 : a.tmps[76]?.getD undef = .bool true := hP 17 76 (by kernel_rfl) (by kernel_rfl)
          go_simp
          exact hK _ _ (Below.refl _ _) fun _ => by first | rfl | exact wrap_val (by omega)
        | 19 =>
          simp only [List.getElem?_toArray, List.getElem?_cons_zero, List.getElem?_cons_succ, Option.some.injEq] at hop
          subst hop
          have n18 : a.tmps[77]?.getD undef = .bool true := hP 18 77 (by kernel_rfl) (by kernel_rfl)
          go_simp
          exact hK _ _ (Below.refl _ _) fun _ => by first | rfl | exact wrap_val (by omega)
        | _ + 20 => simp at hop
      · intro V wz hbz hR
        have e19 : V 19 = .bool true := hR 19 (by kernel_rfl)
        clear hR
        refine at_all (prs [59, 60, 61, 62, 63, 64, 65, 66, 67, 68, 69, 70, 71, 72, 73, 74, 75, 76, 77, 4] V) (fun t => by kernel_rfl) ?_
        simp only [prs, List.zipIdx, List.map, List.foldl, Nat.zero_add, Nat.reduceAdd, List.setIfInBounds_toArray, List.set_cons_zero, List.set_cons_succ, e19]
        go_wp2
        go_ret
        exact ⟨rfl, h07.trans (hbz.mono h07.size)⟩
end Go.Proofs.Ytonlfplojhlmjaa.Pl
