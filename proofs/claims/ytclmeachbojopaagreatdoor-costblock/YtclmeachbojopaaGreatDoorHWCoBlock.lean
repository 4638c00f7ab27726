/- The walk of CostBlock: on every list of numbers it returns true. Conditions: lex's variables are as they are laid. -/
import Derived.Test.YtclmeachbojopaaGreatDoorHWCoSum
import Derived.Test.YtclmeachbojopaaGreatDoorGCoR
namespace Go.Proofs.YtclmeachbojopaaGreatDoor.Co
open Go.ChangeShapes Go.WideShapes Go.ChangeAt Go.RowKit
set_option linter.unusedVariables false
set_option linter.unusedSimpArgs false

theorem regrown6 {w : World} {k : Nat} {x0 x1 x2 x3 x4 x5 : Value} (h : w.heap[k]? = some (.cells #[x0, x1, x2, x3, x4, x5] 40 (0, 0))) : (∀ d os, (Sort.grow (redrawn w d) os).cell? ⟨k, 0, none⟩ = some x0) /\ (∀ d os, (Sort.grow (redrawn w d) os).cell? ⟨k, 1, none⟩ = some x1) /\ (∀ d os, (Sort.grow (redrawn w d) os).cell? ⟨k, 2, none⟩ = some x2) /\ (∀ d os, (Sort.grow (redrawn w d) os).cell? ⟨k, 3, none⟩ = some x3) /\ (∀ d os, (Sort.grow (redrawn w d) os).cell? ⟨k, 4, none⟩ = some x4) /\ (∀ d os, (Sort.grow (redrawn w d) os).cell? ⟨k, 5, none⟩ = some x5) := by
  have c : ∀ i x, #[x0, x1, x2, x3, x4, x5][i]? = some x -> w.cell? ⟨k, i, none⟩ = some x := fun i x hx => by rw [Lib.cell_of_heap h]; exact hx
  exact ⟨cell_regrown (c 0 _ rfl), cell_regrown (c 1 _ rfl), cell_regrown (c 2 _ rfl), cell_regrown (c 3 _ rfl), cell_regrown (c 4 _ rfl), cell_regrown (c 5 _ rfl)⟩
theorem ecost_small {e : Tree} (h : Sm 121 e) (n : Nat) : ecost n e = lexpr n e := by
  have := h n
  rw [ecost_min]
  omega
set_option maxHeartbeats 8000000 in
set_option maxRecDepth 100000 in
theorem block_walk (v0 : Value) (zs0 : List Int) (w : World) (h0 : IntsAt w .u8 v0 zs0) (z0 : ∀ n ∈ zs0, (Lit.int .u8 n).wf = true) (n0 : zs0.length * 1 <= 140737488351232) (hL : Lx.Vars w) :
    Calls Tryz.prog 3 #[v0] w fun e w' => e = .returned (.bool true) /\ Below w.heap.size w w' := by
  obtain ⟨p, ao, cap, s0, rfl, _, t1, t2, tall, HM⟩ := made_for h0 z0 n0
  have H0 := awake_any w hL
  have hfd := prog_threads
  have HTA := Lib.hid tall
  clear tall hL h0 z0
  go_enter Tryz.func3, Tryz.ntmps3
  go_wp2_with (first
    | (go_at_call 8; refine (HM _ hbA).mono ?_; rintro e w2 ⟨v, rfl, ⟨dao, dcap, tbo, tbc, rfl, T2⟩, hb2⟩; replace T2 := Lib.hid T2)
    | (go_at_call 7; refine H0.mono ?_; rintro e wA ⟨rfl, hbA⟩))
  have hbw2 := hbA.trans (hb2.mono hbA.size)
  clear HM H0 hfd
  go_loopw [15] (fun i wr => ∃ k : Nat, k <= p.threads.length /\ i = .int .i64 k /\ Below w2.heap.size w2 wr) (fun i _ => p.threads.length - (intOf i).toNat)
  case atStart => exact ⟨0, Nat.zero_le _, rfl, Below.refl _ _⟩
  case round =>
    obtain ⟨k, hk, rfl, hbk⟩ := hrel
    obtain ⟨wk, rfl⟩ : ∃ wk, wk = wr := ⟨wr, rfl⟩
    have hzk := hbk.size
    by_cases hlt : k < p.threads.length
    · obtain ⟨ss, hss⟩ : ∃ ss, p.threads[k]? = some ss := ⟨p.threads[k], by simp [hlt]⟩
      obtain ⟨_, _, hO, hGs⟩ := HTA.out ss (List.mem_of_getElem? hss)
      obtain ⟨_, _, e, _, hTk⟩ := thrs_later T2.out hbk
      cases e
      obtain ⟨g, off, tao, tcap, rfl, _, hg, _, hc0, hS⟩ := hTk k ss hss
      have PB := block_all 13 5 _ ss wk hS
      have PR := fun W (hb : Below wk.heap.size wk W) => rblock_all (m := 13) (by omega) 5 _ ss W (stms_later hS hb) hGs
      have hmin := bcost_min 13 5 ss hGs
      have HS := Lib.hid hS
      have HO' := Lib.hid hO
      have HG' := Lib.hid hGs
      generalize bcost 13 5 ss = b at PB hmin
      generalize lblock 13 5 ss = L at PR hmin
      have hbl : ((b : Int) != min (L : Int) 1048577) = false := by
        rw [bne_eq_false_iff_eq]; omega
      clear hTk hss hS hO hGs hmin
      go_wp2_with (first
        | (go_at_call 10; refine (PR _ hb3).mono ?_; rintro e w4 ⟨rfl, hb4⟩)
        | (go_at_call 9; refine PB.mono ?_; rintro e w3 ⟨rfl, hb3⟩))
      have hb4k := hb3.trans (hb4.mono hb3.size)
      have HS4 := Lib.hid (stms_later HS.out hb4k)
      clear PB PR hbl hc0
      go_loopw [27] (fun i wr => ∃ j : Nat, j <= ss.length /\ i = .int .i64 j /\ Below w4.heap.size w4 wr) (fun i _ => ss.length - (intOf i).toNat)
      case atStart => exact ⟨0, Nat.zero_le _, rfl, Below.refl _ _⟩
      case round =>
        obtain ⟨j, hj, rfl, hbj⟩ := hrel
        obtain ⟨wj, rfl⟩ : ∃ wj, wj = wr := ⟨wr, rfl⟩
        have hzj := hbj.size
        by_cases hlj : j < ss.length
        · obtain ⟨x, hx⟩ : ∃ x, ss[j]? = some x := ⟨ss[j], by simp [hlj]⟩
          have hxm := List.mem_of_getElem? hx
          have HO := Lib.hid (HO'.out x hxm)
          have HG := Lib.hid (gS_parts (HG'.out x hxm)).1
          obtain ⟨_, _, e, _, hKx⟩ := stms_later HS4.out hbj
          cases e
          obtain ⟨gx, ox, x0, x1, x2, x3, x4, x5, x6, rfl, _, hgx, _, i0, i1, i2, i3, i4, i5, i6, rx⟩ := hKx j x hx
          have hRx := Lib.hid rx
          obtain ⟨_, _, _, ea, ec, ba, bc, la, lc, hv, hE, _, _⟩ := rx
          simp only [Value.agg.injEq, Array.mk.injEq, List.cons.injEq, and_true] at hv
          obtain ⟨rfl, rfl, rfl, rfl, rfl, rfl, rfl⟩ := hv
          have HE := Lib.hid hE
          clear hKx hx hxm hE
          go_wp2
          obtain ⟨W, hW⟩ : ∃ W, W = wj.alloc (.cells #[.int .i64 x.kind, .string x.name, .slice ea x.exprs.length ec, .int .i64 x.count, .slice ba x.body.length bc, .slice la x.els.length lc, .int .i64 x.at_] 34) := ⟨_, rfl⟩
          have hhW : W.heap[wj.heap.size]? = some (.cells #[.int .i64 x.kind, .string x.name, .slice ea x.exprs.length ec, .int .i64 x.count, .slice ba x.body.length bc, .slice la x.els.length lc, .int .i64 x.at_] 34 (0, 0)) := by rw [hW]; exact heap_alloc_new _ _
          have hbW : Below wj.heap.size wj W := by rw [hW]; exact (Below.refl _ _).alloc (Nat.le_refl _) _
          rw [<- hW]
          clear hW
          have PS := fun wr (hb : Below W.heap.size W wr) => stmt_all 13 5 _ x wr (srep_later (srep_later hRx.out hbW) hb)
          have PO := fun wr g (hb : Below W.heap.size W wr) hg => block_all 13 5 _ _ wr (stms_one (Below.refl wr.heap.size wr) (g := g) hg (srep_later (srep_later hRx.out hbW) hb))
          rw [bcost_one] at PO
          generalize scost 13 5 x = A at PS PO
          refine wp_region_mono (by kernel_rfl) (by kernel_rfl) (by kernel_rfl) (by kernel_rfl) (by kernel_rfl) (fun (i : Nat) (v : Value) (w : World) => match i with | 0 => v = .agg #[.int .i64 x.kind, .string x.name, .slice ea x.exprs.length ec, .int .i64 x.count, .slice ba x.body.length bc, .slice la x.els.length lc, .int .i64 x.at_] | 1 => v = .int .i64 (A : Int) | 2 => v = .agg #[.int .i64 x.kind, .string x.name, .slice ea x.exprs.length ec, .int .i64 x.count, .slice ba x.body.length bc, .slice la x.els.length lc, .int .i64 x.at_] | 3 => ∃ g, v = .slice (some ⟨g, 0, none⟩) 1 1 /\ w.heap[g]? = some (.cells #[.int .i64 x.kind, .string x.name, .slice ea x.exprs.length ec, .int .i64 x.count, .slice ba x.body.length bc, .slice la x.els.length lc, .int .i64 x.at_] 34 (0, 0)) | 4 => v = .int .i64 (A : Int) | 5 => v = .bool false | _ => True) ?_ [] (by kernel_rfl) ?_ ?_ ?_
          · intro i v w w' hb h
            match i with
            | 0 => exact h
            | 1 => exact h
            | 2 => exact h
            | 3 => exact ⟨h.choose, h.choose_spec.1, keep hb h.choose_spec.2⟩
            | 4 => exact h
            | 5 => exact h
            | _ + 6 => trivial
          · intro p hp v w h
            cases hp
          · intro a wr i op hop hb hF hP K hK
            have s6 : a.tmps[6]?.getD undef = .pointer (some ⟨wj.heap.size, 0, none⟩) := (hF 6 (by kernel_rfl)).trans rfl
            have hh' := keep hb hhW
            obtain ⟨q0, q1, q2, q3, q4, q5, q6⟩ := stmt_cells hh'
            match i with
            | 0 =>
              simp only [List.getElem?_toArray, List.getElem?_cons_zero, List.getElem?_cons_succ, Option.some.injEq] at hop
              subst hop
              go_simp
              exact hK _ _ (Below.refl _ _) fun _ => by first | rfl | exact wrap_val (by omega)
            | 1 =>
              simp only [List.getElem?_toArray, List.getElem?_cons_zero, List.getElem?_cons_succ, Option.some.injEq] at hop
              subst hop
              have n0 : a.tmps[31]?.getD undef = .agg #[.int .i64 x.kind, .string x.name, .slice ea x.exprs.length ec, .int .i64 x.count, .slice ba x.body.length bc, .slice la x.els.length lc, .int .i64 x.at_] := hP 0 31 (by kernel_rfl) (by kernel_rfl)
              go_simp
              go_at_call 11
              refine (PS wr hb).mono ?_
              rintro e w9 ⟨rfl, hb9⟩
              go_simp
              exact hK _ _ hb9 fun _ => rfl
            | 2 =>
              simp only [List.getElem?_toArray, List.getElem?_cons_zero, List.getElem?_cons_succ, Option.some.injEq] at hop
              subst hop
              go_simp
              exact hK _ _ (Below.refl _ _) fun _ => by first | rfl | exact wrap_val (by omega)
            | 3 =>
              simp only [List.getElem?_toArray, List.getElem?_cons_zero, List.getElem?_cons_succ, Option.some.injEq] at hop
              subst hop
              have n2 : a.tmps[33]?.getD undef = .agg #[.int .i64 x.kind, .string x.name, .slice ea x.exprs.length ec, .int .i64 x.count, .slice ba x.body.length bc, .slice la x.els.length lc, .int .i64 x.at_] := hP 2 33 (by kernel_rfl) (by kernel_rfl)
              go_simp
              exact hK _ _ ((Below.refl _ _).alloc (Nat.le_refl _) _) fun _ => ⟨wr.heap.size, rfl, heap_alloc_new _ _⟩
            | 4 =>
              simp only [List.getElem?_toArray, List.getElem?_cons_zero, List.getElem?_cons_succ, Option.some.injEq] at hop
              subst hop
              obtain ⟨g, n3, hg3⟩ : ∃ g, a.tmps[34]?.getD undef = .slice (some ⟨g, 0, none⟩) 1 1 /\ wr.heap[g]? = some (.cells #[.int .i64 x.kind, .string x.name, .slice ea x.exprs.length ec, .int .i64 x.count, .slice ba x.body.length bc, .slice la x.els.length lc, .int .i64 x.at_] 34 (0, 0)) := (hP 3 34 (by kernel_rfl) (by kernel_rfl))
              go_simp
              go_at_call 9
              refine (PO wr g hb hg3).mono ?_
              rintro e w9 ⟨rfl, hb9⟩
              go_simp
              exact hK _ _ hb9 fun _ => rfl
            | 5 =>
              simp only [List.getElem?_toArray, List.getElem?_cons_zero, List.getElem?_cons_succ, Option.some.injEq] at hop
              subst hop
              have n1 : a.tmps[32]?.getD undef = .int .i64 (A : Int) := hP 1 32 (by kernel_rfl) (by kernel_rfl)
              have n4 : a.tmps[35]?.getD undef = .int .i64 (A : Int) := hP 4 35 (by kernel_rfl) (by kernel_rfl)
              go_simp
              exact hK _ _ (Below.refl _ _) fun _ => by first | rfl | exact wrap_val (by omega)
            | _ + 6 => simp at hop
          · intro V wz hbz hR
            have e5 : V 5 = .bool false := hR 5 (by kernel_rfl)
            have hhz := keep hbz hhW
            obtain ⟨q0, q1, q2, q3, q4, q5, q6⟩ := stmt_cells hhz
            have hbqz := hbW.trans (hbz.mono hbW.size)
            have HEz := Lib.hid (kids_later HE.out hbqz)
            clear hR PS PO hhW hhz hbz hbW
            refine Pr.at_writeAll (Pr.pairs [31, 32, 33, 34, 35, 36] V) (fun t => by kernel_rfl) ?_
            simp only [Pr.pairs, List.zipIdx, List.map, List.foldl, Nat.zero_add, Nat.reduceAdd, List.setIfInBounds_toArray, List.set_cons_zero, List.set_cons_succ, e5]
            go_wp2
            go_loopw [40] (fun i wr => ∃ l : Nat, l <= x.exprs.length /\ i = .int .i64 l /\ Below wz.heap.size wz wr) (fun i _ => x.exprs.length - (intOf i).toNat)
            case atStart => exact ⟨0, Nat.zero_le _, rfl, Below.refl _ _⟩
            case round =>
              obtain ⟨l, hl, rfl, hbl⟩ := hrel
              obtain ⟨wl, rfl⟩ : ∃ wl, wl = wr := ⟨wr, rfl⟩
              have hzl := hbl.size
              by_cases hll : l < x.exprs.length
              · obtain ⟨y, hy⟩ : ∃ y, x.exprs[l]? = some y := ⟨x.exprs[l], by simp [hll]⟩
                have hym := List.mem_of_getElem? hy
                have hcost := ecost_small (HO.out y hym) 13
                have hyG := HG.out y hym
                obtain ⟨_, _, e, _, hKy⟩ := kids_later HEz.out hbl
                cases e
                obtain ⟨gy, oy, y0, y1, y2, y3, y4, y5, rfl, _, hgy, _, i0, i1, i2, i3, i4, i5, ry⟩ := hKy l y hy
                have hR := Lib.hid ry
                obtain ⟨_, kvy, hv, kay, kcy, rfl, _, _⟩ := ry
                simp only [Value.agg.injEq, Array.mk.injEq, List.cons.injEq, and_true] at hv
                obtain ⟨rfl, rfl, rfl, rfl, rfl, rfl⟩ := hv
                have CE := fun W (hb : Below wl.heap.size wl W) => expr_all 0 13 _ y W (hR.out.mono hb.size hb)
                have CR := fun W (hb : Below wl.heap.size wl W) => rexpr_all 13 (by omega) _ y W (hR.out.mono hb.size hb) hyG
                rw [hcost] at CE
                generalize lexpr 13 y = E at CE CR
                clear hKy hy hym hcost hyG
                go_wp2
                obtain ⟨W5, hW5⟩ : ∃ W5, W5 = wl.alloc (.cells #[.int .i64 y.kind, .int .i64 y.op, .string y.name, .int .u64 y.value, .slice kay y.kids.length kcy, .int .i64 y.at_] 40) := ⟨_, rfl⟩
                have hh5 : W5.heap[wl.heap.size]? = some (.cells #[.int .i64 y.kind, .int .i64 y.op, .string y.name, .int .u64 y.value, .slice kay y.kids.length kcy, .int .i64 y.at_] 40 (0, 0)) := by rw [hW5]; exact heap_alloc_new _ _
                have hb5 : Below wl.heap.size wl W5 := by rw [hW5]; exact (Below.refl _ _).alloc (Nat.le_refl _) _
                rw [<- hW5]
                clear hW5
                obtain ⟨Q0, Q1, Q2, Q3, Q4, Q5⟩ := regrown6 hh5
                have hre : ∀ d os, Below wl.heap.size wl (Sort.grow (redrawn W5 d) os) := fun d os => hb5.trans ((below_regrown W5 d os).mono hb5.size)
                have cE := fun d os => Calls.regrown_of (CE _ (hre d os))
                have cR := fun d os => Calls.regrown_of (CR _ (hre d os))
                clear CE CR hh5
                refine wp_region_quiet_below (by kernel_rfl) (by kernel_rfl) ?_
                repeat (go_big_quiet_step (first | with_reducible exact cE _ _ | with_reducible exact cR _ _))
                refine wpQuiet_nil ?_
                intro _ hw'
                obtain ⟨⟨dq, osq⟩, hw''⟩ := hw'
                subst hw''
                have hbe := hbl.trans ((hre dq osq).mono hzl)
                obtain ⟨W6, hW6⟩ : ∃ W, W = Sort.grow (redrawn W5 dq) osq := ⟨_, rfl⟩
                rw [<- hW6] at hbe ⊢
                clear hW6 Q0 Q1 Q2 Q3 Q4 Q5 cE cR hre
                go_wp2
                go_roundw
                case rel => exact ⟨l + 1, by omega, by go_num, hbe⟩
                case measure => simp [intOf]; omega
              · obtain rfl : l = x.exprs.length := by omega
                go_wp2
                go_roundw
                case rel => exact ⟨j + 1, by omega, by go_num, hbj.trans ((hbqz.trans (hbl.mono hbqz.size)).mono hzj)⟩
                case measure => simp [intOf]; omega
        · obtain rfl : j = ss.length := by omega
          go_wp2
          go_roundw
          case rel => exact ⟨k + 1, by omega, by go_num, hbk.trans ((hb4k.trans (hbj.mono hb4k.size)).mono hzk)⟩
          case measure => simp [intOf]; omega
    · obtain rfl : k = p.threads.length := by omega
      go_wp2
      go_ret
      exact ⟨rfl, hbw2.trans (hbk.mono hbw2.size)⟩
end Go.Proofs.YtclmeachbojopaaGreatDoor.Co
