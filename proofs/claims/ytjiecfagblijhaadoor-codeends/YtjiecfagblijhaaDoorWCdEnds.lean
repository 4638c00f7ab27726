/- The walk of CodeEnds: it answers true. Conditions: the codes lie in memory, the slice no longer than its room; the table of powers holds what its initialiser lays. -/
import Derived.Test.YtjiecfagblijhaaDoorCdAwake
import Derived.Test.YtjiecfagblijhaaDoorCdGood
import Derived.Test.YtjiecfagblijhaaDoorCdNext
import Derived.Deep.CutRange
namespace Go.Proofs.YtjiecfagblijhaaDoor.Cd
open Go.ChangeShapes Go.WideShapes Go.ChangeAt Go.RowKit
set_option linter.unusedVariables false
set_option linter.unusedSimpArgs false

def stays (k : Nat) (x : Cd) : Bool := !(jumpsB x.op && decide ((k : Int) ≤ x.t))
theorem sound_cut {x : Cd} {N k : Nat} (hk : k ≤ N) (h : soundB x N = true) : soundB x k = stays k x := by
  unfold soundB at h ⊢
  unfold stays
  simp only [Bool.and_eq_true, Bool.not_eq_true', decide_eq_true_eq] at h
  obtain ⟨⟨⟨⟨h1, h2⟩, h3⟩, h4⟩, h5⟩ := h
  rw [decide_eq_true h1, decide_eq_true h2, h3, h5]
  cases hj : jumpsB x.op with
  | false => simp
  | true =>
    rw [hj] at h4
    simp only [Bool.true_and, Bool.or_eq_false_iff, decide_eq_false_iff_not] at h4
    rw [decide_eq_false h4.1]
    simp
theorem good_cut {cs : List Cd} {m N : Nat} (hN : cs.length = N) (hg : goodB cs = true) (hm : m + 1 ≤ N) (hl : N ≤ 4096) {x : Cd} (hx : cs[m]? = some x) : goodB (cs.take (m + 1)) = (endB x.op && (cs.take (m + 1)).all (stays (m + 1))) := by
  have hall : ∀ y ∈ cs, soundB y N = true := by
    unfold goodB at hg
    rw [hN] at hg
    simp only [Bool.and_eq_true] at hg
    exact List.all_eq_true.1 hg.2
  have hlen : (cs.take (m + 1)).length = m + 1 := by rw [List.length_take]; omega
  unfold goodB
  rw [hlen, decide_eq_true (show 0 < m + 1 by omega), decide_eq_true (show m + 1 ≤ 4096 by omega)]
  have hlast : (cs.take (m + 1)).getLast? = some x := by
    rw [List.getLast?_eq_getElem?, hlen, List.getElem?_take_of_lt (by omega)]; exact hx
  rw [hlast]
  simp only [Bool.true_and]
  congr 1
  rw [Bool.eq_iff_iff, List.all_eq_true, List.all_eq_true]
  constructor
  · intro h y hy
    rw [← sound_cut hm (hall y (List.mem_of_mem_take hy))]; exact h y hy
  · intro h y hy
    rw [sound_cut hm (hall y (List.mem_of_mem_take hy))]; exact h y hy
theorem nil_codes (w : World) : CodesAt w (.slice none 0 0) [] := ⟨none, 0, rfl, by simp, fun i x hx => by simp at hx⟩
theorem halt_next : nextP ⟨13, 0, 0, 0, 0, 0, 0, 1⟩ 0 9 = [] := by rfl
theorem nil_good : goodB [] = false := rfl
def EInv (cs : List Cd) (e1 : Bool) (k j : Nat) (e : Bool) : Prop := e = (e1 && (cs.take j).all (stays k))
theorem EInv.next {cs : List Cd} {e1 e e' : Bool} {k j : Nat} {y : Cd} (h : EInv cs e1 k j e) (hy : cs[j]? = some y) (he : e' = (e && stays k y)) : EInv cs e1 k (j + 1) e' := by
  unfold EInv at *
  rw [he, h, take_snoc' hy, List.all_append, List.all_cons, List.all_nil, Bool.and_true, Bool.and_assoc]

set_option maxHeartbeats 1000000 in
set_option maxRecDepth 100000 in
theorem ends_walk (cs : List Cd) (ao : Option Addr) (n cap : Nat) (w : World) (hV : Vars w.heap.size w) (h : CodesAt w (.slice ao n cap) cs) (hcap : n ≤ cap) :
    Calls Tryd.prog 7 #[.slice ao n cap] w fun e w' => e = .returned (.bool true) ∧ Below w.heap.size w w' := by
  have PA := awake_any w hV
  have hn : n = cs.length := by obtain ⟨a, c, e, _⟩ := h; simp only [Value.slice.injEq] at e; exact e.2.1
  have hr : ∀ i x, cs[i]? = some x → x.fits ∧ ∃ g off, ao = some ⟨g, off, none⟩ ∧ g < w.heap.size ∧
    w.cell? ⟨g, off + i * 8, none⟩ = some (.int .i64 x.op) ∧ w.cell? ⟨g, off + i * 8 + 1, none⟩ = some (.int .i64 x.dop) ∧ w.cell? ⟨g, off + i * 8 + 2, none⟩ = some (.int .i64 x.to) ∧ w.cell? ⟨g, off + i * 8 + 3, none⟩ = some (.int .i64 x.a) ∧
    w.cell? ⟨g, off + i * 8 + 4, none⟩ = some (.int .i64 x.b) ∧ w.cell? ⟨g, off + i * 8 + 5, none⟩ = some (.int .i64 x.c) ∧ w.cell? ⟨g, off + i * 8 + 6, none⟩ = some (.int .u64 x.v) ∧ w.cell? ⟨g, off + i * 8 + 7, none⟩ = some (.int .i64 x.t) := by
    obtain ⟨a, c, e, _, hr⟩ := h
    simp only [Value.slice.injEq] at e
    obtain ⟨rfl, _, _⟩ := e
    exact hr
  have hl : n ≤ 2199023255552 := by obtain ⟨a, c, e, hl, _⟩ := h; omega
  have HR := Lib.hid hr
  have HM := Lib.hid hn
  have HH := Lib.hid h
  clear hr hn h
  have PG := fun w1 (hb : Below w.heap.size w w1) => good_any cs (.slice ao n cap) w1 (HH.out.below hb)
  have PN := fun w1 => next_any ⟨13, 0, 0, 0, 0, 0, 0, 1⟩ 0 9 w1 (by decide) (by decide)
  rw [halt_next] at PN
  simp only at PN
  have P0 := fun w1 => good_any [] (.slice none 0 0) w1 (nil_codes w1)
  rw [nil_good] at P0
  by_cases h1 : 60 < n
  · go_enter Tryd.func7, Tryd.ntmps7
    go_wp2_with (go_at_call 8; refine PA.mono ?_; rintro ed w1 ⟨rfl, hb1⟩)
    go_ret
    exact ⟨rfl, hb1⟩
  obtain ⟨Gd, hGd⟩ : ∃ Gd, Gd = goodB cs := ⟨_, rfl⟩
  rw [← hGd] at PG
  have HGd := Lib.hid hGd
  clear hGd
  cases Gd with
  | false =>
    go_enter Tryd.func7, Tryd.ntmps7
    go_wp2_with (first
      | (go_at_call 8; refine PA.mono ?_; rintro ed w1 ⟨rfl, hb1⟩)
      | (go_at_call 15; refine (PN _).mono ?_; rintro ed w2 ⟨v2, rfl, ho2, hb2⟩; obtain ⟨ao2, cap2, rfl, hm2, hc2⟩ := ho2.form; have hb12 := hb1.trans (hb2.mono hb1.size))
      | (go_at_call 16; refine (PG _ hb13).mono ?_; rintro ed w4 ⟨rfl, hb4⟩; have hb14 := hb13.trans (hb4.mono hb13.size))
      | (go_at_call 16; refine (P0 _).mono ?_; rintro ed w3 ⟨rfl, hb3⟩; have hb13 := hb12.trans (hb3.mono hb12.size)))
    go_ret
    exact ⟨rfl, hb14⟩
  | true =>
    have hn1 : 1 ≤ n := by
      have hg := HGd.out.symm
      unfold goodB at hg
      simp only [Bool.and_eq_true, decide_eq_true_eq] at hg
      have := hg.1.1.1
      have := HM.out
      omega
    go_enter Tryd.func7, Tryd.ntmps7
    go_wp2_with (first
      | (go_at_call 8; refine PA.mono ?_; rintro ed w1 ⟨rfl, hb1⟩)
      | (go_at_call 15; refine (PN _).mono ?_; rintro ed w2 ⟨v2, rfl, ho2, hb2⟩; obtain ⟨ao2, cap2, rfl, hm2, hc2⟩ := ho2.form; have hb12 := hb1.trans (hb2.mono hb1.size))
      | (go_at_call 16; refine (PG _ hb13).mono ?_; rintro ed w4 ⟨rfl, hb4⟩; have hb14 := hb13.trans (hb4.mono hb13.size))
      | (go_at_call 16; refine (P0 _).mono ?_; rintro ed w3 ⟨rfl, hb3⟩; have hb13 := hb12.trans (hb3.mono hb12.size)))
    clear PG P0 PN PA
    go_loopg [3] n (fun q i wx => ∃ m : Nat, q = n - m ∧ m + 1 ≤ n ∧ i = .int .i64 ((m : Int) + 1) ∧ Below w.heap.size w wx)
    case atStart => exact ⟨0, rfl, hn1, rfl, hb14⟩
    case round =>
      obtain ⟨m, hq, hm, rfl, hBr⟩ := hrel
      have HQ := Lib.hid hq
      clear hq
      by_cases hlt : m + 1 < n
      · obtain ⟨x, hx⟩ : ∃ x, cs[m]? = some x := ⟨cs[m]'(by rw [← HM.out]; omega), by simp [← HM.out]; try omega⟩
        obtain ⟨hF, g, off, rfl, hg', q0, q1, q2, q3, q4, q5, q6, q7⟩ := HR.out m x hx
        replace q0 := (World.cell?_of_block (hBr.block g hg')).trans q0
        obtain ⟨op, hop⟩ : ∃ op, op = x.op := ⟨_, rfl⟩
        obtain ⟨E1, hE1⟩ : ∃ E1, E1 = endB x.op := ⟨_, rfl⟩
        rw [← hop] at q0
        have HX := Lib.hid hx
        have HE1 := Lib.hid hE1
        have HOP := Lib.hid hop
        clear hop hE1 hx hF q1 q2 q3 q4 q5 q6 q7
        go_upto_region 12 with fail
        go_cut [3, 4] from 24 to 72 (fun i e wx => i = .int .i64 ((m : Int) + 1) ∧ e = .bool E1 ∧ wx = wr)
        case first =>
          by_cases e13 : op = 13
          · have he : E1 = true := by rw [HE1.out, ← HOP.out, e13]; rfl
            have HE2 := Lib.hid he
            clear he
            subst e13
            go_wp2_with fail
            go_meet
            case rel => exact ⟨rfl, by rw [HE2.out], rfl⟩
          by_cases e6 : op = 6
          · have he : E1 = true := by rw [HE1.out, ← HOP.out, e6]; rfl
            have HE2 := Lib.hid he
            clear he
            subst e6
            go_wp2_with fail
            go_meet
            case rel => exact ⟨rfl, by rw [HE2.out], rfl⟩
          have he : E1 = false := by rw [HE1.out, ← HOP.out]; simp [endB, e13, e6]
          have f13 : (op == 13) = false := by simpa using e13
          have f6 : (op == 6) = false := by simpa using e6
          have HE2 := Lib.hid he
          clear he
          go_wp2_with fail
          go_meet
          case rel => exact ⟨rfl, by rw [HE2.out], rfl⟩
        case rest =>
          obtain ⟨rfl, rfl, rfl⟩ := hcut
          clear q0
          go_wp2_with fail
          go_loopg [4, 50] (m + 1) (fun q e i wx => ∃ (j : Nat) (eb : Bool), q = m + 1 - j ∧ j ≤ m + 1 ∧ e = .bool eb ∧ i = .int .i64 j ∧ EInv cs E1 (m + 1) j eb ∧ Below w.heap.size w wx)
          case atStart => exact ⟨0, E1, rfl, Nat.zero_le _, rfl, rfl, by simp [EInv], hBr⟩
          case round =>
            clear hBr
            obtain ⟨j, eb, hq2, hj, rfl, rfl, hE, hBr⟩ := hrel
            have HE := Lib.hid hE
            have HQ2 := Lib.hid hq2
            clear hE hq2
            by_cases hjl : j < m + 1
            · obtain ⟨y, hy⟩ : ∃ y, cs[j]? = some y := ⟨cs[j]'(by rw [← HM.out]; omega), by simp [← HM.out]; try omega⟩
              obtain ⟨hF, g', off', e', hg', q0, q1, q2, q3, q4, q5, q6, q7⟩ := HR.out j y hy
              simp only [Option.some.injEq, Addr.mk.injEq] at e'
              obtain ⟨rfl, rfl, _⟩ := e'
              have key : ∀ j u, w.cell? ⟨g, j, none⟩ = some u → wr.cell? ⟨g, j, none⟩ = some u := fun j u hu => (World.cell?_of_block (hBr.block g hg')).trans hu
              replace q0 := key _ _ q0
              replace q1 := key _ _ q1
              replace q2 := key _ _ q2
              replace q3 := key _ _ q3
              replace q4 := key _ _ q4
              replace q5 := key _ _ q5
              replace q6 := key _ _ q6
              replace q7 := key _ _ q7
              clear key
              obtain ⟨op, fd, fo, fa, fb, fc, fv, ft⟩ := y
              simp only at q0 q1 q2 q3 q4 q5 q6 q7
              have PJ := fun w1 => jumps_any ⟨op, fd, fo, fa, fb, fc, fv, ft⟩ w1
              obtain ⟨J, hJ⟩ : ∃ J, J = jumpsB op := ⟨_, rfl⟩
              obtain ⟨G, hG⟩ : ∃ G, G = goesB op := ⟨_, rfl⟩
              simp only [← hJ, ← hG] at PJ
              have HJ := Lib.hid hJ
              have HY := Lib.hid hy
              obtain ⟨B0, hB0⟩ : ∃ B0, B0 = wr.heap.size := ⟨_, rfl⟩
              have HB0 := Lib.hid hB0
              clear hB0 hJ hG hy hF
              go_upto_region 15 with fail
              go_cut [6, 50] from 50 to 66 (fun p i wx => p = .pointer (some ⟨B0, 0, none⟩) ∧ i = .int .i64 j ∧ wx.heap[B0]? = some (.cells #[.int .i64 op, .int .i64 fd, .int .i64 fo, .int .i64 fa, .int .i64 fb, .int .i64 fc, .int .u64 fv, .int .i64 ft] 26 (0, 0)) ∧ Below w.heap.size w wx)
              case first =>
                go_wp2_with fail
                go_meet
                case rel => exact ⟨by rw [HB0.out], rfl, by rw [HB0.out, alloc_at, if_pos rfl], hBr.alloc hBr.size _⟩
              case rest =>
                clear q0 q1 q2 q3 q4 q5 q6 q7
                obtain ⟨rfl, rfl, hcell, hBx⟩ := hcut
                obtain ⟨x0, x1, x2, x3, x4, x5, x6, x7⟩ := code_cells hcell
                have HC := Lib.hid hcell
                clear hcell
                cases J with
                | false =>
                  go_wp2_with (go_at_call 10; refine (PJ _).mono ?_; rintro ed w5 ⟨rfl, hb5⟩; have hB5 := hBx.trans (hb5.mono hBx.size); obtain ⟨x0, x1, x2, x3, x4, x5, x6, x7⟩ := code_cells (keepB hb5 HC.out))
                  go_roundg (m + 1 - (j + 1))
                  case measure => rw [HQ2.out]; omega
                  case rel => exact ⟨j + 1, eb, rfl, by omega, rfl, by go_num, HE.out.next HY.out (by simp [stays, ← HJ.out]), hB5⟩
                | true =>
                  by_cases ht : (m : Int) + 1 ≤ ft
                  · go_wp2_with (go_at_call 10; refine (PJ _).mono ?_; rintro ed w5 ⟨rfl, hb5⟩; have hB5 := hBx.trans (hb5.mono hBx.size); obtain ⟨x0, x1, x2, x3, x4, x5, x6, x7⟩ := code_cells (keepB hb5 HC.out))
                    go_roundg (m + 1 - (j + 1))
                    case measure => rw [HQ2.out]; omega
                    case rel => exact ⟨j + 1, false, rfl, by omega, rfl, by go_num, HE.out.next HY.out (by simp [stays, ← HJ.out, ht]), hB5⟩
                  · go_wp2_with (go_at_call 10; refine (PJ _).mono ?_; rintro ed w5 ⟨rfl, hb5⟩; have hB5 := hBx.trans (hb5.mono hBx.size); obtain ⟨x0, x1, x2, x3, x4, x5, x6, x7⟩ := code_cells (keepB hb5 HC.out))
                    go_roundg (m + 1 - (j + 1))
                    case measure => rw [HQ2.out]; omega
                    case rel => exact ⟨j + 1, eb, rfl, by omega, rfl, by go_num, HE.out.next HY.out (by simp [stays, ← HJ.out, ht]), hB5⟩
            · obtain rfl : j = m + 1 := by omega
              have hge : goodB (cs.take (m + 1)) = eb := by
                rw [good_cut HM.out.symm HGd.out.symm (by omega) (by omega) HX.out, HE.out, HE1.out]
              have PGk := fun w1 (hb : Below w.heap.size w w1) => good_any (cs.take (m + 1)) _ w1 ((HH.out.take (m + 1) (by rw [← HM.out]; omega)).below hb)
              rw [hge] at PGk
              clear hge
              go_wp2_with (go_at_call 16; refine (PGk _ hBr).mono ?_; rintro ed w5 ⟨rfl, hb5⟩)
              go_roundg (n - (m + 1))
              case measure => rw [HQ.out]; omega
              case rel => exact ⟨m + 1, rfl, by omega, by go_num, hBr.trans (hb5.mono hBr.size)⟩
      · obtain rfl : n = m + 1 := by omega
        go_wp2_with fail
        go_ret
        exact ⟨rfl, hBr⟩
end Go.Proofs.YtjiecfagblijhaaDoor.Cd
