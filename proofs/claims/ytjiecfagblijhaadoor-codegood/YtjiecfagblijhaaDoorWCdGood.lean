/- The walk of CodeGood: it answers true. Conditions: the codes lie in memory; the table of powers holds what its initialiser lays. -/
import Derived.Test.YtjiecfagblijhaaDoorCdAwake
import Derived.Test.YtjiecfagblijhaaDoorCdGoodP
import Derived.Deep.CutRange
namespace Go.Proofs.YtjiecfagblijhaaDoor.Cd
open Go.ChangeShapes Go.WideShapes Go.ChangeAt Go.RowKit
set_option linter.unusedVariables false
set_option linter.unusedSimpArgs false

set_option maxHeartbeats 16000000 in
set_option maxRecDepth 100000 in
theorem good_walk (cs : List Cd) (v : Value) (w : World) (hV : Vars w.heap.size w) (h : CodesAt w v cs) :
    Calls Tryd.prog 5 #[v] w fun e w' => e = .returned (.bool true) ∧ Below w.heap.size w w' := by
  have PA := awake_any w hV
  have h' := h
  obtain ⟨ao, cap, rfl, hl, hr⟩ := h
  have HR := Lib.hid hr
  clear hr
  obtain ⟨N, hN⟩ : ∃ N, cs.length = N := ⟨_, rfl⟩
  rw [hN] at hl h' ⊢
  have HM := Lib.hid hN
  have HH := Lib.hid h'
  clear hN h'
  by_cases h1 : 100 < N
  · go_enter Tryd.func5, Tryd.ntmps5
    go_wp2_with (go_at_call 8; refine PA.mono ?_; rintro ed w1 ⟨rfl, hb1⟩)
    go_ret
    exact ⟨rfl, hb1⟩
  have PG := fun w1 (hb : Below w.heap.size w w1) => good_any cs (.slice ao N cap) w1 (HH.out.below hb)
  have PV := fun w1 (hb : Below w.heap.size w w1) => values_any cs (.slice ao N cap) w1 (HH.out.below hb)
  obtain ⟨E, hE⟩ : ∃ E, E = endC cs := ⟨_, rfl⟩
  have HE := Lib.hid hE
  clear hE
  go_enter Tryd.func5, Tryd.ntmps5
  go_upto_region 5 with (go_at_call 8; refine PA.mono ?_; rintro ed w1 ⟨rfl, hb1⟩)
  go_cut [3] from 11 (fun s3 wx => s3 = .bool E ∧ wx = w1)
  case first =>
    by_cases h0 : N < 1
    · obtain rfl : N = 0 := by omega
      have he : E = false := by rw [HE.out]; unfold endC; rw [List.length_eq_zero_iff.1 HM.out]; rfl
      have HE2 := Lib.hid he
      clear he
      go_wp2_with fail
      go_meet
      case rel => exact ⟨by rw [HE2.out], rfl⟩
    obtain ⟨m, hm⟩ : ∃ m, cs.length = m + 1 := ⟨cs.length - 1, by have := HM.out; omega⟩
    obtain ⟨x, hx⟩ : ∃ x, cs[m]? = some x := ⟨cs[m], by simp [hm]⟩
    have hlast := good_last hm hx
    obtain ⟨_, g, off, rfl, hg, p0, p1, p2, p3, p4, p5, p6, p7⟩ := HR.out m x hx
    have he : E = endB x.op := by rw [HE.out]; unfold endC; rw [hlast]
    obtain rfl : m = N - 1 := by have := HM.out; omega
    obtain ⟨op, hop⟩ : ∃ op, op = x.op := ⟨_, rfl⟩
    rw [← hop] at p0 he
    replace p0 := (World.cell?_of_block (hb1.block g hg)).trans p0
    have HE2 := Lib.hid he
    clear hop hx hm hlast p1 p2 p3 p4 p5 p6 p7 hl he
    by_cases e13 : op = 13
    · subst e13
      go_wp2_with fail
      go_meet
      case rel => exact ⟨by rw [HE2.out]; rfl, rfl⟩
    by_cases e6 : op = 6
    · subst e6
      go_wp2_with fail
      go_meet
      case rel => exact ⟨by rw [HE2.out]; rfl, rfl⟩
    have f13 : (op == 13) = false := by simpa using e13
    have f6 : (op == 6) = false := by simpa using e6
    go_wp2_with fail
    go_meet
    case rel => exact ⟨by rw [HE2.out]; simp [endB, e13, e6], rfl⟩
  case rest => as_aux_lemma =>
    obtain ⟨rfl, rfl⟩ := hcut
    go_wp2_with fail
    go_loopg [3, 4, 41] N (fun q s3 s4 i wx => ∃ (k : Nat) (gb : Bool) (nk : Int), q = N - k ∧ k ≤ N ∧ s3 = .bool gb ∧ s4 = .int .i64 nk ∧ i = .int .i64 k ∧ GInv cs N k gb nk ∧ Below w.heap.size w wx)
    case atStart => exact ⟨0, E, 0, rfl, Nat.zero_le _, rfl, rfl, rfl, by rw [HE.out]; exact GInv.start _ _, hb1⟩
    case round =>
      obtain ⟨k, gb, nk, hq, hk, rfl, rfl, rfl, hI, hBr⟩ := hrel
      have hnb := hI.bound
      have HI := Lib.hid hI
      clear hI
      by_cases hlt : k < N
      · obtain ⟨y, hz⟩ : ∃ y, cs[k]? = some y := ⟨cs[k]'(by rw [HM.out]; exact hlt), by simp [HM.out, hlt]⟩
        obtain ⟨hF, g, off, rfl, hg', q0, q1, q2, q3, q4, q5, q6, q7⟩ := HR.out k y hz
        have key : ∀ j u, w.cell? ⟨g, j, none⟩ = some u → wr.cell? ⟨g, j, none⟩ = some u := fun j u hu => (World.cell?_of_block (hBr.block g hg')).trans hu
        replace q0 := key _ _ q0
        replace q1 := key _ _ q1
        replace q2 := key _ _ q2
        replace q3 := key _ _ q3
        replace q4 := key _ _ q4
        replace q5 := key _ _ q5
        replace q6 := key _ _ q6
        replace q7 := key _ _ q7
        clear key
        obtain ⟨op, fd, fo, fa, fb, fc, fv, ft⟩ := y
        simp only at q0 q1 q2 q3 q4 q5 q6 q7
        have PS := fun w1 => sets_any ⟨op, fd, fo, fa, fb, fc, fv, ft⟩ w1
        have PL := fun w1 => luses_any ⟨op, fd, fo, fa, fb, fc, fv, ft⟩ w1
        have hUf := uses_fits hF
        obtain ⟨S, hS⟩ : ∃ S, S = setsB op := ⟨_, rfl⟩
        obtain ⟨U, hU⟩ : ∃ U, U = usesP ⟨op, fd, fo, fa, fb, fc, fv, ft⟩ := ⟨_, rfl⟩
        obtain ⟨B1, hB1⟩ : ∃ B1, B1 = bad1 ⟨op, fd, fo, fa, fb, fc, fv, ft⟩ (N : Int) := ⟨_, rfl⟩
        obtain ⟨C1, hC1⟩ : ∃ C1, C1 = (S && decide (nk ≤ fo) && decide (fo < 4611686018427387904)) := ⟨_, rfl⟩
        obtain ⟨C2, hC2⟩ : ∃ C2, C2 = (S && decide (4611686018427387904 ≤ fo)) := ⟨_, rfl⟩
        simp only [← hS] at PS
        rw [← hU] at PL hUf
        have HUf := Lib.hid hUf
        have HS := Lib.hid hS
        have HU := Lib.hid hU
        have HB1 := Lib.hid hB1
        have HC1 := Lib.hid hC1
        have HC2 := Lib.hid hC2
        have HZY := Lib.hid hz
        have hU3 : U.length ≤ 3 := by rw [hU]; exact uses_len _
        clear hUf hS hU hB1 hC1 hC2 hz
        obtain ⟨hf0, hf1⟩ := hF.2.2.1
        simp only at hf0 hf1
        have HFF := Lib.hid hF
        clear hF
        obtain ⟨B0, hB0⟩ : ∃ B0, B0 = wr.heap.size := ⟨_, rfl⟩
        have HB0 := Lib.hid hB0
        clear hB0
        go_upto_region 9 with fail
        go_cut [6, 41] from 41 to 160 (fun p i wx => p = .pointer (some ⟨B0, 0, none⟩) ∧ i = .int .i64 k ∧ wx.heap[B0]? = some (.cells #[.int .i64 op, .int .i64 fd, .int .i64 fo, .int .i64 fa, .int .i64 fb, .int .i64 fc, .int .u64 fv, .int .i64 ft] 26 (0, 0)) ∧ Below w.heap.size w wx)
        case first =>
          go_wp2_with fail
          go_meet
          case rel => exact ⟨by rw [HB0.out], rfl, by rw [HB0.out, alloc_at, if_pos rfl], hBr.alloc hBr.size _⟩
        case rest => as_aux_lemma =>
          clear q0 q1 q2 q3 q4 q5 q6 q7
          obtain ⟨rfl, rfl, hcell, hBx⟩ := hcut
          have HC := Lib.hid hcell
          clear hcell
          go_upto_region 10 with fail
          go_cut [41, 103] from 41 to 160 (fun i b wx => i = .int .i64 k ∧ b = .bool B1 ∧ Below w.heap.size w wx ∧ wx.heap[B0]? = some (.cells #[.int .i64 op, .int .i64 fd, .int .i64 fo, .int .i64 fa, .int .i64 fb, .int .i64 fc, .int .u64 fv, .int .i64 ft] 26 (0, 0)))
          case first =>
            obtain ⟨x0, x1, x2, x3, x4, x5, x6, x7⟩ := code_cells HC.out
            by_cases c0 : op < 0
            · as_aux_lemma =>
                have hBB : B1 = true := by rw [HB1.out]; simp [bad1, jumpsB, setsB, c0]
                go_wp2_with fail
                go_meet
                case rel => exact ⟨rfl, by rw [hBB]; (try first | rfl | (simp; omega)), hBx, HC.out⟩
            by_cases c1 : 13 < op
            · as_aux_lemma =>
                have hBB : B1 = true := by rw [HB1.out]; simp [bad1, jumpsB, setsB, c1]
                go_wp2_with fail
                go_meet
                case rel => exact ⟨rfl, by rw [hBB]; (try first | rfl | (simp; omega)), hBx, HC.out⟩
            by_cases d2 : op = 2
            · subst d2
              obtain rfl : S = true := by rw [HS.out]; rfl
              by_cases c2 : fd < 0
              · as_aux_lemma =>
                  have hBB : B1 = true := by rw [HB1.out]; simp [bad1, jumpsB, setsB, c2]
                  go_wp2_with fail
                  go_meet
                  case rel => exact ⟨rfl, by rw [hBB]; (try first | rfl | (simp; omega)), hBx, HC.out⟩
              by_cases c5 : 9 < fd
              · as_aux_lemma =>
                  have hBB : B1 = true := by rw [HB1.out]; simp [bad1, jumpsB, setsB, c5]
                  go_wp2_with fail
                  go_meet
                  case rel => exact ⟨rfl, by rw [hBB]; (try first | rfl | (simp; omega)), hBx, HC.out⟩
              by_cases c3 : fo < 0
              · as_aux_lemma =>
                  have hBB : B1 = true := by rw [HB1.out]; simp [bad1, jumpsB, setsB, c2, c5, c3]
                  go_wp2_with (go_at_call 11; refine (PS _).mono ?_; rintro ed w5 ⟨rfl, hb5⟩; obtain ⟨x0, x1, x2, x3, x4, x5, x6, x7⟩ := code_cells (keepB hb5 HC.out))
                  go_meet
                  case rel => exact ⟨rfl, by rw [hBB]; (try first | rfl | (simp; omega)), hBx.trans (hb5.mono hBx.size), keepB hb5 HC.out⟩
              by_cases c4 : 65535 < fo
              · as_aux_lemma =>
                  have hBB : B1 = true := by rw [HB1.out]; simp [bad1, jumpsB, setsB, c2, c5, c4]
                  go_wp2_with (go_at_call 11; refine (PS _).mono ?_; rintro ed w5 ⟨rfl, hb5⟩; obtain ⟨x0, x1, x2, x3, x4, x5, x6, x7⟩ := code_cells (keepB hb5 HC.out))
                  go_meet
                  case rel => exact ⟨rfl, by rw [hBB]; (try first | rfl | (simp; omega)), hBx.trans (hb5.mono hBx.size), keepB hb5 HC.out⟩
              as_aux_lemma =>
                have hBB : B1 = false := by rw [HB1.out]; simp [bad1, jumpsB, setsB, c2, c5, c3, c4]
                go_wp2_with (go_at_call 11; refine (PS _).mono ?_; rintro ed w5 ⟨rfl, hb5⟩; obtain ⟨x0, x1, x2, x3, x4, x5, x6, x7⟩ := code_cells (keepB hb5 HC.out))
                go_meet
                case rel => exact ⟨rfl, by rw [hBB]; (try first | rfl | (simp; omega)), hBx.trans (hb5.mono hBx.size), keepB hb5 HC.out⟩
            by_cases d6 : op = 6
            · subst d6
              obtain rfl : S = false := by rw [HS.out]; rfl
              by_cases c2 : ft < 0
              · as_aux_lemma =>
                  have hBB : B1 = true := by rw [HB1.out]; simp [bad1, jumpsB, setsB, c2]
                  go_wp2_with fail
                  go_meet
                  case rel => exact ⟨rfl, by rw [hBB]; (try first | rfl | (simp; omega)), hBx, HC.out⟩
              by_cases c5 : (N : Int) ≤ ft
              · as_aux_lemma =>
                  have hBB : B1 = true := by rw [HB1.out]; simp [bad1, jumpsB, setsB, c5]
                  go_wp2_with fail
                  go_meet
                  case rel => exact ⟨rfl, by rw [hBB]; (try first | rfl | (simp; omega)), hBx, HC.out⟩
              as_aux_lemma =>
                have hBB : B1 = false := by rw [HB1.out]; simp [bad1, jumpsB, setsB, c2, c5]
                go_wp2_with (go_at_call 11; refine (PS _).mono ?_; rintro ed w5 ⟨rfl, hb5⟩; obtain ⟨x0, x1, x2, x3, x4, x5, x6, x7⟩ := code_cells (keepB hb5 HC.out))
                go_meet
                case rel => exact ⟨rfl, by rw [hBB]; (try first | rfl | (simp; omega)), hBx.trans (hb5.mono hBx.size), keepB hb5 HC.out⟩
            by_cases d7 : op = 7
            · subst d7
              obtain rfl : S = false := by rw [HS.out]; rfl
              by_cases c2 : ft < 0
              · as_aux_lemma =>
                  have hBB : B1 = true := by rw [HB1.out]; simp [bad1, jumpsB, setsB, c2]
                  go_wp2_with fail
                  go_meet
                  case rel => exact ⟨rfl, by rw [hBB]; (try first | rfl | (simp; omega)), hBx, HC.out⟩
              by_cases c5 : (N : Int) ≤ ft
              · as_aux_lemma =>
                  have hBB : B1 = true := by rw [HB1.out]; simp [bad1, jumpsB, setsB, c5]
                  go_wp2_with fail
                  go_meet
                  case rel => exact ⟨rfl, by rw [hBB]; (try first | rfl | (simp; omega)), hBx, HC.out⟩
              as_aux_lemma =>
                have hBB : B1 = false := by rw [HB1.out]; simp [bad1, jumpsB, setsB, c2, c5]
                go_wp2_with (go_at_call 11; refine (PS _).mono ?_; rintro ed w5 ⟨rfl, hb5⟩; obtain ⟨x0, x1, x2, x3, x4, x5, x6, x7⟩ := code_cells (keepB hb5 HC.out))
                go_meet
                case rel => exact ⟨rfl, by rw [hBB]; (try first | rfl | (simp; omega)), hBx.trans (hb5.mono hBx.size), keepB hb5 HC.out⟩
            have f2 : (op == 2) = false := by simpa using d2
            have f6 : (op == 6) = false := by simpa using d6
            have f7 : (op == 7) = false := by simpa using d7
            cases S with
            | false =>
              have hs : setsB op = false := HS.out.symm
              as_aux_lemma =>
                have hBB : B1 = false := by rw [HB1.out]; simp [bad1, jumpsB, hs, c0, c1, d2, d6, d7]
                go_wp2_with (go_at_call 11; refine (PS _).mono ?_; rintro ed w5 ⟨rfl, hb5⟩; obtain ⟨x0, x1, x2, x3, x4, x5, x6, x7⟩ := code_cells (keepB hb5 HC.out))
                go_meet
                case rel => exact ⟨rfl, by rw [hBB]; (try first | rfl | (simp; omega)), hBx.trans (hb5.mono hBx.size), keepB hb5 HC.out⟩
            | true =>
              have hs : setsB op = true := HS.out.symm
              by_cases c3 : fo < 0
              · as_aux_lemma =>
                  have hBB : B1 = true := by rw [HB1.out]; simp [bad1, jumpsB, hs, c0, c1, d2, d6, d7, c3]
                  go_wp2_with (go_at_call 11; refine (PS _).mono ?_; rintro ed w5 ⟨rfl, hb5⟩; obtain ⟨x0, x1, x2, x3, x4, x5, x6, x7⟩ := code_cells (keepB hb5 HC.out))
                  go_meet
                  case rel => exact ⟨rfl, by rw [hBB]; (try first | rfl | (simp; omega)), hBx.trans (hb5.mono hBx.size), keepB hb5 HC.out⟩
              by_cases c4 : 65535 < fo
              · as_aux_lemma =>
                  have hBB : B1 = true := by rw [HB1.out]; simp [bad1, jumpsB, hs, c0, c1, d2, d6, d7, c4]
                  go_wp2_with (go_at_call 11; refine (PS _).mono ?_; rintro ed w5 ⟨rfl, hb5⟩; obtain ⟨x0, x1, x2, x3, x4, x5, x6, x7⟩ := code_cells (keepB hb5 HC.out))
                  go_meet
                  case rel => exact ⟨rfl, by rw [hBB]; (try first | rfl | (simp; omega)), hBx.trans (hb5.mono hBx.size), keepB hb5 HC.out⟩
              as_aux_lemma =>
                have hBB : B1 = false := by rw [HB1.out]; simp [bad1, jumpsB, hs, c0, c1, d2, d6, d7, c3, c4]
                go_wp2_with (go_at_call 11; refine (PS _).mono ?_; rintro ed w5 ⟨rfl, hb5⟩; obtain ⟨x0, x1, x2, x3, x4, x5, x6, x7⟩ := code_cells (keepB hb5 HC.out))
                go_meet
                case rel => exact ⟨rfl, by rw [hBB]; (try first | rfl | (simp; omega)), hBx.trans (hb5.mono hBx.size), keepB hb5 HC.out⟩
          case rest => as_aux_lemma =>
            obtain ⟨rfl, rfl, hBx, hcell⟩ := hcut
            have HC := Lib.hid hcell
            clear hcell
            obtain ⟨g1, hg1e⟩ : ∃ g1, g1 = (gb && !B1) := ⟨_, rfl⟩
            have HG1 := Lib.hid hg1e
            clear hg1e
            go_upto_if 103 with fail
            go_cut [3, 41] from 41 to 160 (fun s3 i wx => s3 = .bool g1 ∧ i = .int .i64 k ∧ wx = wc)
            case first =>
              cases B1 with
              | true =>
                go_wp2_with fail
                go_meet
                case rel => exact ⟨by rw [HG1.out]; simp, rfl, rfl⟩
              | false =>
                go_wp2_with fail
                go_meet
                case rel => exact ⟨by rw [HG1.out]; simp, rfl, rfl⟩
            case rest => as_aux_lemma =>
              obtain ⟨rfl, rfl, rfl⟩ := hcut
              obtain ⟨n1, hn1e⟩ : ∃ n1, n1 = lsets nk ⟨op, fd, fo, fa, fb, fc, fv, ft⟩ := ⟨_, rfl⟩
              have hn1 : 0 ≤ n1 ∧ n1 ≤ 4611686018427387904 := by rw [hn1e]; exact lsets_in hnb
              have HN1 := Lib.hid hn1e
              clear hn1e
              go_upto_region 12 with fail
              go_cut [41, 116] from 41 to 160 (fun i b wx => i = .int .i64 k ∧ b = .bool C1 ∧ Below w.heap.size w wx ∧ wx.heap[B0]? = some (.cells #[.int .i64 op, .int .i64 fd, .int .i64 fo, .int .i64 fa, .int .i64 fb, .int .i64 fc, .int .u64 fv, .int .i64 ft] 26 (0, 0)))
              case first =>
                obtain ⟨x0, x1, x2, x3, x4, x5, x6, x7⟩ := code_cells HC.out
                cases S with
                | false =>
                  as_aux_lemma =>
                    have hCC : C1 = false := by rw [HC1.out]; simp []
                    go_wp2_with (go_at_call 11; refine (PS _).mono ?_; rintro ed w5 ⟨rfl, hb5⟩; obtain ⟨x0, x1, x2, x3, x4, x5, x6, x7⟩ := code_cells (keepB hb5 HC.out))
                    go_meet
                    case rel => exact ⟨rfl, by rw [hCC]; (try first | rfl | (simp; omega)), hBx.trans (hb5.mono hBx.size), keepB hb5 HC.out⟩
                | true =>
                  by_cases h1n : nk ≤ fo
                  · by_cases h1l : fo < 4611686018427387904
                    · as_aux_lemma =>
                        have hCC : C1 = true := by rw [HC1.out]; simp [h1n, h1l]
                        go_wp2_with (go_at_call 11; refine (PS _).mono ?_; rintro ed w5 ⟨rfl, hb5⟩; obtain ⟨x0, x1, x2, x3, x4, x5, x6, x7⟩ := code_cells (keepB hb5 HC.out))
                        go_meet
                        case rel => exact ⟨rfl, by rw [hCC]; (try first | rfl | (simp; omega)), hBx.trans (hb5.mono hBx.size), keepB hb5 HC.out⟩
                    · as_aux_lemma =>
                        have hCC : C1 = false := by rw [HC1.out]; simp [h1n, h1l]
                        go_wp2_with (go_at_call 11; refine (PS _).mono ?_; rintro ed w5 ⟨rfl, hb5⟩; obtain ⟨x0, x1, x2, x3, x4, x5, x6, x7⟩ := code_cells (keepB hb5 HC.out))
                        go_meet
                        case rel => exact ⟨rfl, by rw [hCC]; (try first | rfl | (simp; omega)), hBx.trans (hb5.mono hBx.size), keepB hb5 HC.out⟩
                  · as_aux_lemma =>
                      have hCC : C1 = false := by rw [HC1.out]; simp [h1n]
                      go_wp2_with (go_at_call 11; refine (PS _).mono ?_; rintro ed w5 ⟨rfl, hb5⟩; obtain ⟨x0, x1, x2, x3, x4, x5, x6, x7⟩ := code_cells (keepB hb5 HC.out))
                      go_meet
                      case rel => exact ⟨rfl, by rw [hCC]; (try first | rfl | (simp; omega)), hBx.trans (hb5.mono hBx.size), keepB hb5 HC.out⟩
              case rest => as_aux_lemma =>
                obtain ⟨rfl, rfl, hBx, hcell⟩ := hcut
                have HC := Lib.hid hcell
                clear hcell
                go_upto_if 116 with fail
                go_cut [4, 41] from 41 to 160 (fun s4 i wx => s4 = .int .i64 n1 ∧ i = .int .i64 k ∧ wx = wc)
                case first =>
                  obtain ⟨x0, x1, x2, x3, x4, x5, x6, x7⟩ := code_cells HC.out
                  cases C1 with
                  | true =>
                    have hfo : fo < 4611686018427387904 ∧ nk ≤ fo ∧ S = true := by have h1 := HC1.out; simp at h1; obtain ⟨⟨h1, h2⟩, h3⟩ := h1; exact ⟨h3, h2, h1⟩
                    have hN1 : n1 = fo + 1 := by rw [HN1.out]; unfold lsets; rw [if_pos (HS.out.symm.trans hfo.2.2)]; unfold lawN; rw [if_pos ⟨hfo.2.1, hfo.1⟩]
                    obtain ⟨hfo1, hfo2, _⟩ := hfo
                    have HN3 := Lib.hid hN1
                    clear hN1
                    go_wp2_with fail
                    go_meet
                    case rel => exact ⟨by rw [HN3.out], rfl, rfl⟩
                  | false =>
                    have hN1 : n1 = nk := by
                      rw [HN1.out]; unfold lsets
                      split
                      · rename_i hs
                        have h1 := HC1.out
                        have h2 : S = true := HS.out.trans hs
                        rw [h2] at h1; unfold lawN; rw [if_neg (by rintro ⟨h3, h4⟩; simp [h3, h4] at h1)]
                      · rfl
                    have HN3 := Lib.hid hN1
                    clear hN1
                    go_wp2_with fail
                    go_meet
                    case rel => exact ⟨by rw [HN3.out], rfl, rfl⟩
                case rest => as_aux_lemma =>
                  obtain ⟨rfl, rfl, rfl⟩ := hcut
                  obtain ⟨x0, x1, x2, x3, x4, x5, x6, x7⟩ := code_cells HC.out
                  go_wp2_with (go_at_call 14; refine (PL _).mono ?_; rintro ed w4 ⟨v4, rfl, ho4, hb4⟩; have hBx4 := hBx.trans (hb4.mono hBx.size); have HC4 := Lib.hid (keepB hb4 HC.out); obtain ⟨ao4, cap4, rfl, hm4, hc4⟩ := ho4.form; have HU4 := Lib.hid hc4; clear hc4)
                  go_loopg [3, 4, 123] U.length (fun q s3 s4 i wx => wx = w4 ∧ ∃ (j : Nat) (gj : Bool) (nj : Int), q = U.length - j ∧ j ≤ U.length ∧ s3 = .bool gj ∧ s4 = .int .i64 nj ∧ i = .int .i64 j ∧ UInv U g1 n1 j gj nj)
                  case atStart => exact ⟨rfl, 0, g1, n1, rfl, Nat.zero_le _, rfl, rfl, rfl, UInv.start _ _ _⟩
                  case round =>
                    obtain ⟨rfl, j, gj, nj, hq2, hj, rfl, rfl, rfl, hUI⟩ := hrel
                    have hnj := hUI.bound hn1
                    have HUI := Lib.hid hUI
                    clear hUI
                    by_cases hjl : j < U.length
                    · obtain ⟨z, hz⟩ : ∃ z, U[j]? = some z := ⟨U[j], by simp [hjl]⟩
                      obtain ⟨g4, rfl, hg1, hg2, hcz⟩ := HU4.out j z hz
                      obtain ⟨hz0, hz1⟩ := HUf.out z (List.mem_of_getElem? hz)
                      have HZ := Lib.hid hz
                      clear hz
                      by_cases z0 : z < 0
                      · have z3 : ¬ nj ≤ z := by omega
                        go_wp2_with fail
                        go_roundg (U.length - (j + 1))
                        case measure => omega
                        case rel => exact ⟨rfl, j + 1, false, nj, rfl, by omega, rfl, rfl, by go_num, HUI.out.next HZ.out (by rw [okV_no (.inl z0), Bool.and_false]) (by unfold lawN; split <;> omega)⟩
                      by_cases z1 : 65535 < z
                      · by_cases z3 : nj ≤ z
                        · by_cases z4 : z < 4611686018427387904
                          · go_wp2_with fail
                            go_roundg (U.length - (j + 1))
                            case measure => omega
                            case rel => exact ⟨rfl, j + 1, false, z + 1, rfl, by omega, rfl, rfl, by go_num, HUI.out.next HZ.out (by rw [okV_no (.inr z1), Bool.and_false]) (by unfold lawN; split <;> omega)⟩
                          · go_wp2_with fail
                            go_roundg (U.length - (j + 1))
                            case measure => omega
                            case rel => exact ⟨rfl, j + 1, false, nj, rfl, by omega, rfl, rfl, by go_num, HUI.out.next HZ.out (by rw [okV_no (.inr z1), Bool.and_false]) (by unfold lawN; split <;> omega)⟩
                        · go_wp2_with fail
                          go_roundg (U.length - (j + 1))
                          case measure => omega
                          case rel => exact ⟨rfl, j + 1, false, nj, rfl, by omega, rfl, rfl, by go_num, HUI.out.next HZ.out (by rw [okV_no (.inr z1), Bool.and_false]) (by unfold lawN; split <;> omega)⟩
                      by_cases z3 : nj ≤ z
                      · have z4 : z < 4611686018427387904 := by omega
                        go_wp2_with fail
                        go_roundg (U.length - (j + 1))
                        case measure => omega
                        case rel => exact ⟨rfl, j + 1, gj, z + 1, rfl, by omega, rfl, rfl, by go_num, HUI.out.next HZ.out (by rw [okV_in (show 0 ≤ z by omega) (show z ≤ 65535 by omega), Bool.and_true]) (by unfold lawN; split <;> omega)⟩
                      go_wp2_with fail
                      go_roundg (U.length - (j + 1))
                      case measure => omega
                      case rel => exact ⟨rfl, j + 1, gj, nj, rfl, by omega, rfl, rfl, by go_num, HUI.out.next HZ.out (by rw [okV_in (show 0 ≤ z by omega) (show z ≤ 65535 by omega), Bool.and_true]) (by unfold lawN; split <;> omega)⟩
                    · have HJ := Lib.hid hjl
                      have hjz : ¬ ((j : Int) < (U.length : Int)) := by omega
                      clear hjl
                      obtain ⟨hg2, hn2⟩ := HUI.out.done (by have := HJ.out; omega)
                      obtain ⟨g2, hg2'⟩ : ∃ g2, g2 = gj := ⟨_, rfl⟩
                      obtain ⟨n2, hn2'⟩ : ∃ n2, n2 = nj := ⟨_, rfl⟩
                      have HG2 := Lib.hid (hg2'.trans hg2)
                      have HN2 := Lib.hid (hn2'.trans hn2)
                      subst hg2' hn2'
                      clear hg2 hn2
                      go_upto_region 22 with fail
                      go_cut [41, 149] from 41 to 160 (fun i b wx => i = .int .i64 k ∧ b = .bool C2 ∧ Below w.heap.size w wx ∧ wx.heap[B0]? = some (.cells #[.int .i64 op, .int .i64 fd, .int .i64 fo, .int .i64 fa, .int .i64 fb, .int .i64 fc, .int .u64 fv, .int .i64 ft] 26 (0, 0)))
                      case first =>
                        obtain ⟨x0, x1, x2, x3, x4, x5, x6, x7⟩ := code_cells HC4.out
                        cases S with
                        | false =>
                          as_aux_lemma =>
                            have hCC : C2 = false := by rw [HC2.out]; simp []
                            go_wp2_with (go_at_call 11; refine (PS _).mono ?_; rintro ed w5 ⟨rfl, hb5⟩; obtain ⟨x0, x1, x2, x3, x4, x5, x6, x7⟩ := code_cells (keepB hb5 HC4.out))
                            go_meet
                            case rel => exact ⟨rfl, by rw [hCC]; (try first | rfl | (simp; omega)), hBx4.trans (hb5.mono hBx4.size), keepB hb5 HC4.out⟩
                        | true =>
                          by_cases h1n : 4611686018427387904 ≤ fo
                          · as_aux_lemma =>
                              have hCC : C2 = true := by rw [HC2.out]; simp [h1n]
                              go_wp2_with (go_at_call 11; refine (PS _).mono ?_; rintro ed w5 ⟨rfl, hb5⟩; obtain ⟨x0, x1, x2, x3, x4, x5, x6, x7⟩ := code_cells (keepB hb5 HC4.out))
                              go_meet
                              case rel => exact ⟨rfl, by rw [hCC]; (try first | rfl | (simp; omega)), hBx4.trans (hb5.mono hBx4.size), keepB hb5 HC4.out⟩
                          · as_aux_lemma =>
                              have hCC : C2 = false := by rw [HC2.out]; simp [h1n]
                              go_wp2_with (go_at_call 11; refine (PS _).mono ?_; rintro ed w5 ⟨rfl, hb5⟩; obtain ⟨x0, x1, x2, x3, x4, x5, x6, x7⟩ := code_cells (keepB hb5 HC4.out))
                              go_meet
                              case rel => exact ⟨rfl, by rw [hCC]; (try first | rfl | (simp; omega)), hBx4.trans (hb5.mono hBx4.size), keepB hb5 HC4.out⟩
                      case rest => as_aux_lemma =>
                        obtain ⟨rfl, rfl, hBx, hcell⟩ := hcut
                        have HC := Lib.hid hcell
                        clear hcell
                        cases C2 with
                        | true =>
                          go_wp2_with fail
                          go_ret
                          exact ⟨rfl, hBx⟩
                        | false =>
                          obtain ⟨x0, x1, x2, x3, x4, x5, x6, x7⟩ := code_cells HC.out
                          go_wp2_with (go_at_call 14; refine (PL _).mono ?_; rintro ed w4 ⟨v4, rfl, ho4, hb4⟩; have hBx4 := hBx.trans (hb4.mono hBx.size); obtain ⟨ao5, cap5, rfl, hm5, hc5⟩ := ho4.form; have HU5 := Lib.hid hc5; clear hc5)
                          go_loopg [153] U.length (fun q i wx => wx = w4 ∧ ∃ j : Nat, q = U.length - j ∧ j ≤ U.length ∧ i = .int .i64 j ∧ VInv U j)
                          case atStart => exact ⟨rfl, 0, rfl, Nat.zero_le _, rfl, VInv.start _⟩
                          case round =>
                            obtain ⟨rfl, j, hq3, hj, rfl, hVI⟩ := hrel
                            have HVI := Lib.hid hVI
                            clear hVI
                            by_cases hjl : j < U.length
                            · obtain ⟨z, hz⟩ : ∃ z, U[j]? = some z := ⟨U[j], by simp [hjl]⟩
                              obtain ⟨g4, rfl, hg1, hg2, hcz⟩ := HU5.out j z hz
                              obtain ⟨hz0, hz1⟩ := HUf.out z (List.mem_of_getElem? hz)
                              have HZ := Lib.hid hz
                              clear hz
                              by_cases z4 : 4611686018427387904 ≤ z
                              · go_wp2_with fail
                                go_ret
                                exact ⟨rfl, hBx4⟩
                              · go_wp2_with fail
                                go_roundg (U.length - (j + 1))
                                case measure => omega
                                case rel => exact ⟨rfl, j + 1, rfl, by omega, by go_num, HVI.out.next HZ.out (by omega)⟩
                            · have HJ := Lib.hid hjl
                              have hjz : ¬ ((j : Int) < (U.length : Int)) := by omega
                              clear hjl
                              go_wp2_with fail
                              go_roundg (N - (k + 1))
                              case measure => omega
                              case rel => exact ⟨k + 1, g2, n2, rfl, by omega, rfl, rfl, by go_num, HI.out.next HZY.out ⟨HU.out ▸ HVI.out.done (by have := HJ.out; omega), fun hs => by have h1 := HC2.out; have h2 : S = true := HS.out.trans hs; rw [h2] at h1; simp at h1; omega⟩ (by rw [HG2.out, HG1.out, HB1.out, HU.out]) (by rw [HN2.out, HN1.out, HU.out]), hBx4⟩
      · obtain rfl : N = k := by omega
        obtain ⟨hg9, hn9⟩ := HI.out.done HM.out (by omega)
        rw [← hg9] at PG
        rw [← hn9] at PV
        clear hg9 hn9
        have hBw := hBr
        go_wp2_with (first
          | (go_at_call 17; refine (PV _ (hBw.trans (hb5.mono hBw.size))).mono ?_; rintro ed w6 ⟨rfl, hb6⟩)
          | (go_at_call 16; refine (PG _ hBw).mono ?_; rintro ed w5 ⟨rfl, hb5⟩))
        go_ret
        exact ⟨ret_bool (by simp), (hBw.trans (hb5.mono hBw.size)).trans (hb6.mono (Nat.le_trans hBw.size hb5.size))⟩
end Go.Proofs.YtjiecfagblijhaaDoor.Cd
