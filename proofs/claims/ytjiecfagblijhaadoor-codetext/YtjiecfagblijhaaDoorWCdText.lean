/- The walk of CodeText: it answers true. Conditions: the table of powers holds what its initialiser lays; the fields are within their types. -/
import Derived.Test.YtjiecfagblijhaaDoorCdAwake
import Derived.Test.YtjiecfagblijhaaDoorCdTxtLaw
import Derived.Deep.CutRange
namespace Go.Proofs.YtjiecfagblijhaaDoor.Cd
open Go.ChangeShapes Go.WideShapes Go.ChangeAt Go.RowKit
set_option linter.unusedVariables false
set_option linter.unusedSimpArgs false

def NamesAt (w : World) (g : Nat) : Prop := ∃ cs fr, w.heap[g]? = some (.cells cs 9 fr) ∧ ∀ n : Nat, n ≤ 13 → cs[n]? = some (.string (bstr (nameL n)))
theorem NamesAt.cell {w : World} {g n : Nat} (h : NamesAt w g) (hn : n ≤ 13) : w.cell? ⟨g, n, none⟩ = some (.string (bstr (nameL n))) := by
  obtain ⟨cs, fr, h1, h2⟩ := h
  rw [Lib.cell_of_heap h1]
  exact h2 n hn
theorem names_cells (n : Nat) (hn : n ≤ 13) : (#[.string ⟨#[115, 101, 116]⟩, .string ⟨#[109, 111, 118, 101]⟩, .string ⟨#[100, 111]⟩, .string ⟨#[99, 104, 111, 111, 115, 101]⟩, .string ⟨#[114, 101, 97, 100]⟩, .string ⟨#[119, 114, 105, 116, 101]⟩, .string ⟨#[106, 117, 109, 112]⟩, .string ⟨#[122, 101, 114, 111]⟩, .string ⟨#[108, 111, 99, 107]⟩, .string ⟨#[117, 110, 108, 111, 99, 107]⟩, .string ⟨#[105, 110, 99]⟩, .string ⟨#[109, 101, 110, 100]⟩, .string ⟨#[116, 101, 108, 108]⟩, .string ⟨#[104, 97, 108, 116]⟩] : Array Value)[n]? = some (.string (bstr (nameL n))) := by
  rcases (show n = 0 ∨ n = 1 ∨ n = 2 ∨ n = 3 ∨ n = 4 ∨ n = 5 ∨ n = 6 ∨ n = 7 ∨ n = 8 ∨ n = 9 ∨ n = 10 ∨ n = 11 ∨ n = 12 ∨ n = 13 by omega) with rfl | rfl | rfl | rfl | rfl | rfl | rfl | rfl | rfl | rfl | rfl | rfl | rfl | rfl <;> rfl

set_option maxHeartbeats 4000000 in
set_option maxRecDepth 100000 in
theorem textl_walk (x : Cd) (hx : x.fits) (w : World) (hV : Vars w.heap.size w) :
    Calls Tryd.prog 6 #[.agg #[.int .i64 x.op, .int .i64 x.dop, .int .i64 x.to, .int .i64 x.a, .int .i64 x.b, .int .i64 x.c, .int .u64 x.v, .int .i64 x.t]] w fun e w' => e = .returned (.bool true) ∧ Below w.heap.size w w' := by
  obtain ⟨op, fd, fo, fa, fb, fc, fv, ft⟩ := x
  obtain ⟨fv, rfl⟩ : ∃ V : Nat, fv = V := ⟨fv.toNat, by have := hx.2.2.2.2.2.2.1.1; simp only at this; omega⟩
  have PA := fun w1 (hb1 : Below w.heap.size w w1) => awake_any w1 ((hV.on hb1).mono hb1.size)
  have PT := fun w1 (hb1 : Below w.heap.size w w1) => text_any ⟨op, fd, fo, fa, fb, fc, fv, ft⟩ hx w1 ((hV.on hb1).mono hb1.size)
  have PS := fun w1 => sets_any ⟨op, fd, fo, fa, fb, fc, fv, ft⟩ w1
  have PL := fun w1 => luses_any ⟨op, fd, fo, fa, fb, fc, fv, ft⟩ w1
  have hf := hx
  obtain ⟨hfop, hfd, hfo, hfa, hfb, hfc, hfv, hft⟩ := hf
  simp only at hfop hfd hfo hfv hft PT PS PL ⊢
  have hbx := (Below.refl w.heap.size w).alloc (Nat.le_refl _) (.cells #[.int .i64 op, .int .i64 fd, .int .i64 fo, .int .i64 fa, .int .i64 fb, .int .i64 fc, .int .u64 fv, .int .i64 ft] 26)
  have HB := Lib.hid (show (w.alloc (.cells #[.int .i64 op, .int .i64 fd, .int .i64 fo, .int .i64 fa, .int .i64 fb, .int .i64 fc, .int .u64 fv, .int .i64 ft] 26)).heap[w.heap.size]? = some (.cells #[.int .i64 op, .int .i64 fd, .int .i64 fo, .int .i64 fa, .int .i64 fb, .int .i64 fc, .int .u64 fv, .int .i64 ft] 26 (0, 0)) by rw [alloc_at, if_pos rfl])
  by_cases hno : op < 0 ∨ 13 < op
  · have he : textP ⟨op, fd, fo, fa, fb, fc, fv, ft⟩ = [63] := by unfold textP; rw [if_pos hno]
    rw [he] at PT
    clear he
    rcases hno with c0 | c0
    all_goals
      as_aux_lemma =>
        go_enter Tryd.func6, Tryd.ntmps6
        go_wp2_with (first
          | (go_at_call 18; refine (PT _ hBx).mono ?_; rintro ed w2 ⟨rfl, hb2⟩; rw [show bstr [63] = ⟨#[63]⟩ from rfl])
          | (go_at_call 8; refine (PA _ hbx).mono ?_; rintro ed w1 ⟨rfl, hb1⟩; have hBx := hbx.trans (hb1.mono (show w.heap.size ≤ (w.alloc (.cells #[.int .i64 op, .int .i64 fd, .int .i64 fo, .int .i64 fa, .int .i64 fb, .int .i64 fc, .int .u64 fv, .int .i64 ft] 26)).heap.size by simp)); obtain ⟨x0, x1, x2, x3, x4, x5, x6, x7⟩ := code_cells (keepB hb1 HB.out)))
        go_ret
        exact ⟨rfl, hBx.trans (hb2.mono hBx.size)⟩
  have c0 : ¬ op < 0 := by omega
  have c1 : ¬ 13 < op := by omega
  have hop0 : 0 ≤ op := by omega
  have hop1 : op ≤ 13 := by omega
  have hUf := uses_fits hx
  have hU3 := uses_le3 ⟨op, fd, fo, fa, fb, fc, fv, ft⟩
  obtain ⟨S, hS⟩ : ∃ S, S = setsB op := ⟨_, rfl⟩
  obtain ⟨U, hU⟩ : ∃ U, U = usesP ⟨op, fd, fo, fa, fb, fc, fv, ft⟩ := ⟨_, rfl⟩
  obtain ⟨D2, hD2⟩ : ∃ D2, D2 = signB ⟨op, fd, fo, fa, fb, fc, fv, ft⟩ := ⟨_, rfl⟩
  obtain ⟨T0, hT0e⟩ : ∃ T0, T0 = bstr (nameL op) := ⟨_, rfl⟩
  obtain ⟨T1, hT1e⟩ : ∃ T1, T1 = bstr (tx1 ⟨op, fd, fo, fa, fb, fc, fv, ft⟩) := ⟨_, rfl⟩
  obtain ⟨T2, hT2e⟩ : ∃ T2, T2 = bstr (tx2 ⟨op, fd, fo, fa, fb, fc, fv, ft⟩) := ⟨_, rfl⟩
  obtain ⟨T4, hT4e⟩ : ∃ T4, T4 = bstr (tx4 ⟨op, fd, fo, fa, fb, fc, fv, ft⟩) := ⟨_, rfl⟩
  obtain ⟨TX, hTXe⟩ : ∃ TX, TX = bstr (textP ⟨op, fd, fo, fa, fb, fc, fv, ft⟩) := ⟨_, rfl⟩
  obtain ⟨TO, hTOe⟩ : ∃ TO, TO = bstr (Lib.itoa fo) := ⟨_, rfl⟩
  obtain ⟨TT, hTTe⟩ : ∃ TT, TT = bstr (Lib.itoa ft) := ⟨_, rfl⟩
  obtain ⟨TD, hTDe⟩ : ∃ TD, TD = bstr (Lib.decDigits fv) := ⟨_, rfl⟩
  have hT0 : T0.size ≤ 22 := by rw [hT0e]; exact name_len op
  have hT1 : T1.size ≤ 50 := by rw [hT1e]; exact tx1_len hx
  have hT2 : T2.size ≤ 100 := by rw [hT2e]; exact tx2_len hx
  have hT4 : T4.size ≤ 250 := by rw [hT4e]; exact tx4_len hx
  have hTO : TO.size ≤ 21 := by rw [hTOe]; exact Lib.itoa_length_le fo hfo.1 hfo.2
  have hTT : TT.size ≤ 21 := by rw [hTTe]; exact Lib.itoa_length_le ft hft.1 hft.2
  have hTD : TD.size ≤ 20 := by rw [hTDe]; exact dec_len fv (by omega)
  have PNo := fun w1 => number_any fo hfo.1 hfo.2 w1
  have PNt := fun w1 => number_any ft hft.1 hft.2 w1
  have PD := fun w1 => digits_any fv (by omega) w1
  rw [← hTOe] at PNo
  rw [← hTTe] at PNt
  rw [← hTDe] at PD
  rw [← hTXe] at PT
  rw [← hS] at PS
  rw [← hU] at PL hUf hU3
  have HX := Lib.hid hx
  have HS := Lib.hid hS
  have HU := Lib.hid hU
  have HUf := Lib.hid hUf
  have HD2 := Lib.hid hD2
  have HT0 := Lib.hid hT0e
  have HT1 := Lib.hid hT1e
  have HT2 := Lib.hid hT2e
  have HT4 := Lib.hid hT4e
  have HTX := Lib.hid hTXe
  have HTO := Lib.hid hTOe
  have HTT := Lib.hid hTTe
  have HTD := Lib.hid hTDe
  clear hS hU hUf hD2 hT0e hT1e hT2e hT4e hTXe hTOe hTTe hTDe hno hfop hfd hfo hfa hfb hfc hfv hft hx
  go_enter Tryd.func6, Tryd.ntmps6
  go_upto_region 5 with (go_at_call 8; refine (PA _ hbx).mono ?_; rintro ed w1 ⟨rfl, hb1⟩; have hBx := hbx.trans (hb1.mono (show w.heap.size ≤ (w.alloc (.cells #[.int .i64 op, .int .i64 fd, .int .i64 fo, .int .i64 fa, .int .i64 fb, .int .i64 fc, .int .u64 fv, .int .i64 ft] 26)).heap.size by simp)); have HC := Lib.hid (keepB hb1 HB.out); obtain ⟨x0, x1, x2, x3, x4, x5, x6, x7⟩ := code_cells HC.out)
  go_cut [3] from 4 (fun s wx => ∃ g, s = .slice (some ⟨g, 0, none⟩) 14 14 ∧ NamesAt wx g ∧ Below w.heap.size w wx ∧ wx.heap[w.heap.size]? = some (.cells #[.int .i64 op, .int .i64 fd, .int .i64 fo, .int .i64 fa, .int .i64 fb, .int .i64 fc, .int .u64 fv, .int .i64 ft] 26 (0, 0)))
  case first =>
    go_wp2_with fail
    go_meet
    case rel =>
      have hA : NamesAt (w1.alloc (.cells #[.string ⟨#[115, 101, 116]⟩, .string ⟨#[109, 111, 118, 101]⟩, .string ⟨#[100, 111]⟩, .string ⟨#[99, 104, 111, 111, 115, 101]⟩, .string ⟨#[114, 101, 97, 100]⟩, .string ⟨#[119, 114, 105, 116, 101]⟩, .string ⟨#[106, 117, 109, 112]⟩, .string ⟨#[122, 101, 114, 111]⟩, .string ⟨#[108, 111, 99, 107]⟩, .string ⟨#[117, 110, 108, 111, 99, 107]⟩, .string ⟨#[105, 110, 99]⟩, .string ⟨#[109, 101, 110, 100]⟩, .string ⟨#[116, 101, 108, 108]⟩, .string ⟨#[104, 97, 108, 116]⟩] 9)) w1.heap.size := ⟨_, _, by rw [alloc_at, if_pos rfl], names_cells⟩
      have hB2 := hBx.alloc hBx.size (.cells #[.string ⟨#[115, 101, 116]⟩, .string ⟨#[109, 111, 118, 101]⟩, .string ⟨#[100, 111]⟩, .string ⟨#[99, 104, 111, 111, 115, 101]⟩, .string ⟨#[114, 101, 97, 100]⟩, .string ⟨#[119, 114, 105, 116, 101]⟩, .string ⟨#[106, 117, 109, 112]⟩, .string ⟨#[122, 101, 114, 111]⟩, .string ⟨#[108, 111, 99, 107]⟩, .string ⟨#[117, 110, 108, 111, 99, 107]⟩, .string ⟨#[105, 110, 99]⟩, .string ⟨#[109, 101, 110, 100]⟩, .string ⟨#[116, 101, 108, 108]⟩, .string ⟨#[104, 97, 108, 116]⟩] 9)
      have hC := keepB ((Below.refl _ _).alloc (Nat.le_refl _) (.cells #[.string ⟨#[115, 101, 116]⟩, .string ⟨#[109, 111, 118, 101]⟩, .string ⟨#[100, 111]⟩, .string ⟨#[99, 104, 111, 111, 115, 101]⟩, .string ⟨#[114, 101, 97, 100]⟩, .string ⟨#[119, 114, 105, 116, 101]⟩, .string ⟨#[106, 117, 109, 112]⟩, .string ⟨#[122, 101, 114, 111]⟩, .string ⟨#[108, 111, 99, 107]⟩, .string ⟨#[117, 110, 108, 111, 99, 107]⟩, .string ⟨#[105, 110, 99]⟩, .string ⟨#[109, 101, 110, 100]⟩, .string ⟨#[116, 101, 108, 108]⟩, .string ⟨#[104, 97, 108, 116]⟩] 9)) HC.out
      refine ⟨_, rfl, ?_, ?_, ?_⟩
      · exact hA
      · exact hB2
      · exact hC
  case rest => as_aux_lemma =>
    clear HC hBx x0 x1 x2 x3 x4 x5 x6 x7
    obtain ⟨gN, rfl, hNA, hBx, hcell⟩ := hcut
    have HC := Lib.hid hcell
    clear hcell
    go_upto_region 6 with fail
    go_cut [4] from 5 (fun s wx => s = .string T0 ∧ Below w.heap.size w wx ∧ wx.heap[w.heap.size]? = some (.cells #[.int .i64 op, .int .i64 fd, .int .i64 fo, .int .i64 fa, .int .i64 fb, .int .i64 fc, .int .u64 fv, .int .i64 ft] 26 (0, 0)))
    case first => as_aux_lemma =>
      obtain ⟨n, rfl⟩ : ∃ n : Nat, op = n := ⟨op.toNat, by omega⟩
      have hcl := hNA.cell (show n ≤ 13 by omega)
      rw [← HT0.out] at hcl
      have hn13 : n ≤ 13 := by omega
      obtain ⟨x0, x1, x2, x3, x4, x5, x6, x7⟩ := code_cells HC.out
      go_wp2_with fail
      go_meet
      case rel => exact ⟨rfl, hBx, HC.out⟩
    case rest => as_aux_lemma =>
      clear hNA
      obtain ⟨rfl, hBx, hcell⟩ := hcut
      have HC := Lib.hid hcell
      clear hcell
      obtain ⟨x0, x1, x2, x3, x4, x5, x6, x7⟩ := code_cells HC.out
      go_upto_if 27 with (go_at_call 11; refine (PS _).mono ?_; rintro ed w5 ⟨rfl, hb5⟩; have hBx5 := hBx.trans (hb5.mono hBx.size); have HC5 := Lib.hid (keepB hb5 HC.out))
      go_cut [4] from 9 (fun s wx => s = .string T1 ∧ Below w.heap.size w wx ∧ wx.heap[w.heap.size]? = some (.cells #[.int .i64 op, .int .i64 fd, .int .i64 fo, .int .i64 fa, .int .i64 fb, .int .i64 fc, .int .u64 fv, .int .i64 ft] 26 (0, 0)))
      case first =>
        clear x0 x1 x2 x3 x4 x5 x6 x7
        obtain ⟨x0, x1, x2, x3, x4, x5, x6, x7⟩ := code_cells HC5.out
        cases S with
        | true => as_aux_lemma =>
          have hT1e : T1 = T0 ++ ⟨#[32, 118]⟩ ++ TO := by
            rw [HT1.out, HT0.out, HTO.out]
            unfold tx1
            rw [if_pos HS.out.symm]
            show _ = bstr _ ++ bstr [32, 118] ++ bstr _
            rw [bstr_app, bstr_app]
          have HTE := Lib.hid hT1e
          clear hT1e
          go_wp2_with (go_at_call 19; refine (PNo _).mono ?_; rintro ed w6 ⟨rfl, rfl⟩)
          go_meet
          case rel => exact ⟨by rw [HTE.out], hBx5, HC5.out⟩
        | false => as_aux_lemma =>
          have hT1e : T1 = T0 := by
            rw [HT1.out, HT0.out]
            unfold tx1
            rw [← HS.out]; rfl
          have HTE := Lib.hid hT1e
          clear hT1e
          go_wp2_with fail
          go_meet
          case rel => exact ⟨by rw [HTE.out], hBx5, HC5.out⟩
      case rest => as_aux_lemma =>
        clear x0 x1 x2 x3 x4 x5 x6 x7 HC HC5 hBx5 hBx
        obtain ⟨rfl, hBx, hcell⟩ := hcut
        have HC := Lib.hid hcell
        clear hcell
        go_upto_region 9 with fail
        go_cut [4, 46] from 9 (fun s b wx => s = .string T1 ∧ b = .bool D2 ∧ Below w.heap.size w wx ∧ wx.heap[w.heap.size]? = some (.cells #[.int .i64 op, .int .i64 fd, .int .i64 fo, .int .i64 fa, .int .i64 fb, .int .i64 fc, .int .u64 fv, .int .i64 ft] 26 (0, 0)))
        case first => as_aux_lemma =>
          obtain ⟨x0, x1, x2, x3, x4, x5, x6, x7⟩ := code_cells HC.out
          by_cases e2 : op = 2
          · subst e2
            by_cases h0 : 0 ≤ fd
            · by_cases h1 : fd < 10
              · have hD : D2 = true := by rw [HD2.out]; simp [signB, h0, h1]
                go_wp2_with fail
                go_meet
                case rel => exact ⟨rfl, by rw [hD]; (try first | rfl | (simp; omega)), hBx, HC.out⟩
              · have hD : D2 = false := by rw [HD2.out]; simp [signB, h0, h1]
                go_wp2_with fail
                go_meet
                case rel => exact ⟨rfl, by rw [hD]; (try first | rfl | (simp; omega)), hBx, HC.out⟩
            · have hD : D2 = false := by rw [HD2.out]; simp [signB, h0]
              go_wp2_with fail
              go_meet
              case rel => exact ⟨rfl, by rw [hD]; (try first | rfl | (simp; omega)), hBx, HC.out⟩
          · have f2 : (op == 2) = false := by simpa using e2
            have hD : D2 = false := by rw [HD2.out]; simp [signB, e2]
            go_wp2_with fail
            go_meet
            case rel => exact ⟨rfl, by rw [hD]; (try first | rfl | (simp; omega)), hBx, HC.out⟩
        case rest => as_aux_lemma =>
          obtain ⟨rfl, rfl, hBx, hcell⟩ := hcut
          have HC := Lib.hid hcell
          clear hcell
          go_upto_if 46 with fail
          go_cut [4] from 9 (fun s wx => s = .string T2 ∧ Below w.heap.size w wx ∧ wx.heap[w.heap.size]? = some (.cells #[.int .i64 op, .int .i64 fd, .int .i64 fo, .int .i64 fa, .int .i64 fb, .int .i64 fc, .int .u64 fv, .int .i64 ft] 26 (0, 0)))
          case first =>
            cases D2 with
            | true => as_aux_lemma =>
              have hd : op = 2 ∧ 0 ≤ fd ∧ fd < 10 := by have h1 := HD2.out; simp [signB] at h1; exact ⟨h1.1.1, h1.1.2, h1.2⟩
              obtain ⟨rfl, hd0, hd1⟩ := hd
              obtain ⟨n, rfl⟩ : ∃ n : Nat, fd = n := ⟨fd.toNat, by omega⟩
              obtain ⟨TS, hTS⟩ : ∃ TS, TS = bstr (signL n) := ⟨_, rfl⟩
              have hTS1 : TS.size ≤ 22 := by rw [hTS]; exact sign_len n (by omega)
              have hT2e : T2 = T1 ++ ⟨#[32]⟩ ++ TS := by
                rw [HT2.out, HT1.out, hTS]
                unfold tx2
                rw [if_pos HD2.out.symm]
                show _ = bstr _ ++ bstr [32] ++ bstr _
                rw [bstr_app, bstr_app]
                rfl
              have HTE := Lib.hid hT2e
              have HTS := Lib.hid hTS
              have hn9 : n ≤ 9 := by omega
              clear hT2e hTS
              obtain ⟨x0, x1, x2, x3, x4, x5, x6, x7⟩ := code_cells HC.out
              go_upto_region 10 with fail
              go_region_with (go_at_call 20; refine (signs_any _).mono ?_; rintro ed w5 ⟨g5, rfl, hs5, hb5⟩; have hcl := hs5.cell hn9; rw [← HTS.out] at hcl; obtain ⟨x0, x1, x2, x3, x4, x5, x6, x7⟩ := code_cells (keepB hb5 HC.out))
              all_goals
                go_wp2_with fail
                go_meet
                case rel => exact ⟨by rw [HTE.out], (below_drew hBx).trans (hb5.mono hBx.size), keepB hb5 HC.out⟩
            | false => as_aux_lemma =>
              have hT2e : T2 = T1 := by
                rw [HT2.out, HT1.out]
                unfold tx2
                rw [← HD2.out]; rfl
              have HTE := Lib.hid hT2e
              clear hT2e
              go_wp2_with fail
              go_meet
              case rel => exact ⟨by rw [HTE.out], hBx, HC.out⟩
          case rest => as_aux_lemma =>
            obtain ⟨rfl, hBx, hcell⟩ := hcut
            have HC := Lib.hid hcell
            clear hcell
            go_upto_region 11 with fail
            obtain ⟨x0, x1, x2, x3, x4, x5, x6, x7⟩ := code_cells HC.out
            go_wp2_with (go_at_call 14; refine (PL _).mono ?_; rintro ed w4 ⟨v4, rfl, ho4, hb4⟩; have hBx4 := hBx.trans (hb4.mono hBx.size); have HC4 := Lib.hid (keepB hb4 HC.out); obtain ⟨ao4, cap4, rfl, hm4, hc4⟩ := ho4.form; have HU4 := Lib.hid hc4; clear hc4)
            go_loopg [4, 58] U.length (fun q s i wx => wx = w4 ∧ ∃ (j : Nat) (T : ByteArray), q = U.length - j ∧ j ≤ U.length ∧ s = .string T ∧ i = .int .i64 j ∧ Hid (T = bstr (tx3 ⟨op, fd, fo, fa, fb, fc, fv, ft⟩ j)) ∧ T.size ≤ 250)
            case atStart => exact ⟨rfl, 0, T2, rfl, Nat.zero_le _, rfl, rfl, Lib.hid (by rw [HT2.out]; simp [tx3, txU]), Nat.le_trans hT2 (by omega)⟩
            case round =>
              obtain ⟨rfl, j, T, hq, hj, rfl, rfl, HT, hT⟩ := hrel
              have HQ := Lib.hid hq
              clear hq
              by_cases hjl : j < U.length
              · obtain ⟨z, hz⟩ : ∃ z, U[j]? = some z := ⟨U[j], by simp [hjl]⟩
                obtain ⟨g4, rfl, hg1, hg2, hcz⟩ := HU4.out j z hz
                obtain ⟨hz0, hz1⟩ := HUf.out z (List.mem_of_getElem? hz)
                have PNz := fun w1 => number_any z hz0 hz1 w1
                obtain ⟨TN, hTN⟩ : ∃ TN, TN = bstr (Lib.itoa z) := ⟨_, rfl⟩
                have hTN1 : TN.size ≤ 21 := by rw [hTN]; exact Lib.itoa_length_le z hz0 hz1
                rw [← hTN] at PNz
                have hNext : T ++ ⟨#[32, 118]⟩ ++ TN = bstr (tx3 ⟨op, fd, fo, fa, fb, fc, fv, ft⟩ (j + 1)) := by
                  rw [HT.out, hTN, tx3_next (HU.out ▸ hz), ← bstr_app, ← bstr_app]; rfl
                have hLen : (T ++ ⟨#[32, 118]⟩ ++ TN).size ≤ 250 := by rw [hNext]; exact tx3_len HX.out _
                have HNX := Lib.hid hNext
                have HLE := Lib.hid hLen
                clear hTN hNext hLen hz
                go_wp2_with (go_at_call 19; refine (PNz _).mono ?_; rintro ed w5 ⟨rfl, rfl⟩)
                go_roundg (U.length - (j + 1))
                case measure => rw [HQ.out]; omega
                case rel => exact ⟨rfl, j + 1, _, rfl, by omega, rfl, by go_num, HNX, HLE.out⟩
              · have HJ := Lib.hid hjl
                have hjz : ¬ ((j : Int) < (U.length : Int)) := by omega
                have h4 : T4 = T := by
                  rw [HT.out, HT4.out, tx3_end (by have := HJ.out; rw [← HU.out]; omega)]
                subst h4
                clear hjl PS PL
                go_upto_region 16 with fail
                rcases (show op = 0 ∨ op = 1 ∨ op = 2 ∨ op = 3 ∨ op = 4 ∨ op = 5 ∨ op = 6 ∨ op = 7 ∨ op = 8 ∨ op = 9 ∨ op = 10 ∨ op = 11 ∨ op = 12 ∨ op = 13 by omega) with e | e | e | e | e | e | e | e | e | e | e | e | e | e
                · as_aux_lemma =>
                    subst e
                    have hfin : TX = T4 ++ ⟨#[32]⟩ ++ TD := by
                      rw [HTX.out, text_tx _ (show (0 : Int) ≤ 0 by decide) (show (0 : Int) ≤ 13 by decide), HT4.out, HTD.out]
                      simp only [countsB, jumpsB]
                      show bstr _ = bstr _ ++ bstr [32] ++ bstr _
                      rw [bstr_app, bstr_app]
                      congr 1
                      (try simp)
                    have HF := Lib.hid hfin
                    clear hfin
                    obtain ⟨x0, x1, x2, x3, x4, x5, x6, x7⟩ := code_cells HC4.out
                    go_wp2_with (first | (go_at_call 21; refine (PD _).mono ?_; rintro ed w5 ⟨rfl, rfl⟩) | (go_at_call 18; refine (PT _ hBx4).mono ?_; rintro ed w6 ⟨rfl, hb6⟩))
                    go_ret
                    exact ⟨ret_bool (by rw [HF.out]; simp), hBx4.trans (hb6.mono hBx4.size)⟩
                · as_aux_lemma =>
                    subst e
                    have hfin : TX = T4 := by
                      rw [HTX.out, text_tx _ (show (0 : Int) ≤ 1 by decide) (show (1 : Int) ≤ 13 by decide), HT4.out]
                      simp [countsB, jumpsB]
                    have HF := Lib.hid hfin
                    clear hfin
                    obtain ⟨x0, x1, x2, x3, x4, x5, x6, x7⟩ := code_cells HC4.out
                    go_wp2_with (go_at_call 18; refine (PT _ hBx4).mono ?_; rintro ed w6 ⟨rfl, hb6⟩)
                    go_ret
                    exact ⟨ret_bool (by rw [HF.out]; simp), hBx4.trans (hb6.mono hBx4.size)⟩
                · as_aux_lemma =>
                    subst e
                    have hfin : TX = T4 := by
                      rw [HTX.out, text_tx _ (show (0 : Int) ≤ 2 by decide) (show (2 : Int) ≤ 13 by decide), HT4.out]
                      simp [countsB, jumpsB]
                    have HF := Lib.hid hfin
                    clear hfin
                    obtain ⟨x0, x1, x2, x3, x4, x5, x6, x7⟩ := code_cells HC4.out
                    go_wp2_with (go_at_call 18; refine (PT _ hBx4).mono ?_; rintro ed w6 ⟨rfl, hb6⟩)
                    go_ret
                    exact ⟨ret_bool (by rw [HF.out]; simp), hBx4.trans (hb6.mono hBx4.size)⟩
                · as_aux_lemma =>
                    subst e
                    have hfin : TX = T4 := by
                      rw [HTX.out, text_tx _ (show (0 : Int) ≤ 3 by decide) (show (3 : Int) ≤ 13 by decide), HT4.out]
                      simp [countsB, jumpsB]
                    have HF := Lib.hid hfin
                    clear hfin
                    obtain ⟨x0, x1, x2, x3, x4, x5, x6, x7⟩ := code_cells HC4.out
                    go_wp2_with (go_at_call 18; refine (PT _ hBx4).mono ?_; rintro ed w6 ⟨rfl, hb6⟩)
                    go_ret
                    exact ⟨ret_bool (by rw [HF.out]; simp), hBx4.trans (hb6.mono hBx4.size)⟩
                · as_aux_lemma =>
                    subst e
                    have hfin : TX = T4 ++ ⟨#[32]⟩ ++ TD := by
                      rw [HTX.out, text_tx _ (show (0 : Int) ≤ 4 by decide) (show (4 : Int) ≤ 13 by decide), HT4.out, HTD.out]
                      simp only [countsB, jumpsB]
                      show bstr _ = bstr _ ++ bstr [32] ++ bstr _
                      rw [bstr_app, bstr_app]
                      congr 1
                      (try simp)
                    have HF := Lib.hid hfin
                    clear hfin
                    obtain ⟨x0, x1, x2, x3, x4, x5, x6, x7⟩ := code_cells HC4.out
                    go_wp2_with (first | (go_at_call 21; refine (PD _).mono ?_; rintro ed w5 ⟨rfl, rfl⟩) | (go_at_call 18; refine (PT _ hBx4).mono ?_; rintro ed w6 ⟨rfl, hb6⟩))
                    go_ret
                    exact ⟨ret_bool (by rw [HF.out]; simp), hBx4.trans (hb6.mono hBx4.size)⟩
                · as_aux_lemma =>
                    subst e
                    have hfin : TX = T4 ++ ⟨#[32]⟩ ++ TD := by
                      rw [HTX.out, text_tx _ (show (0 : Int) ≤ 5 by decide) (show (5 : Int) ≤ 13 by decide), HT4.out, HTD.out]
                      simp only [countsB, jumpsB]
                      show bstr _ = bstr _ ++ bstr [32] ++ bstr _
                      rw [bstr_app, bstr_app]
                      congr 1
                      (try simp)
                    have HF := Lib.hid hfin
                    clear hfin
                    obtain ⟨x0, x1, x2, x3, x4, x5, x6, x7⟩ := code_cells HC4.out
                    go_wp2_with (first | (go_at_call 21; refine (PD _).mono ?_; rintro ed w5 ⟨rfl, rfl⟩) | (go_at_call 18; refine (PT _ hBx4).mono ?_; rintro ed w6 ⟨rfl, hb6⟩))
                    go_ret
                    exact ⟨ret_bool (by rw [HF.out]; simp), hBx4.trans (hb6.mono hBx4.size)⟩
                · as_aux_lemma =>
                    subst e
                    have hfin : TX = T4 ++ ⟨#[32, 64]⟩ ++ TT := by
                      rw [HTX.out, text_tx _ (show (0 : Int) ≤ 6 by decide) (show (6 : Int) ≤ 13 by decide), HT4.out, HTT.out]
                      simp only [countsB, jumpsB]
                      show bstr _ = bstr _ ++ bstr [32, 64] ++ bstr _
                      rw [bstr_app, bstr_app]
                      congr 1
                      (try simp)
                    have HF := Lib.hid hfin
                    clear hfin
                    obtain ⟨x0, x1, x2, x3, x4, x5, x6, x7⟩ := code_cells HC4.out
                    go_wp2_with (first | (go_at_call 19; refine (PNt _).mono ?_; rintro ed w5 ⟨rfl, rfl⟩) | (go_at_call 18; refine (PT _ hBx4).mono ?_; rintro ed w6 ⟨rfl, hb6⟩))
                    go_ret
                    exact ⟨ret_bool (by rw [HF.out]; simp), hBx4.trans (hb6.mono hBx4.size)⟩
                · as_aux_lemma =>
                    subst e
                    have hfin : TX = T4 ++ ⟨#[32, 64]⟩ ++ TT := by
                      rw [HTX.out, text_tx _ (show (0 : Int) ≤ 7 by decide) (show (7 : Int) ≤ 13 by decide), HT4.out, HTT.out]
                      simp only [countsB, jumpsB]
                      show bstr _ = bstr _ ++ bstr [32, 64] ++ bstr _
                      rw [bstr_app, bstr_app]
                      congr 1
                      (try simp)
                    have HF := Lib.hid hfin
                    clear hfin
                    obtain ⟨x0, x1, x2, x3, x4, x5, x6, x7⟩ := code_cells HC4.out
                    go_wp2_with (first | (go_at_call 19; refine (PNt _).mono ?_; rintro ed w5 ⟨rfl, rfl⟩) | (go_at_call 18; refine (PT _ hBx4).mono ?_; rintro ed w6 ⟨rfl, hb6⟩))
                    go_ret
                    exact ⟨ret_bool (by rw [HF.out]; simp), hBx4.trans (hb6.mono hBx4.size)⟩
                · as_aux_lemma =>
                    subst e
                    have hfin : TX = T4 ++ ⟨#[32]⟩ ++ TD := by
                      rw [HTX.out, text_tx _ (show (0 : Int) ≤ 8 by decide) (show (8 : Int) ≤ 13 by decide), HT4.out, HTD.out]
                      simp only [countsB, jumpsB]
                      show bstr _ = bstr _ ++ bstr [32] ++ bstr _
                      rw [bstr_app, bstr_app]
                      congr 1
                      (try simp)
                    have HF := Lib.hid hfin
                    clear hfin
                    obtain ⟨x0, x1, x2, x3, x4, x5, x6, x7⟩ := code_cells HC4.out
                    go_wp2_with (first | (go_at_call 21; refine (PD _).mono ?_; rintro ed w5 ⟨rfl, rfl⟩) | (go_at_call 18; refine (PT _ hBx4).mono ?_; rintro ed w6 ⟨rfl, hb6⟩))
                    go_ret
                    exact ⟨ret_bool (by rw [HF.out]; simp), hBx4.trans (hb6.mono hBx4.size)⟩
                · as_aux_lemma =>
                    subst e
                    have hfin : TX = T4 ++ ⟨#[32]⟩ ++ TD := by
                      rw [HTX.out, text_tx _ (show (0 : Int) ≤ 9 by decide) (show (9 : Int) ≤ 13 by decide), HT4.out, HTD.out]
                      simp only [countsB, jumpsB]
                      show bstr _ = bstr _ ++ bstr [32] ++ bstr _
                      rw [bstr_app, bstr_app]
                      congr 1
                      (try simp)
                    have HF := Lib.hid hfin
                    clear hfin
                    obtain ⟨x0, x1, x2, x3, x4, x5, x6, x7⟩ := code_cells HC4.out
                    go_wp2_with (first | (go_at_call 21; refine (PD _).mono ?_; rintro ed w5 ⟨rfl, rfl⟩) | (go_at_call 18; refine (PT _ hBx4).mono ?_; rintro ed w6 ⟨rfl, hb6⟩))
                    go_ret
                    exact ⟨ret_bool (by rw [HF.out]; simp), hBx4.trans (hb6.mono hBx4.size)⟩
                · as_aux_lemma =>
                    subst e
                    have hfin : TX = T4 ++ ⟨#[32]⟩ ++ TD := by
                      rw [HTX.out, text_tx _ (show (0 : Int) ≤ 10 by decide) (show (10 : Int) ≤ 13 by decide), HT4.out, HTD.out]
                      simp only [countsB, jumpsB]
                      show bstr _ = bstr _ ++ bstr [32] ++ bstr _
                      rw [bstr_app, bstr_app]
                      congr 1
                      (try simp)
                    have HF := Lib.hid hfin
                    clear hfin
                    obtain ⟨x0, x1, x2, x3, x4, x5, x6, x7⟩ := code_cells HC4.out
                    go_wp2_with (first | (go_at_call 21; refine (PD _).mono ?_; rintro ed w5 ⟨rfl, rfl⟩) | (go_at_call 18; refine (PT _ hBx4).mono ?_; rintro ed w6 ⟨rfl, hb6⟩))
                    go_ret
                    exact ⟨ret_bool (by rw [HF.out]; simp), hBx4.trans (hb6.mono hBx4.size)⟩
                · as_aux_lemma =>
                    subst e
                    have hfin : TX = T4 := by
                      rw [HTX.out, text_tx _ (show (0 : Int) ≤ 11 by decide) (show (11 : Int) ≤ 13 by decide), HT4.out]
                      simp [countsB, jumpsB]
                    have HF := Lib.hid hfin
                    clear hfin
                    obtain ⟨x0, x1, x2, x3, x4, x5, x6, x7⟩ := code_cells HC4.out
                    go_wp2_with (go_at_call 18; refine (PT _ hBx4).mono ?_; rintro ed w6 ⟨rfl, hb6⟩)
                    go_ret
                    exact ⟨ret_bool (by rw [HF.out]; simp), hBx4.trans (hb6.mono hBx4.size)⟩
                · as_aux_lemma =>
                    subst e
                    have hfin : TX = T4 := by
                      rw [HTX.out, text_tx _ (show (0 : Int) ≤ 12 by decide) (show (12 : Int) ≤ 13 by decide), HT4.out]
                      simp [countsB, jumpsB]
                    have HF := Lib.hid hfin
                    clear hfin
                    obtain ⟨x0, x1, x2, x3, x4, x5, x6, x7⟩ := code_cells HC4.out
                    go_wp2_with (go_at_call 18; refine (PT _ hBx4).mono ?_; rintro ed w6 ⟨rfl, hb6⟩)
                    go_ret
                    exact ⟨ret_bool (by rw [HF.out]; simp), hBx4.trans (hb6.mono hBx4.size)⟩
                · as_aux_lemma =>
                    subst e
                    have hfin : TX = T4 := by
                      rw [HTX.out, text_tx _ (show (0 : Int) ≤ 13 by decide) (show (13 : Int) ≤ 13 by decide), HT4.out]
                      simp [countsB, jumpsB]
                    have HF := Lib.hid hfin
                    clear hfin
                    obtain ⟨x0, x1, x2, x3, x4, x5, x6, x7⟩ := code_cells HC4.out
                    go_wp2_with (go_at_call 18; refine (PT _ hBx4).mono ?_; rintro ed w6 ⟨rfl, hb6⟩)
                    go_ret
                    exact ⟨ret_bool (by rw [HF.out]; simp), hBx4.trans (hb6.mono hBx4.size)⟩
end Go.Proofs.YtjiecfagblijhaaDoor.Cd
