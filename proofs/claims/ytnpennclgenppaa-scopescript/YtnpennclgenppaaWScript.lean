/- The walk of ScopeScript: on every input it returns true. Conditions: none. -/
import Derived.Test.YtnpennclgenppaaWScript0
import Derived.Test.YtnpennclgenppaaWLeave
namespace Go.Proofs.Ytnpennclgenppaa
open Go.ChangeShapes Go.WideShapes Go.RowKit Go.Maps
set_option linter.unusedVariables false
set_option linter.unusedSimpArgs false

theorem i8_wf {z : Int} (h : (Lit.int .i8 z).wf = true) : -128 ≤ z ∧ z < 128 := by
  simp [Lit.wf] at h
  have h1 : IntKind.i8.min = -128 := rfl
  have h2 : IntKind.i8.max = 127 := rfl
  omega
theorem St.belowB' {B nb bs N : Nat} {wB : World} {ds : List Dc} {ls : List Ent} {ev : Value} {w : World} (h : St B nb bs N wB ds ls ev w) : Below B wB w := by
  obtain ⟨f, n, a1, a2, a3, a4, a5, a6, a7, a8, a9⟩ := h
  exact a7
theorem St.nb {B nb bs N : Nat} {wB : World} {ds : List Dc} {ls : List Ent} {ev : Value} {w : World} (h : St B nb bs N wB ds ls ev w) : w.heap[nb]? = some eightObj := by
  obtain ⟨f, n, a1, a2, a3, a4, a5, a6, a7, a8, a9⟩ := h
  exact a6
theorem St.slice {B nb bs N : Nat} {wB : World} {ds : List Dc} {ls : List Ent} {ev : Value} {w : World} (h : St B nb bs N wB ds ls ev w) : ∃ ao cap, ev = .slice ao ls.length cap ∧ ls.length ≤ cap := by
  obtain ⟨f, n, a1, a2, a3, a4, a5, a6, a7, a8, ao', n', c', e', hle⟩ := h
  obtain ⟨ao, cap, e⟩ := src_slice a4
  rw [e'] at e
  cases e
  exact ⟨_, _, e', hle⟩
theorem St.at {B nb bs N : Nat} {wB : World} {ds : List Dc} {ls : List Ent} {eao : Option Addr} {n cap : Nat} {w : World} (h : St B nb bs N wB ds ls (.slice eao n cap) w) (hl : 0 < ls.length) : ∃ g off, eao = some ⟨g, off, none⟩ := by
  obtain ⟨f, n, a1, a2, a3, a4, _⟩ := h
  rcases a4.2.2 with ⟨_, h0⟩ | ⟨g, off, c, e, _⟩
  · omega
  · cases e; exact ⟨g, off, rfl⟩
theorem StE.src {B nb bs N r : Nat} {wB : World} {ds : List Dc} {ls : List Ent} {ev : Value} {x : Ent} {w : World} (h : StE B nb bs N r wB ds ls ev x w) : SrcAt w 3 ev ls.length (eflat ls) ∧ ∀ g, ev.ownBlock = some g → g < w.heap.size := by
  obtain ⟨f, n, a1, a2, a3, a4, a5, _⟩ := h
  exact ⟨a4, a5⟩
structure Quad where
  a : Int
  b : Int
  c : Int
  d : Int
/-- A list of four numbers each, in old memory. -/
def QuadsAt (w : World) (k : IntKind) (v : Value) (qs : List Quad) : Prop :=
  ∃ ao cap, v = .slice ao qs.length cap ∧ ∀ j q, qs[j]? = some q → (0 ≤ q.a ∧ q.a < 256) ∧ (0 ≤ q.b ∧ q.b < 256) ∧ (0 ≤ q.c ∧ q.c < 256) ∧ (Lit.int k q.d).wf = true ∧ ∃ g off, ao = some ⟨g, off, none⟩ ∧ g < w.heap.size ∧
    w.cell? ⟨g, off + j * 4, none⟩ = some (.int .u8 q.a) ∧ w.cell? ⟨g, off + j * 4 + 1, none⟩ = some (.int .u8 q.b) ∧ w.cell? ⟨g, off + j * 4 + 2, none⟩ = some (.int .u8 q.c) ∧ w.cell? ⟨g, off + j * 4 + 3, none⟩ = some (.int k q.d)

set_option maxHeartbeats 1000000 in
set_option maxRecDepth 100000 in
theorem script_walk (v0 v1 : Value) (q0 q1 : List Quad) (w : World) (h0 : QuadsAt w .u8 v0 q0) (h1 : QuadsAt w .i8 v1 q1) (n0 : q0.length * 4 ≤ 140737488351232) (n1 : q1.length * 4 ≤ 140737488351232) :
    Calls Try.prog 3 #[v0, v1] w fun e w' => e = .returned (.bool true) ∧ Below w.heap.size w w' := by
  obtain ⟨ao0, cap0, rfl, hq0⟩ := h0
  obtain ⟨ao1, cap1, rfl, hq1⟩ := h1
  have HQ0 := Lib.hid hq0
  have HQ1 := Lib.hid hq1
  clear hq0 hq1
  have H0 := awake_any w
  go_enter Try.func3, Try.ntmps3
  go_wp2_with (go_at_call 6; refine H0.mono ?_; rintro e w1 ⟨rfl, hb0⟩)
  go_loopw [5, 37] (fun dv iv wr => ∃ k ds, k ≤ q0.length ∧ iv = .int .i64 (k : Nat) ∧ DGood wr dv ds ∧ Below w1.heap.size w1 wr) (fun _ iv _ => q0.length - (intOf iv).toNat)
  case atStart => exact ⟨0, [], Nat.zero_le _, rfl, DGood.nil _, Below.refl _ _⟩
  case round =>
    obtain ⟨k, ds, hk, rfl, hD, hB⟩ := hrel
    by_cases hlt : k < q0.length
    · obtain ⟨q, hq⟩ : ∃ q, q0[k]? = some q := ⟨q0[k], by simp [hlt]⟩
      obtain ⟨ra, rb, rc, rd, g, off, rfl, hg, c0, c1, c2, c3⟩ := HQ0.out k q hq
      have rd' := u8_wf rd
      have hgw1 : g < w1.heap.size := Nat.lt_of_lt_of_le hg hb0.size
      have key : ∀ j u, w.cell? ⟨g, j, none⟩ = some u → wr.cell? ⟨g, j, none⟩ = some u := fun j u hu => (World.cell?_of_block ((hB.block g hgw1).trans (hb0.block g hg))).trans hu
      replace c0 := key _ _ c0
      replace c1 := key _ _ c1
      replace c2 := key _ _ c2
      replace c3 := key _ _ c3
      clear key
      obtain ⟨qa, qb, qc, qd⟩ := q
      simp only at ra rb rc rd' c0 c1 c2 c3
      have hDs := hD.1
      obtain ⟨dao, dcap, rfl⟩ := src_slice hD.1
      have hfew := hD.few
      have hal : Below wr.heap.size wr (wr.alloc (fourU qa qb qc qd)) := (Below.refl _ _).alloc (Nat.le_refl _) _
      have hDa := hD.below hal
      have hreg : (wr.alloc (fourU qa qb qc qd)).heap[wr.heap.size]? = some (fourU qa qb qc qd) := by rw [alloc_at, if_pos rfl]
      have HDa := Lib.hid hDa
      have HD := Lib.hid hD
      have HReg := Lib.hid hreg
      clear hDs hD hDa hreg hq
      go_wp2_with fail
      refine cp_region _ ds.length (dflat ds) qa qb qc qd (k : Int) ra rb rc rd' HDa.out.1 HDa.out.2.1 (by omega) wr.heap.size HReg.out (by rfl) (by rfl) (by rfl) (by rfl) ?_
      intro g2 w2 hb2 hown2
      obtain ⟨s1, s2, s3, s4⟩ := dgood_next (w := wr) HDa.out qa qb qc qd (k : Int) ra.1 hown2
      generalize declP qa qb qc qd (k : Int) = d at s1 s2 s3 s4 hown2
      obtain ⟨nao, ncap, hv2⟩ := src_slice s1
      rw [show (ds ++ [d]).length = ds.length + 1 by simp] at hv2
      rw [hv2] at s3 s4
      have HS := Lib.hid s4
      have HOf := of_any _ _ w2 s3 (by simp; omega)
      rw [writeAll_cp]
      simp only [cpV, List.setIfInBounds_toArray, List.set_cons_zero, List.set_cons_succ]
      have hBw2 : Below w1.heap.size w1 w2 := (hB.trans (hal.mono hB.size)).trans (hb2.mono (by rw [alloc_size]; have := hB.size; omega))
      have hz2 := hb2.size
      rw [alloc_size] at hz2
      have hDw2 : DGood w2 (.slice dao ds.length dcap) ds := HDa.out.below hb2
      have HDw2 := Lib.hid hDw2
      clear s1 s2 s3 s4 hDw2 hown2
      rw [hv2]
      clear hv2
      go_wp2_with fail
      go_at_call 8
      refine HOf.mono ?_
      rintro e w3 ⟨hb3, ⟨hF, bs, rfl, hS3⟩ | ⟨d', b', hF, rfl, _, _⟩⟩
      · have hG := HS.out hF
        have HG := Lib.hid (hG.below hb3)
        clear hG
        go_wp2
        go_roundw
        case rel => exact ⟨k + 1, _, by omega, by go_num, HG.out, hBw2.trans (hb3.mono (by have := hB.size; omega))⟩
        case measure => simp [intOf]; omega
      · go_wp2
        go_roundw
        case rel => exact ⟨k + 1, ds, by omega, by go_num, HDw2.out.below hb3, hBw2.trans (hb3.mono (by have := hB.size; omega))⟩
        case measure => simp [intOf]; omega
    · have HOf := of_any _ _ wr hD.ds (by have := hD.few; omega)
      obtain ⟨dao, dcap, rfl⟩ := src_slice hD.1
      have HD := Lib.hid hD
      have hFb := hD.2.2.1
      clear hD
      go_wp2_with fail
      go_at_call 8
      refine HOf.mono ?_
      rintro e w5 ⟨hb5, ⟨hF, bs, rfl, hS5⟩ | ⟨d', b', hF, rfl, _, _⟩⟩
      · obtain ⟨B, hBd⟩ : ∃ B, B = wr.heap.size := ⟨_, rfl⟩
        obtain ⟨wA, hwA⟩ : ∃ wA, wA = wr := ⟨_, rfl⟩
        rw [← hwA] at HD hb5 hBd hB
        have hB0 : Below w.heap.size w wA := hb0.trans (hB.mono hb0.size)
        rw [← hwA, ← hBd] at hS5
        rw [← hBd] at hb5
        have hS0 := St.start (N := 8 + 0) hBd hF hS5 hb5 (by have := HD.out.few; omega)
        have HDx : ∀ W, Below B wA W → DGood W (.slice dao ds.length dcap) ds := fun W h => HD.out.below (hBd ▸ h)
        have HS0 := Lib.hid hS0
        have hdsl : ds.length ≤ 8 := HD.out.few
        have hBw : w.heap.size ≤ B := by have := hB0.size; omega
        have hX5 : B ≤ w5.heap.size := by have := hb5.size; omega
        clear hS0 hS5 HOf hF hFb hB hk hlt hb5 hwA
        go_wp2
        go_loopw [14, 68] (fun ev iv wq => ∃ k2 ls, k2 ≤ q1.length ∧ iv = .int .i64 (k2 : Nat) ∧ St B w5.heap.size bs (8 + k2) wA ds ls ev wq) (fun _ iv _ => q1.length - (intOf iv).toNat)
        case atStart => exact ⟨0, [], Nat.zero_le _, rfl, HS0.out⟩
        case round =>
          obtain ⟨k2, ls, hk2, rfl, hSt0⟩ := hrel
          by_cases hlt2 : k2 < q1.length
          · obtain ⟨q, hq⟩ : ∃ q, q1[k2]? = some q := ⟨q1[k2], by simp [hlt2]⟩
            obtain ⟨ra, rb, rc, rd, g, off, rfl, hg, c0, c1, c2, c3⟩ := HQ1.out k2 q hq
            have rd' := i8_wf rd
            have hBr := hSt0.belowB'
            have key : ∀ j u, w.cell? ⟨g, j, none⟩ = some u → wr.cell? ⟨g, j, none⟩ = some u := fun j u hu => (World.cell?_of_block ((hBr.block g (by omega)).trans (hB0.block g hg))).trans hu
            replace c0 := key _ _ c0
            replace c1 := key _ _ c1
            replace c2 := key _ _ c2
            replace c3 := key _ _ c3
            clear key
            obtain ⟨qo, qn, ql, qc⟩ := q
            simp only at ra rb rc rd' c0 c1 c2 c3
            obtain ⟨eao, ecap, rfl, hecap⟩ := hSt0.slice
            have hfewL := hSt0.few
            have hal : Below wr.heap.size wr (wr.alloc (actObj qo qn ql qc)) := (Below.refl _ _).alloc (Nat.le_refl _) _
            have hSa := hSt0.below hal
            obtain ⟨c, hc8, hcI⟩ : ∃ c : Nat, c < 8 ∧ qn % 8 = (c : Int) := ⟨(qn % 8).toNat, by omega, by omega⟩
            have hcI8 : (c : Int) < 8 := by omega
            have hcell := eight_cell hSa.nb hc8
            have hra : (wr.alloc (actObj qo qn ql qc)).heap[wr.heap.size]? = some (actObj qo qn ql qc) := by rw [alloc_at, if_pos rfl]
            have HRa := Lib.hid hra
            have HSa := Lib.hid hSa
            have HS0 := Lib.hid hSt0
            have rc0 := rc.1
            have rc1 := rc.2
            have rd0 := rd'.1
            have rd1 := rd'.2
            clear hra hSa hSt0 hBr hq
            by_cases hop : qo % 3 = 0
            · by_cases hin : 0 ≤ qc ∧ qc < (ls.length : Int)
              · obtain ⟨m, rfl⟩ : ∃ m : Nat, qc = (m : Int) := ⟨qc.toNat, by omega⟩
                have hm : m < ls.length := by omega
                obtain ⟨ge, oe, rfl⟩ := HSa.out.at (by omega)
                have HL := (HSa.out.mono (M := 8 + (k2 + 1)) (by omega)).leave_in m hm
                have hlm : (ls.take m).length = m := by simp; omega
                have hmI : (m : Int) < (ls.length : Int) := by omega
                have hmc : m ≤ ecap := by omega
                go_wp2_with (go_at_call 9; refine HL.mono ?_; rintro e wt ⟨rfl, hSt⟩)
                clear HL
                have hSm := hSt.mark
                rw [hlm] at hSm
                have HSt := Lib.hid hSt
                clear hSt
                go_wp2_with (go_at_call 12; refine hSm.mono ?_; rintro e w7 ⟨rfl, h7⟩; obtain rfl := h7.symm; clear h7)
                clear hSm
                go_loopw [144] (fun iv wq => ∃ i : Nat, i ≤ 8 ∧ iv = .int .i64 i ∧ St B w5.heap.size bs (8 + (k2 + 1)) wA ds (ls.take m) (.slice (some ⟨ge, oe, none⟩) m ecap) wq) (fun iv _ => 8 - (intOf iv).toNat)
                case atStart => exact ⟨0, Nat.zero_le _, rfl, HSt.out⟩
                case round =>
                  obtain ⟨i, hi, rfl, hSi⟩ := hrel
                  have hnbi := hSi.nb
                  by_cases hlt8 : i < 8
                  · have hci := eight_cell hnbi hlt8
                    have HF := hSi.find (nmN i) (nmN_size i)
                    have HLf2 := fun (w' : World) (hb' : Below wr.heap.size wr w') => lfind_any ds (.slice dao ds.length dcap) (ls.take m) (.slice (some ⟨ge, oe, none⟩) m ecap) (nmN i) w' (HDx _ (hSi.below hb').belowB').ds (hSi.below hb').es
                    generalize findP ds (ls.take m) (nmN i) = mm at HF HLf2
                    have HSi := Lib.hid hSi
                    clear hSi hnbi
                    go_wp2_with (go_at_call 13; refine HF.mono ?_; rintro e w8 ⟨rfl, hb8⟩)
                    go_wp2_with (go_at_call 10; refine (HLf2 _ hb8).mono ?_; rintro e w9 ⟨rfl, hb9⟩)
                    go_roundw
                    case rel => exact ⟨i + 1, by omega, by go_num, (HSi.out.below hb8).below hb9⟩
                    case measure => simp [intOf]; omega
                  · have HSi := Lib.hid hSi
                    clear hSi hnbi
                    go_wp2
                    go_roundw
                    case rel => exact ⟨k2 + 1, _, by omega, by go_num, HSi.out⟩
                    case measure => simp [intOf]; omega
              · by_cases hneg : qc < 0
                · have hout : qc < 0 ∨ (ls.length : Int) ≤ qc := .inl hneg
                  have hd0 : decide (0 ≤ qc) = false := by simpa using hneg
                  have HL := HSa.out.leave_out qc hout
                  go_wp2_with (go_at_call 9; refine HL.mono ?_; rintro e wt ⟨rfl, h7⟩; obtain rfl := h7.symm; clear h7)
                  clear HL
                  have hSt := HSa.out.mono (M := 8 + (k2 + 1)) (by omega)
                  have hSm := hSt.mark
                  have HSt := Lib.hid hSt
                  clear hSt
                  go_wp2_with (go_at_call 12; refine hSm.mono ?_; rintro e w7 ⟨rfl, h7⟩; obtain rfl := h7.symm; clear h7)
                  clear hSm
                  go_loopw [144] (fun iv wq => ∃ i : Nat, i ≤ 8 ∧ iv = .int .i64 i ∧ St B w5.heap.size bs (8 + (k2 + 1)) wA ds ls (.slice eao ls.length ecap) wq) (fun iv _ => 8 - (intOf iv).toNat)
                  case atStart => exact ⟨0, Nat.zero_le _, rfl, HSt.out⟩
                  case round =>
                    obtain ⟨i, hi, rfl, hSi⟩ := hrel
                    have hnbi := hSi.nb
                    by_cases hlt8 : i < 8
                    · have hci := eight_cell hnbi hlt8
                      have HF := hSi.find (nmN i) (nmN_size i)
                      have HLf2 := fun (w' : World) (hb' : Below wr.heap.size wr w') => lfind_any ds (.slice dao ds.length dcap) ls (.slice eao ls.length ecap) (nmN i) w' (HDx _ (hSi.below hb').belowB').ds (hSi.below hb').es
                      generalize findP ds ls (nmN i) = mm at HF HLf2
                      have HSi := Lib.hid hSi
                      clear hSi hnbi
                      go_wp2_with (go_at_call 13; refine HF.mono ?_; rintro e w8 ⟨rfl, hb8⟩)
                      go_wp2_with (go_at_call 10; refine (HLf2 _ hb8).mono ?_; rintro e w9 ⟨rfl, hb9⟩)
                      go_roundw
                      case rel => exact ⟨i + 1, by omega, by go_num, (HSi.out.below hb8).below hb9⟩
                      case measure => simp [intOf]; omega
                    · have HSi := Lib.hid hSi
                      clear hSi hnbi
                      go_wp2
                      go_roundw
                      case rel => exact ⟨k2 + 1, _, by omega, by go_num, HSi.out⟩
                      case measure => simp [intOf]; omega
                · have hout : qc < 0 ∨ (ls.length : Int) ≤ qc := .inr (by omega)
                  have hd0 : decide (0 ≤ qc) = true := by simpa using hneg
                  have hd1 : decide (qc < (ls.length : Int)) = false := by simp; omega
                  have HL := HSa.out.leave_out qc hout
                  go_wp2_with (go_at_call 9; refine HL.mono ?_; rintro e wt ⟨rfl, h7⟩; obtain rfl := h7.symm; clear h7)
                  clear HL
                  have hSt := HSa.out.mono (M := 8 + (k2 + 1)) (by omega)
                  have hSm := hSt.mark
                  have HSt := Lib.hid hSt
                  clear hSt
                  go_wp2_with (go_at_call 12; refine hSm.mono ?_; rintro e w7 ⟨rfl, h7⟩; obtain rfl := h7.symm; clear h7)
                  clear hSm
                  go_loopw [144] (fun iv wq => ∃ i : Nat, i ≤ 8 ∧ iv = .int .i64 i ∧ St B w5.heap.size bs (8 + (k2 + 1)) wA ds ls (.slice eao ls.length ecap) wq) (fun iv _ => 8 - (intOf iv).toNat)
                  case atStart => exact ⟨0, Nat.zero_le _, rfl, HSt.out⟩
                  case round =>
                    obtain ⟨i, hi, rfl, hSi⟩ := hrel
                    have hnbi := hSi.nb
                    by_cases hlt8 : i < 8
                    · have hci := eight_cell hnbi hlt8
                      have HF := hSi.find (nmN i) (nmN_size i)
                      have HLf2 := fun (w' : World) (hb' : Below wr.heap.size wr w') => lfind_any ds (.slice dao ds.length dcap) ls (.slice eao ls.length ecap) (nmN i) w' (HDx _ (hSi.below hb').belowB').ds (hSi.below hb').es
                      generalize findP ds ls (nmN i) = mm at HF HLf2
                      have HSi := Lib.hid hSi
                      clear hSi hnbi
                      go_wp2_with (go_at_call 13; refine HF.mono ?_; rintro e w8 ⟨rfl, hb8⟩)
                      go_wp2_with (go_at_call 10; refine (HLf2 _ hb8).mono ?_; rintro e w9 ⟨rfl, hb9⟩)
                      go_roundw
                      case rel => exact ⟨i + 1, by omega, by go_num, (HSi.out.below hb8).below hb9⟩
                      case measure => simp [intOf]; omega
                    · have HSi := Lib.hid hSi
                      clear hSi hnbi
                      go_wp2
                      go_roundw
                      case rel => exact ⟨k2 + 1, _, by omega, by go_num, HSi.out⟩
                      case measure => simp [intOf]; omega
            · have hdop : decide (qo % 3 = 0) = false := by simpa using hop
              have HLf := lfind_any ds (.slice dao ds.length dcap) ls (.slice eao ls.length ecap) (nmN c) (wr.alloc (actObj qo qn ql qc)) (HDx _ HSa.out.belowB').ds HSa.out.es
              rcases hmm : findP ds ls (nmN c) with ⟨mk, ml, mc, mb⟩
              rw [hmm] at HLf
              by_cases hmk : mk = 0
              · subst hmk
                have hkz : (findP ds ls (nmN c)).kind = 0 := by rw [hmm]
                have HE := fun (wf : World) (hbf : Below (wr.alloc (actObj qo qn ql qc)).heap.size (wr.alloc (actObj qo qn ql qc)) wf) => HS0.out.enter_in wf (hal.trans (hbf.mono (by rw [alloc_size]; omega))) wr.heap.size (Nat.le_refl _) (by have := hbf.size; rw [alloc_size] at this; omega) c hc8 (ql % 2) qc hkz (by unfold maxLen; omega)
                have HRf := fun (wf : World) (hbf : Below (wr.alloc (actObj qo qn ql qc)).heap.size (wr.alloc (actObj qo qn ql qc)) wf) => (hbf.block wr.heap.size (by rw [alloc_size]; omega)).trans HRa.out
                have HRf2 := fun wf hbf => cells4 (HRf wf hbf)
                have HRh := Lib.hid HRf
                clear hkz HRf
                go_wp2_with (go_at_call 10; refine HLf.mono ?_; rintro e wf ⟨rfl, hbf⟩; obtain ⟨z0, z1, z2, z3⟩ := HRf2 wf hbf)
                go_wp2_with (go_at_call 11; refine (HE wf hbf).mono ?_; rintro e wE ⟨rfl, hE, hrE, hzE⟩)
                have hrw := hrE.trans (HRh.out wf hbf)
                obtain ⟨hsrcE, hltE⟩ := hE.src
                refine en_region _ ls.length (eflat ls) (nmN c) qo qn ql qc rc0 rc1 rd0 rd1 hsrcE hltE (by omega) wr.heap.size hrw (by rfl) (by rfl) (by rfl) (by rfl) ?_
                intro g2 wt hbt hownt
                have hSt := hE.finish hbt hownt
                clear hE hownt hsrcE hltE HE HRf2
                rw [writeAll_en]
                simp only [enV, List.setIfInBounds_toArray, List.set_cons_zero, List.set_cons_succ]
                generalize (⟨nmN c, ql % 2, max 0 qc⟩ : Ent) = xx at hSt
                obtain ⟨eao2, ecap2, hv2, _⟩ := hSt.slice
                rw [show (ls ++ [xx]).length = ls.length + 1 by simp] at hv2
                rw [hv2] at hSt ⊢
                clear hv2
                have hSm := hSt.mark
                rw [show (ls ++ [xx]).length = ls.length + 1 by simp] at hSm
                have HSt := Lib.hid hSt
                clear hSt
                go_wp2_with (go_at_call 12; refine hSm.mono ?_; rintro e w7 ⟨rfl, h7⟩; obtain rfl := h7.symm; clear h7)
                clear hSm
                go_loopw [144] (fun iv wq => ∃ i : Nat, i ≤ 8 ∧ iv = .int .i64 i ∧ St B w5.heap.size bs (8 + (k2 + 1)) wA ds (ls ++ [xx]) (.slice eao2 (ls.length + 1) ecap2) wq) (fun iv _ => 8 - (intOf iv).toNat)
                case atStart => exact ⟨0, Nat.zero_le _, rfl, HSt.out⟩
                case round =>
                  obtain ⟨i, hi, rfl, hSi⟩ := hrel
                  have hnbi := hSi.nb
                  by_cases hlt8 : i < 8
                  · have hci := eight_cell hnbi hlt8
                    have HF := hSi.find (nmN i) (nmN_size i)
                    have HLf2 := fun (w' : World) (hb' : Below wr.heap.size wr w') => lfind_any ds (.slice dao ds.length dcap) (ls ++ [xx]) (.slice eao2 (ls.length + 1) ecap2) (nmN i) w' (HDx _ (hSi.below hb').belowB').ds (hSi.below hb').es
                    generalize findP ds (ls ++ [xx]) (nmN i) = mm at HF HLf2
                    have HSi := Lib.hid hSi
                    clear hSi hnbi
                    go_wp2_with (go_at_call 13; refine HF.mono ?_; rintro e w8 ⟨rfl, hb8⟩)
                    go_wp2_with (go_at_call 10; refine (HLf2 _ hb8).mono ?_; rintro e w9 ⟨rfl, hb9⟩)
                    go_roundw
                    case rel => exact ⟨i + 1, by omega, by go_num, (HSi.out.below hb8).below hb9⟩
                    case measure => simp [intOf]; omega
                  · have HSi := Lib.hid hSi
                    clear hSi hnbi
                    go_wp2
                    go_roundw
                    case rel => exact ⟨k2 + 1, _, by omega, by go_num, HSi.out⟩
                    case measure => simp [intOf]; omega
              · have hkn : decide (mk = 0) = false := by simpa using hmk
                have hkz : (findP ds ls (nmN c)).kind ≠ 0 := by rw [hmm]; exact hmk
                have HE := fun (wf : World) (hbf : Below (wr.alloc (actObj qo qn ql qc)).heap.size (wr.alloc (actObj qo qn ql qc)) wf) => (HSa.out.below hbf).enter_out (nmN c) (nmN_size c) (ql % 2) qc hkz
                have HRf2 := fun (wf : World) (hbf : Below (wr.alloc (actObj qo qn ql qc)).heap.size (wr.alloc (actObj qo qn ql qc)) wf) => cells4 ((hbf.block wr.heap.size (by rw [alloc_size]; omega)).trans HRa.out)
                clear hkz
                go_wp2_with (go_at_call 10; refine HLf.mono ?_; rintro e wt ⟨rfl, hbf⟩; obtain ⟨z0, z1, z2, z3⟩ := HRf2 wt hbf)
                go_wp2_with (go_at_call 11; refine (HE wt hbf).mono ?_; rintro e w8 ⟨rfl, h7⟩; obtain rfl := h7.symm; clear h7)
                clear HE HRf2
                have hSt := (HSa.out.below hbf).mono (M := 8 + (k2 + 1)) (by omega)
                have hSm := hSt.mark
                have HSt := Lib.hid hSt
                clear hSt
                go_wp2_with (go_at_call 12; refine hSm.mono ?_; rintro e w7 ⟨rfl, h7⟩; obtain rfl := h7.symm; clear h7)
                clear hSm
                go_loopw [144] (fun iv wq => ∃ i : Nat, i ≤ 8 ∧ iv = .int .i64 i ∧ St B w5.heap.size bs (8 + (k2 + 1)) wA ds ls (.slice eao ls.length ecap) wq) (fun iv _ => 8 - (intOf iv).toNat)
                case atStart => exact ⟨0, Nat.zero_le _, rfl, HSt.out⟩
                case round =>
                  obtain ⟨i, hi, rfl, hSi⟩ := hrel
                  have hnbi := hSi.nb
                  by_cases hlt8 : i < 8
                  · have hci := eight_cell hnbi hlt8
                    have HF := hSi.find (nmN i) (nmN_size i)
                    have HLf2 := fun (w' : World) (hb' : Below wr.heap.size wr w') => lfind_any ds (.slice dao ds.length dcap) ls (.slice eao ls.length ecap) (nmN i) w' (HDx _ (hSi.below hb').belowB').ds (hSi.below hb').es
                    generalize findP ds ls (nmN i) = mm at HF HLf2
                    have HSi := Lib.hid hSi
                    clear hSi hnbi
                    go_wp2_with (go_at_call 13; refine HF.mono ?_; rintro e w8 ⟨rfl, hb8⟩)
                    go_wp2_with (go_at_call 10; refine (HLf2 _ hb8).mono ?_; rintro e w9 ⟨rfl, hb9⟩)
                    go_roundw
                    case rel => exact ⟨i + 1, by omega, by go_num, (HSi.out.below hb8).below hb9⟩
                    case measure => simp [intOf]; omega
                  · have HSi := Lib.hid hSi
                    clear hSi hnbi
                    go_wp2
                    go_roundw
                    case rel => exact ⟨k2 + 1, _, by omega, by go_num, HSi.out⟩
                    case measure => simp [intOf]; omega
          · have HS0 := Lib.hid hSt0
            clear hSt0
            go_wp2
            go_ret
            exact ⟨rfl, hB0.trans (HS0.out.belowB'.mono hBw)⟩
      · rw [hFb] at hF; cases hF
end Go.Proofs.Ytnpennclgenppaa
