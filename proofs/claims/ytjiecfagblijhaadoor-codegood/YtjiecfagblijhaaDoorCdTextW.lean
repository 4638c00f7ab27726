/- What Text of package code answers. Conditions: the table of powers holds what its initialiser lays; the fields are within their types. -/
import Derived.Test.YtjiecfagblijhaaDoorCdTextA
import Derived.Test.YtjiecfagblijhaaDoorCdGood
import Derived.Test.YtjiecfagblijhaaDoorRegOld
import Derived.Test.YtjiecfagblijhaaDoorCdSame
namespace Go.Proofs.YtjiecfagblijhaaDoor.Cd
open Go.ChangeShapes Go.WideShapes Go.ChangeAt Go.RowKit
set_option linter.unusedVariables false
set_option linter.unusedSimpArgs false

theorem Own.cell_tame {w w' : World} {B B' : Nat} {ao : Option Addr} {n cap : Nat} {zs : List Int} (h : Own w B (.slice ao n cap) zs) (hT : Tame B' w w') {k : Nat} {z : Int} (hz : zs[k]? = some z) :
    ∃ g, ao = some ⟨g, 0, none⟩ ∧ w'.cell? ⟨g, k, none⟩ = some (.int .i64 z) := by
  rcases h.2 with ⟨hv, h0⟩ | ⟨g, cap2, cur, hv, hb, hg, hn, hc, hs, ht⟩
  · obtain rfl : zs = [] := List.length_eq_zero_iff.1 h0
    simp at hz
  · simp only [Value.slice.injEq] at hv
    obtain ⟨rfl, _, rfl⟩ := hv
    refine ⟨g, rfl, ?_⟩
    rw [Lib.cell_of_heap (hT.2 _ _ _ _ (by decide) hg)]
    have hk : k < zs.length := (List.getElem?_eq_some_iff.1 hz).1
    have e : (cur.toList.take (zs.length * 1))[k]? = some (.int .i64 z) := by rw [ht]; simp [hz]
    rw [List.getElem?_take_of_lt (by omega)] at e
    simpa using e
theorem bstr_ne {l : List UInt8} (h : l ≠ []) : (bstr l).toList.isEmpty = false := by
  rw [Lib.toList_data]
  cases l with
  | nil => exact absurd rfl h
  | cons a r => rfl
def strMap (ss : List (List UInt8)) : List ByteArray := ss.map bstr
theorem join_any (B : Nat) (v : Value) (ss : List (List UInt8)) (w : World) (h : Strs w B v ss) (hn : 0 < ss.length) (hl : ss.length ≤ 100) (hlen : ∀ l ∈ ss, l.length ≤ 22) :
    Calls Tryd.prog 31 #[v, .string ⟨#[32]⟩] w fun e w' => e = .returned (.string (bstr (Lib.join ss [32]))) ∧ Below w.heap.size w w' := by
  obtain ⟨g, cap, rfl, hcap, hg, hc⟩ := h.form hn
  have e1 : (ss.map bstr).length = ss.length := List.length_map _
  have e2 : (ss.map bstr).map (fun s : ByteArray => s.data.toList) = ss := by rw [List.map_map]; exact (List.map_congr_left fun l _ => rfl).trans (List.map_id ss)
  have hj := join_len hlen
  have H := Tryd.strings_Join g 0 cap (ss.map bstr) ⟨#[32]⟩ w (fun j x hx => by
      rw [List.getElem?_map] at hx
      obtain ⟨l, hl2, rfl⟩ := Option.map_eq_some_iff.1 hx
      rw [Nat.zero_add]; exact hc j l hl2) hg (by rw [e1]; omega) (by rw [e1]; exact hcap) (by rw [e2]; show (Lib.join ss [32]).length ≤ _; omega)
  rw [e1, e2] at H
  exact H

/-- One string in a block of its own. -/
def OneS (w : World) (g : Nat) (l : List UInt8) : Prop := w.heap[g]? = some (.cells #[.string (bstr l)] 9 (0, 0))
theorem OneS.on {w w' : World} {g : Nat} {l : List UInt8} (h : OneS w g l) (hb : Below w.heap.size w w') : OneS w' g l := (hb.block g (heap_lt h)).trans h
theorem append_one {o : Oper} {a : Act} {K : Act → World → Prop} {Q : Exit → Act → World → Prop} {W : World} {B g : Nat} {l : List UInt8} {v : Value} {ss : List (List UInt8)} (s x : Operand)
    (ho : o.op = .call { callee := .builtin .append, args := #[s, x], argTypes := #[42, 42] }) (hs : a.eval s = v) (hx : a.eval x = .slice (some ⟨g, 0, none⟩) 1 1)
    (h : Strs W B v ss) (h1 : OneS W g l) (hB : B ≤ W.heap.size) (hn : ss.length ≤ 100)
    (hk : ∀ v' w', Strs w' B v' (ss ++ [l]) → Tame B W w' → K (a.put o.dst v') w') : o.wp Tryd.prog a W K Q := by
  obtain ⟨i0, hi, h0⟩ := Option.map_eq_some_iff.1 infoS
  simp only [Prod.mk.injEq] at h0
  obtain ⟨hz0, hz1, hz2⟩ := h0
  refine wp_append_lies W s x 42 ho B 9 i0 _ 1 16 Tryd.underlying42 hi hz0 hz1 hz2 rfl (by decide) v ss.length (strsV ss) hs h ⟨g, 0, none⟩ 1 1 [.string (bstr l)] hx (by simp) (World.news_of_block h1) (by simp [Value.oneCell']) (by decide) (by unfold maxLen; omega) (by omega) hB _ rfl ?_
  intro g' cap w' h3 h4 _ _
  refine hk _ w' ?_ ((Tame.refl _ _).grown h h4 hB)
  unfold Strs
  rw [List.length_append, strsV, List.map_append]
  exact h3

/-- Until the sign is laid behind the parts memory only grows. -/
def signInv (w1 : World) (l : List UInt8) (Post : Value → World → Prop) (L : Nat → Bool) (g : Nat × Nat × Value) (w : World) : Prop :=
  (L 7 = false → Below w1.heap.size w1 w ∧ (L 1 = true → SignsAt w g.1) ∧ (L 6 = true → OneS w g.2.1 l)) ∧ (L 7 = true → Post g.2.2 w)
def signV (v6 : Value) (bs n : Nat) (l : List UInt8) (g : Nat × Nat × Value) : Nat → Value
  | 0 => v6
  | 1 => .slice (some ⟨g.1, 0, none⟩) 10 10
  | 2 => .pointer (some ⟨bs, 1, none⟩)
  | 3 => .int .i64 (n : Int)
  | 4 => .pointer (some ⟨g.1, n, none⟩)
  | 5 => .string (bstr l)
  | 6 => .slice (some ⟨g.2.1, 0, none⟩) 1 1
  | 7 => g.2.2
  | 8 => g.2.2
  | _ => undef

theorem parts_le (x : Cd) (hx : x.fits) : ∀ l ∈ partsP x, l.length ≤ 22 := by
  intro l hl
  have h2 := hx
  obtain ⟨_, _, hto, _, _, _, hv, ht⟩ := h2
  unfold partsP ones at hl
  simp only [List.mem_append, List.mem_singleton, List.mem_map] at hl
  rcases hl with ((((rfl | hl) | hl) | ⟨u, hu, rfl⟩) | hl) | hl
  · exact name_len _
  · split at hl
    · obtain rfl := List.mem_singleton.1 hl; exact vtext_len hto.1 hto.2
    · simp at hl
  · split at hl
    · rename_i h
      obtain rfl := List.mem_singleton.1 hl
      simp only [opB, Bool.and_eq_true, decide_eq_true_eq] at h
      exact sign_len _ (by omega)
    · simp at hl
  · have := uses_fits hx u hu
    exact vtext_len this.1 this.2
  · split at hl
    · obtain rfl := List.mem_singleton.1 hl
      have := decDigits_len x.v.toNat (by omega)
      omega
    · simp at hl
  · split at hl
    · obtain rfl := List.mem_singleton.1 hl
      have := Lib.itoa_length_le x.t ht.1 ht.2
      simp; omega
    · simp at hl

set_option maxHeartbeats 4000000 in
set_option maxRecDepth 100000 in
theorem text_tt (op dop to a b c v t : Int) (w : World) (hV : Vars w.heap.size w) (hx : Cd.fits ⟨op, dop, to, a, b, c, v, t⟩) (h0 : 0 ≤ op) (h13 : op ≤ 13) (e2 : ¬ op = 2) (hD : setsB op = true) (hC : countsB op = true) (hJ : jumpsB op = false) :
    Calls Tryd.prog 18 #[.agg #[.int .i64 op, .int .i64 dop, .int .i64 to, .int .i64 a, .int .i64 b, .int .i64 c, .int .u64 v, .int .i64 t]] w fun e w' => e = .returned (.string (bstr (textP ⟨op, dop, to, a, b, c, v, t⟩))) ∧ Below w.heap.size w w' := by
  have hbx := (Below.refl w.heap.size w).alloc (Nat.le_refl _) (.cells #[.int .i64 op, .int .i64 dop, .int .i64 to, .int .i64 a, .int .i64 b, .int .i64 c, .int .u64 v, .int .i64 t] 26)
  have hB1 : w.heap.size ≤ (w.alloc (.cells #[.int .i64 op, .int .i64 dop, .int .i64 to, .int .i64 a, .int .i64 b, .int .i64 c, .int .u64 v, .int .i64 t] 26)).heap.size := by simp
  have HB := Lib.hid (show (w.alloc (.cells #[.int .i64 op, .int .i64 dop, .int .i64 to, .int .i64 a, .int .i64 b, .int .i64 c, .int .u64 v, .int .i64 t] 26)).heap[w.heap.size]? = some (.cells #[.int .i64 op, .int .i64 dop, .int .i64 to, .int .i64 a, .int .i64 b, .int .i64 c, .int .u64 v, .int .i64 t] 26 (0, 0)) by rw [alloc_at, if_pos rfl])
  have PV := fun (u : Int) h0 h1 w1 (hb1 : Below w.heap.size w w1) => value_any u h0 h1 w.heap.size w1 (hV.on hb1)
  have PN := fun w1 => name_any op w1
  have PD := fun w1 => defines_any ⟨op, dop, to, a, b, c, v, t⟩ w1
  have PU := fun w1 => uses_any ⟨op, dop, to, a, b, c, v, t⟩ w1
  have PC := fun w1 => counts_any op w1
  have PJ := fun w1 => jumps_any ⟨op, dop, to, a, b, c, v, t⟩ w1
  have hl3 := uses_le3 ⟨op, dop, to, a, b, c, v, t⟩
  have HPL := parts_le ⟨op, dop, to, a, b, c, v, t⟩ hx
  have htx : textP ⟨op, dop, to, a, b, c, v, t⟩ = Lib.join (partsP ⟨op, dop, to, a, b, c, v, t⟩) [32] := by unfold textP; rw [if_neg (by simp only; omega)]
  have HUf := uses_fits hx
  have hto := hx.2.2.1
  have PI := fun w1 (hb1 : Below w.heap.size w w1) => itoa_any t hx.2.2.2.2.2.2.2.1 hx.2.2.2.2.2.2.2.2 w.heap.size w1 (hV.on hb1)
  have hiz : (bstr (Lib.itoa t)).size ≤ 21 := by rw [bstr_size]; exact Lib.itoa_length_le t hx.2.2.2.2.2.2.2.1 hx.2.2.2.2.2.2.2.2
  have PF : ∀ w1, Below w.heap.size w w1 → Calls Tryd.prog 29 #[.int .u64 v, .int .i64 10] w1 fun e w' => e = .returned (.string (bstr (Lib.decDigits v.toNat))) ∧ Below w1.heap.size w1 w' := fun w1 hb1 => by
    have hv : 0 ≤ v ∧ v < 18446744073709551616 := hx.2.2.2.2.2.2.1
    have := formatUint_any v.toNat (by omega) w.heap.size w1 (hV.on hb1)
    rwa [Int.toNat_of_nonneg hv.1] at this
  have hne := bstr_ne (name_ne (op := op) (by omega) (by omega))
  have hS2 : (op == 2 && opB dop) = false := by simp [e2]
  obtain ⟨NM, hNM⟩ : ∃ NM, NM = nameL op := ⟨_, rfl⟩
  obtain ⟨U, hU⟩ : ∃ U, U = usesP ⟨op, dop, to, a, b, c, v, t⟩ := ⟨_, rfl⟩
  rw [← hNM] at PN hne
  rw [← hU] at PU HUf hl3
  have HU := Lib.hid HUf
  have HNM := Lib.hid hNM
  have HUU := Lib.hid hU
  clear HUf hNM hU
  simp only [hD, hJ, hC, if_true, if_false, Bool.false_eq_true] at PD PJ PC
  go_enter Tryd.func18, Tryd.ntmps18
  go_wp2_with (first
    | (go_at_call 25; refine (PN _).mono ?_; rintro ed w2 ⟨rfl, hb2⟩; have T2 := (Tame.refl w.heap.size _).on hB1 hb2; have hB2 := Nat.le_trans hB1 hb2.size; have S3 := Strs.new (W := w2) (B := w.heap.size) NM hB2; have T3 := T2.alloc hB2 (.cells #[.string (bstr NM)] 9); have hB3 := Nat.le_trans hB1 T3.size; obtain ⟨x0, x1, x2, x3, x4, x5, x6, x7⟩ := code_cells (T3.2 _ _ _ _ (by decide) HB.out))
    | (go_at_call 9; refine (PD _).mono ?_; rintro ed w4 ⟨rfl, hb4⟩; have S4 := S3.on hb4; have T4 := T3.on hB3 hb4; have hB4 := Nat.le_trans hB3 hb4.size; obtain ⟨x0, x1, x2, x3, x4, x5, x6, x7⟩ := code_cells (T4.2 _ _ _ _ (by decide) HB.out))
    | (go_at_call 26; refine (PV to hto.1 hto.2 _ (hbx.trans T4.1)).mono ?_; rintro ed w5 ⟨rfl, hb5⟩)
    | (refine append_str (w0 := w.alloc (.cells #[.int .i64 op, .int .i64 dop, .int .i64 to, .int .i64 a, .int .i64 b, .int .i64 c, .int .u64 v, .int .i64 t] 26)) (vtext to) rfl _ _ rfl rfl rfl (S4.on hb5) (Nat.le_trans hB4 hb5.size) (T4.on hB4 hb5) (by simp) ?_; intro v6 w6 S6 T6; have hB6 : w.heap.size ≤ w6.heap.size := Nat.le_trans hB1 T6.size; obtain ⟨x0, x1, x2, x3, x4, x5, x6, x7⟩ := code_cells (T6.2 _ _ _ _ (by decide) HB.out)))
  go_wp2_with (go_at_call 13; refine (PU _).mono ?_; rintro ed wu ⟨vu, rfl, ho, hbu⟩; obtain ⟨ao, cap, rfl, hm, _⟩ := ho.form)
  have SU := S6.on hbu
  have TU := T6.on hB6 hbu
  have hBU : w.heap.size ≤ wu.heap.size := Nat.le_trans hB6 hbu.size
  go_loopw [4, 48] (fun y i wr => ∃ k : Nat, k ≤ U.length ∧ i = .int .i64 k ∧ Strs wr w.heap.size y (([NM] ++ [vtext to]) ++ (U.take k).map vtext) ∧ Tame w.heap.size wu wr) (fun _ i _ => U.length - (intOf i).toNat)
  case atStart => exact ⟨0, Nat.zero_le _, rfl, by simpa using SU, Tame.refl _ _⟩
  case round =>
    obtain ⟨k, hk, rfl, Sr, Tr⟩ := hrel
    have TR := TU.trans Tr
    have hBr := Nat.le_trans hBU Tr.size
    by_cases hlt : k < U.length
    · obtain ⟨z, hz⟩ : ∃ z, U[k]? = some z := ⟨U[k], by simp [hlt]⟩
      obtain ⟨g, rfl, hcz⟩ := ho.cell_tame Tr hz
      have PVz := fun w1 hb1 => PV z (HU.out z (List.mem_of_getElem? hz)).1 (HU.out z (List.mem_of_getElem? hz)).2 w1 hb1
      have HZ := Lib.hid hz
      clear hz
      have hln : (([NM] ++ [vtext to]) ++ (U.take k).map vtext).length ≤ 100 := by simp only [List.length_append, List.length_map, List.length_take, List.length_cons, List.length_nil]; omega
      have HL := Lib.hid hln
      clear hln
      go_wp2_with (first
        | (go_at_call 26; refine (PVz _ (hbx.trans TR.1)).mono ?_; rintro ed w7 ⟨rfl, hb7⟩)
        | (refine append_str (w0 := wu) (vtext z) rfl _ _ rfl rfl rfl (Sr.on hb7) (Nat.le_trans hBr hb7.size) (Tr.on hBr hb7) HL.out ?_; intro v8 w8 S8 T8))
      go_roundw
      case rel => exact ⟨k + 1, by omega, by go_num, by rw [take_snoc' HZ.out, List.map_append, ← List.append_assoc]; exact S8, T8⟩
      case measure => simp [intOf]; omega
    · have he : U.take k = U := List.take_of_length_le (by omega)
      rw [he] at Sr
      obtain ⟨x0, x1, x2, x3, x4, x5, x6, x7⟩ := code_cells (TR.2 _ _ _ _ (by decide) HB.out)
      have HLn : Hid ((([NM] ++ [vtext to]) ++ U.map vtext).length ≤ 100) := Lib.hid (by simp only [List.length_append, List.length_map, List.length_cons, List.length_nil]; omega)
      have hP : partsP ⟨op, dop, to, a, b, c, v, t⟩ = ([NM] ++ [vtext to]) ++ U.map vtext ++ [Lib.decDigits v.toNat] := by rw [HUU.out]; simp [partsP, ones, hD, hC, hJ, HNM.out, hS2]
      have HN0 : Hid (0 < (([NM] ++ [vtext to]) ++ U.map vtext ++ [Lib.decDigits v.toNat]).length) := Lib.hid (by simp)
      have HN1 : Hid ((([NM] ++ [vtext to]) ++ U.map vtext ++ [Lib.decDigits v.toNat]).length ≤ 100) := Lib.hid (by rw [← hP]; exact Nat.le_trans (parts_len _) (by decide))
      have HN2 : Hid (∀ q ∈ ([NM] ++ [vtext to]) ++ U.map vtext ++ [Lib.decDigits v.toNat], q.length ≤ 22) := Lib.hid (by rw [← hP]; exact HPL)
      have HPE := Lib.hid hP
      clear hP
      go_wp2_with (first
        | (go_at_call 28; refine (PC _).mono ?_; rintro ed wc ⟨rfl, hwc⟩; obtain rfl := hwc.symm)
        | (go_at_call 29; refine (PF _ (hbx.trans TR.1)).mono ?_; rintro ed w9 ⟨rfl, hb9⟩)
        | (refine append_str (w0 := w.alloc (.cells #[.int .i64 op, .int .i64 dop, .int .i64 to, .int .i64 a, .int .i64 b, .int .i64 c, .int .u64 v, .int .i64 t] 26)) (Lib.decDigits v.toNat) rfl _ _ rfl rfl rfl (Sr.on hb9) (Nat.le_trans hBr hb9.size) (TR.on hBr hb9) HLn.out ?_; intro v10 w10 S10 T10; have hB10 : w.heap.size ≤ w10.heap.size := Nat.le_trans hB1 T10.size; obtain ⟨x0, x1, x2, x3, x4, x5, x6, x7⟩ := code_cells (T10.2 _ _ _ _ (by decide) HB.out))
        | (go_at_call 10; refine (PJ _).mono ?_; rintro ed w11 ⟨rfl, hb11⟩; have S11 := S10.on hb11; have T11 := T10.on hB10 hb11; have hB11 := Nat.le_trans hB10 hb11.size; obtain ⟨x0, x1, x2, x3, x4, x5, x6, x7⟩ := code_cells (T11.2 _ _ _ _ (by decide) HB.out))
        | (go_at_call 31; refine (join_any w.heap.size _ _ _ S11 HN0.out HN1.out HN2.out).mono ?_; rintro ed w14 ⟨rfl, hb14⟩))
      go_ret
      exact ⟨ret_str (by rw [htx, HPE.out]; simp), (hbx.trans T11.1).trans (hb14.mono hB11)⟩

set_option maxHeartbeats 4000000 in
set_option maxRecDepth 100000 in
theorem text_tf (op dop to a b c v t : Int) (w : World) (hV : Vars w.heap.size w) (hx : Cd.fits ⟨op, dop, to, a, b, c, v, t⟩) (h0 : 0 ≤ op) (h13 : op ≤ 13) (e2 : ¬ op = 2) (hD : setsB op = true) (hC : countsB op = false) (hJ : jumpsB op = false) :
    Calls Tryd.prog 18 #[.agg #[.int .i64 op, .int .i64 dop, .int .i64 to, .int .i64 a, .int .i64 b, .int .i64 c, .int .u64 v, .int .i64 t]] w fun e w' => e = .returned (.string (bstr (textP ⟨op, dop, to, a, b, c, v, t⟩))) ∧ Below w.heap.size w w' := by
  have hbx := (Below.refl w.heap.size w).alloc (Nat.le_refl _) (.cells #[.int .i64 op, .int .i64 dop, .int .i64 to, .int .i64 a, .int .i64 b, .int .i64 c, .int .u64 v, .int .i64 t] 26)
  have hB1 : w.heap.size ≤ (w.alloc (.cells #[.int .i64 op, .int .i64 dop, .int .i64 to, .int .i64 a, .int .i64 b, .int .i64 c, .int .u64 v, .int .i64 t] 26)).heap.size := by simp
  have HB := Lib.hid (show (w.alloc (.cells #[.int .i64 op, .int .i64 dop, .int .i64 to, .int .i64 a, .int .i64 b, .int .i64 c, .int .u64 v, .int .i64 t] 26)).heap[w.heap.size]? = some (.cells #[.int .i64 op, .int .i64 dop, .int .i64 to, .int .i64 a, .int .i64 b, .int .i64 c, .int .u64 v, .int .i64 t] 26 (0, 0)) by rw [alloc_at, if_pos rfl])
  have PV := fun (u : Int) h0 h1 w1 (hb1 : Below w.heap.size w w1) => value_any u h0 h1 w.heap.size w1 (hV.on hb1)
  have PN := fun w1 => name_any op w1
  have PD := fun w1 => defines_any ⟨op, dop, to, a, b, c, v, t⟩ w1
  have PU := fun w1 => uses_any ⟨op, dop, to, a, b, c, v, t⟩ w1
  have PC := fun w1 => counts_any op w1
  have PJ := fun w1 => jumps_any ⟨op, dop, to, a, b, c, v, t⟩ w1
  have hl3 := uses_le3 ⟨op, dop, to, a, b, c, v, t⟩
  have HPL := parts_le ⟨op, dop, to, a, b, c, v, t⟩ hx
  have htx : textP ⟨op, dop, to, a, b, c, v, t⟩ = Lib.join (partsP ⟨op, dop, to, a, b, c, v, t⟩) [32] := by unfold textP; rw [if_neg (by simp only; omega)]
  have HUf := uses_fits hx
  have hto := hx.2.2.1
  have PI := fun w1 (hb1 : Below w.heap.size w w1) => itoa_any t hx.2.2.2.2.2.2.2.1 hx.2.2.2.2.2.2.2.2 w.heap.size w1 (hV.on hb1)
  have hiz : (bstr (Lib.itoa t)).size ≤ 21 := by rw [bstr_size]; exact Lib.itoa_length_le t hx.2.2.2.2.2.2.2.1 hx.2.2.2.2.2.2.2.2
  have PF : ∀ w1, Below w.heap.size w w1 → Calls Tryd.prog 29 #[.int .u64 v, .int .i64 10] w1 fun e w' => e = .returned (.string (bstr (Lib.decDigits v.toNat))) ∧ Below w1.heap.size w1 w' := fun w1 hb1 => by
    have hv : 0 ≤ v ∧ v < 18446744073709551616 := hx.2.2.2.2.2.2.1
    have := formatUint_any v.toNat (by omega) w.heap.size w1 (hV.on hb1)
    rwa [Int.toNat_of_nonneg hv.1] at this
  have hne := bstr_ne (name_ne (op := op) (by omega) (by omega))
  have hS2 : (op == 2 && opB dop) = false := by simp [e2]
  obtain ⟨NM, hNM⟩ : ∃ NM, NM = nameL op := ⟨_, rfl⟩
  obtain ⟨U, hU⟩ : ∃ U, U = usesP ⟨op, dop, to, a, b, c, v, t⟩ := ⟨_, rfl⟩
  rw [← hNM] at PN hne
  rw [← hU] at PU HUf hl3
  have HU := Lib.hid HUf
  have HNM := Lib.hid hNM
  have HUU := Lib.hid hU
  clear HUf hNM hU
  simp only [hD, hJ, hC, if_true, if_false, Bool.false_eq_true] at PD PJ PC
  go_enter Tryd.func18, Tryd.ntmps18
  go_wp2_with (first
    | (go_at_call 25; refine (PN _).mono ?_; rintro ed w2 ⟨rfl, hb2⟩; have T2 := (Tame.refl w.heap.size _).on hB1 hb2; have hB2 := Nat.le_trans hB1 hb2.size; have S3 := Strs.new (W := w2) (B := w.heap.size) NM hB2; have T3 := T2.alloc hB2 (.cells #[.string (bstr NM)] 9); have hB3 := Nat.le_trans hB1 T3.size; obtain ⟨x0, x1, x2, x3, x4, x5, x6, x7⟩ := code_cells (T3.2 _ _ _ _ (by decide) HB.out))
    | (go_at_call 9; refine (PD _).mono ?_; rintro ed w4 ⟨rfl, hb4⟩; have S4 := S3.on hb4; have T4 := T3.on hB3 hb4; have hB4 := Nat.le_trans hB3 hb4.size; obtain ⟨x0, x1, x2, x3, x4, x5, x6, x7⟩ := code_cells (T4.2 _ _ _ _ (by decide) HB.out))
    | (go_at_call 26; refine (PV to hto.1 hto.2 _ (hbx.trans T4.1)).mono ?_; rintro ed w5 ⟨rfl, hb5⟩)
    | (refine append_str (w0 := w.alloc (.cells #[.int .i64 op, .int .i64 dop, .int .i64 to, .int .i64 a, .int .i64 b, .int .i64 c, .int .u64 v, .int .i64 t] 26)) (vtext to) rfl _ _ rfl rfl rfl (S4.on hb5) (Nat.le_trans hB4 hb5.size) (T4.on hB4 hb5) (by simp) ?_; intro v6 w6 S6 T6; have hB6 : w.heap.size ≤ w6.heap.size := Nat.le_trans hB1 T6.size; obtain ⟨x0, x1, x2, x3, x4, x5, x6, x7⟩ := code_cells (T6.2 _ _ _ _ (by decide) HB.out)))
  go_wp2_with (go_at_call 13; refine (PU _).mono ?_; rintro ed wu ⟨vu, rfl, ho, hbu⟩; obtain ⟨ao, cap, rfl, hm, _⟩ := ho.form)
  have SU := S6.on hbu
  have TU := T6.on hB6 hbu
  have hBU : w.heap.size ≤ wu.heap.size := Nat.le_trans hB6 hbu.size
  go_loopw [4, 48] (fun y i wr => ∃ k : Nat, k ≤ U.length ∧ i = .int .i64 k ∧ Strs wr w.heap.size y (([NM] ++ [vtext to]) ++ (U.take k).map vtext) ∧ Tame w.heap.size wu wr) (fun _ i _ => U.length - (intOf i).toNat)
  case atStart => exact ⟨0, Nat.zero_le _, rfl, by simpa using SU, Tame.refl _ _⟩
  case round =>
    obtain ⟨k, hk, rfl, Sr, Tr⟩ := hrel
    have TR := TU.trans Tr
    have hBr := Nat.le_trans hBU Tr.size
    by_cases hlt : k < U.length
    · obtain ⟨z, hz⟩ : ∃ z, U[k]? = some z := ⟨U[k], by simp [hlt]⟩
      obtain ⟨g, rfl, hcz⟩ := ho.cell_tame Tr hz
      have PVz := fun w1 hb1 => PV z (HU.out z (List.mem_of_getElem? hz)).1 (HU.out z (List.mem_of_getElem? hz)).2 w1 hb1
      have HZ := Lib.hid hz
      clear hz
      have hln : (([NM] ++ [vtext to]) ++ (U.take k).map vtext).length ≤ 100 := by simp only [List.length_append, List.length_map, List.length_take, List.length_cons, List.length_nil]; omega
      have HL := Lib.hid hln
      clear hln
      go_wp2_with (first
        | (go_at_call 26; refine (PVz _ (hbx.trans TR.1)).mono ?_; rintro ed w7 ⟨rfl, hb7⟩)
        | (refine append_str (w0 := wu) (vtext z) rfl _ _ rfl rfl rfl (Sr.on hb7) (Nat.le_trans hBr hb7.size) (Tr.on hBr hb7) HL.out ?_; intro v8 w8 S8 T8))
      go_roundw
      case rel => exact ⟨k + 1, by omega, by go_num, by rw [take_snoc' HZ.out, List.map_append, ← List.append_assoc]; exact S8, T8⟩
      case measure => simp [intOf]; omega
    · have he : U.take k = U := List.take_of_length_le (by omega)
      rw [he] at Sr
      obtain ⟨x0, x1, x2, x3, x4, x5, x6, x7⟩ := code_cells (TR.2 _ _ _ _ (by decide) HB.out)
      have HLn : Hid ((([NM] ++ [vtext to])).length ≤ 100) := Lib.hid (by simp only [List.length_append, List.length_map, List.length_cons, List.length_nil]; omega)
      have hP : partsP ⟨op, dop, to, a, b, c, v, t⟩ = ([NM] ++ [vtext to]) ++ U.map vtext := by rw [HUU.out]; simp [partsP, ones, hD, hC, hJ, HNM.out, hS2]
      have HN0 : Hid (0 < (([NM] ++ [vtext to]) ++ U.map vtext).length) := Lib.hid (by simp)
      have HN1 : Hid ((([NM] ++ [vtext to]) ++ U.map vtext).length ≤ 100) := Lib.hid (by rw [← hP]; exact Nat.le_trans (parts_len _) (by decide))
      have HN2 : Hid (∀ q ∈ ([NM] ++ [vtext to]) ++ U.map vtext, q.length ≤ 22) := Lib.hid (by rw [← hP]; exact HPL)
      have HPE := Lib.hid hP
      clear hP
      go_wp2_with (first
        | (go_at_call 28; refine (PC _).mono ?_; rintro ed wc ⟨rfl, hwc⟩; obtain rfl := hwc.symm)
        | (go_at_call 10; refine (PJ _).mono ?_; rintro ed w11 ⟨rfl, hb11⟩; have S11 := Sr.on hb11; have T11 := TR.on hBr hb11; have hB11 := Nat.le_trans hBr hb11.size; obtain ⟨x0, x1, x2, x3, x4, x5, x6, x7⟩ := code_cells (T11.2 _ _ _ _ (by decide) HB.out))
        | (go_at_call 31; refine (join_any w.heap.size _ _ _ S11 HN0.out HN1.out HN2.out).mono ?_; rintro ed w14 ⟨rfl, hb14⟩))
      go_ret
      exact ⟨ret_str (by rw [htx, HPE.out]; simp), (hbx.trans T11.1).trans (hb14.mono hB11)⟩

set_option maxHeartbeats 4000000 in
set_option maxRecDepth 100000 in
theorem text_ft (op dop to a b c v t : Int) (w : World) (hV : Vars w.heap.size w) (hx : Cd.fits ⟨op, dop, to, a, b, c, v, t⟩) (h0 : 0 ≤ op) (h13 : op ≤ 13) (e2 : ¬ op = 2) (hD : setsB op = false) (hC : countsB op = true) (hJ : jumpsB op = false) :
    Calls Tryd.prog 18 #[.agg #[.int .i64 op, .int .i64 dop, .int .i64 to, .int .i64 a, .int .i64 b, .int .i64 c, .int .u64 v, .int .i64 t]] w fun e w' => e = .returned (.string (bstr (textP ⟨op, dop, to, a, b, c, v, t⟩))) ∧ Below w.heap.size w w' := by
  have hbx := (Below.refl w.heap.size w).alloc (Nat.le_refl _) (.cells #[.int .i64 op, .int .i64 dop, .int .i64 to, .int .i64 a, .int .i64 b, .int .i64 c, .int .u64 v, .int .i64 t] 26)
  have hB1 : w.heap.size ≤ (w.alloc (.cells #[.int .i64 op, .int .i64 dop, .int .i64 to, .int .i64 a, .int .i64 b, .int .i64 c, .int .u64 v, .int .i64 t] 26)).heap.size := by simp
  have HB := Lib.hid (show (w.alloc (.cells #[.int .i64 op, .int .i64 dop, .int .i64 to, .int .i64 a, .int .i64 b, .int .i64 c, .int .u64 v, .int .i64 t] 26)).heap[w.heap.size]? = some (.cells #[.int .i64 op, .int .i64 dop, .int .i64 to, .int .i64 a, .int .i64 b, .int .i64 c, .int .u64 v, .int .i64 t] 26 (0, 0)) by rw [alloc_at, if_pos rfl])
  have PV := fun (u : Int) h0 h1 w1 (hb1 : Below w.heap.size w w1) => value_any u h0 h1 w.heap.size w1 (hV.on hb1)
  have PN := fun w1 => name_any op w1
  have PD := fun w1 => defines_any ⟨op, dop, to, a, b, c, v, t⟩ w1
  have PU := fun w1 => uses_any ⟨op, dop, to, a, b, c, v, t⟩ w1
  have PC := fun w1 => counts_any op w1
  have PJ := fun w1 => jumps_any ⟨op, dop, to, a, b, c, v, t⟩ w1
  have hl3 := uses_le3 ⟨op, dop, to, a, b, c, v, t⟩
  have HPL := parts_le ⟨op, dop, to, a, b, c, v, t⟩ hx
  have htx : textP ⟨op, dop, to, a, b, c, v, t⟩ = Lib.join (partsP ⟨op, dop, to, a, b, c, v, t⟩) [32] := by unfold textP; rw [if_neg (by simp only; omega)]
  have HUf := uses_fits hx
  have hto := hx.2.2.1
  have PI := fun w1 (hb1 : Below w.heap.size w w1) => itoa_any t hx.2.2.2.2.2.2.2.1 hx.2.2.2.2.2.2.2.2 w.heap.size w1 (hV.on hb1)
  have hiz : (bstr (Lib.itoa t)).size ≤ 21 := by rw [bstr_size]; exact Lib.itoa_length_le t hx.2.2.2.2.2.2.2.1 hx.2.2.2.2.2.2.2.2
  have PF : ∀ w1, Below w.heap.size w w1 → Calls Tryd.prog 29 #[.int .u64 v, .int .i64 10] w1 fun e w' => e = .returned (.string (bstr (Lib.decDigits v.toNat))) ∧ Below w1.heap.size w1 w' := fun w1 hb1 => by
    have hv : 0 ≤ v ∧ v < 18446744073709551616 := hx.2.2.2.2.2.2.1
    have := formatUint_any v.toNat (by omega) w.heap.size w1 (hV.on hb1)
    rwa [Int.toNat_of_nonneg hv.1] at this
  have hne := bstr_ne (name_ne (op := op) (by omega) (by omega))
  have hS2 : (op == 2 && opB dop) = false := by simp [e2]
  obtain ⟨NM, hNM⟩ : ∃ NM, NM = nameL op := ⟨_, rfl⟩
  obtain ⟨U, hU⟩ : ∃ U, U = usesP ⟨op, dop, to, a, b, c, v, t⟩ := ⟨_, rfl⟩
  rw [← hNM] at PN hne
  rw [← hU] at PU HUf hl3
  have HU := Lib.hid HUf
  have HNM := Lib.hid hNM
  have HUU := Lib.hid hU
  clear HUf hNM hU
  simp only [hD, hJ, hC, if_true, if_false, Bool.false_eq_true] at PD PJ PC
  go_enter Tryd.func18, Tryd.ntmps18
  go_wp2_with (first
    | (go_at_call 25; refine (PN _).mono ?_; rintro ed w2 ⟨rfl, hb2⟩; have T2 := (Tame.refl w.heap.size _).on hB1 hb2; have hB2 := Nat.le_trans hB1 hb2.size; have S3 := Strs.new (W := w2) (B := w.heap.size) NM hB2; have T3 := T2.alloc hB2 (.cells #[.string (bstr NM)] 9); have hB3 := Nat.le_trans hB1 T3.size; obtain ⟨x0, x1, x2, x3, x4, x5, x6, x7⟩ := code_cells (T3.2 _ _ _ _ (by decide) HB.out))
    | (go_at_call 9; refine (PD _).mono ?_; rintro ed w4 ⟨rfl, hb4⟩; have S4 := S3.on hb4; have T4 := T3.on hB3 hb4; have hB4 := Nat.le_trans hB3 hb4.size; obtain ⟨x0, x1, x2, x3, x4, x5, x6, x7⟩ := code_cells (T4.2 _ _ _ _ (by decide) HB.out)))
  go_wp2_with (go_at_call 13; refine (PU _).mono ?_; rintro ed wu ⟨vu, rfl, ho, hbu⟩; obtain ⟨ao, cap, rfl, hm, _⟩ := ho.form)
  have SU := S4.on hbu
  have TU := T4.on hB4 hbu
  have hBU : w.heap.size ≤ wu.heap.size := Nat.le_trans hB4 hbu.size
  go_loopw [4, 48] (fun y i wr => ∃ k : Nat, k ≤ U.length ∧ i = .int .i64 k ∧ Strs wr w.heap.size y ([NM] ++ (U.take k).map vtext) ∧ Tame w.heap.size wu wr) (fun _ i _ => U.length - (intOf i).toNat)
  case atStart => exact ⟨0, Nat.zero_le _, rfl, by simpa using SU, Tame.refl _ _⟩
  case round =>
    obtain ⟨k, hk, rfl, Sr, Tr⟩ := hrel
    have TR := TU.trans Tr
    have hBr := Nat.le_trans hBU Tr.size
    by_cases hlt : k < U.length
    · obtain ⟨z, hz⟩ : ∃ z, U[k]? = some z := ⟨U[k], by simp [hlt]⟩
      obtain ⟨g, rfl, hcz⟩ := ho.cell_tame Tr hz
      have PVz := fun w1 hb1 => PV z (HU.out z (List.mem_of_getElem? hz)).1 (HU.out z (List.mem_of_getElem? hz)).2 w1 hb1
      have HZ := Lib.hid hz
      clear hz
      have hln : ([NM] ++ (U.take k).map vtext).length ≤ 100 := by simp only [List.length_append, List.length_map, List.length_take, List.length_cons, List.length_nil]; omega
      have HL := Lib.hid hln
      clear hln
      go_wp2_with (first
        | (go_at_call 26; refine (PVz _ (hbx.trans TR.1)).mono ?_; rintro ed w7 ⟨rfl, hb7⟩)
        | (refine append_str (w0 := wu) (vtext z) rfl _ _ rfl rfl rfl (Sr.on hb7) (Nat.le_trans hBr hb7.size) (Tr.on hBr hb7) HL.out ?_; intro v8 w8 S8 T8))
      go_roundw
      case rel => exact ⟨k + 1, by omega, by go_num, by rw [take_snoc' HZ.out, List.map_append, ← List.append_assoc]; exact S8, T8⟩
      case measure => simp [intOf]; omega
    · have he : U.take k = U := List.take_of_length_le (by omega)
      rw [he] at Sr
      obtain ⟨x0, x1, x2, x3, x4, x5, x6, x7⟩ := code_cells (TR.2 _ _ _ _ (by decide) HB.out)
      have HLn : Hid (([NM] ++ U.map vtext).length ≤ 100) := Lib.hid (by simp only [List.length_append, List.length_map, List.length_cons, List.length_nil]; omega)
      have hP : partsP ⟨op, dop, to, a, b, c, v, t⟩ = [NM] ++ U.map vtext ++ [Lib.decDigits v.toNat] := by rw [HUU.out]; simp [partsP, ones, hD, hC, hJ, HNM.out, hS2]
      have HN0 : Hid (0 < ([NM] ++ U.map vtext ++ [Lib.decDigits v.toNat]).length) := Lib.hid (by simp)
      have HN1 : Hid (([NM] ++ U.map vtext ++ [Lib.decDigits v.toNat]).length ≤ 100) := Lib.hid (by rw [← hP]; exact Nat.le_trans (parts_len _) (by decide))
      have HN2 : Hid (∀ q ∈ [NM] ++ U.map vtext ++ [Lib.decDigits v.toNat], q.length ≤ 22) := Lib.hid (by rw [← hP]; exact HPL)
      have HPE := Lib.hid hP
      clear hP
      go_wp2_with (first
        | (go_at_call 28; refine (PC _).mono ?_; rintro ed wc ⟨rfl, hwc⟩; obtain rfl := hwc.symm)
        | (go_at_call 29; refine (PF _ (hbx.trans TR.1)).mono ?_; rintro ed w9 ⟨rfl, hb9⟩)
        | (refine append_str (w0 := w.alloc (.cells #[.int .i64 op, .int .i64 dop, .int .i64 to, .int .i64 a, .int .i64 b, .int .i64 c, .int .u64 v, .int .i64 t] 26)) (Lib.decDigits v.toNat) rfl _ _ rfl rfl rfl (Sr.on hb9) (Nat.le_trans hBr hb9.size) (TR.on hBr hb9) HLn.out ?_; intro v10 w10 S10 T10; have hB10 : w.heap.size ≤ w10.heap.size := Nat.le_trans hB1 T10.size; obtain ⟨x0, x1, x2, x3, x4, x5, x6, x7⟩ := code_cells (T10.2 _ _ _ _ (by decide) HB.out))
        | (go_at_call 10; refine (PJ _).mono ?_; rintro ed w11 ⟨rfl, hb11⟩; have S11 := S10.on hb11; have T11 := T10.on hB10 hb11; have hB11 := Nat.le_trans hB10 hb11.size; obtain ⟨x0, x1, x2, x3, x4, x5, x6, x7⟩ := code_cells (T11.2 _ _ _ _ (by decide) HB.out))
        | (go_at_call 31; refine (join_any w.heap.size _ _ _ S11 HN0.out HN1.out HN2.out).mono ?_; rintro ed w14 ⟨rfl, hb14⟩))
      go_ret
      exact ⟨ret_str (by rw [htx, HPE.out]; simp), (hbx.trans T11.1).trans (hb14.mono hB11)⟩

set_option maxHeartbeats 4000000 in
set_option maxRecDepth 100000 in
theorem text_fj (op dop to a b c v t : Int) (w : World) (hV : Vars w.heap.size w) (hx : Cd.fits ⟨op, dop, to, a, b, c, v, t⟩) (h0 : 0 ≤ op) (h13 : op ≤ 13) (e2 : ¬ op = 2) (hD : setsB op = false) (hC : countsB op = false) (hJ : jumpsB op = true) :
    Calls Tryd.prog 18 #[.agg #[.int .i64 op, .int .i64 dop, .int .i64 to, .int .i64 a, .int .i64 b, .int .i64 c, .int .u64 v, .int .i64 t]] w fun e w' => e = .returned (.string (bstr (textP ⟨op, dop, to, a, b, c, v, t⟩))) ∧ Below w.heap.size w w' := by
  have hbx := (Below.refl w.heap.size w).alloc (Nat.le_refl _) (.cells #[.int .i64 op, .int .i64 dop, .int .i64 to, .int .i64 a, .int .i64 b, .int .i64 c, .int .u64 v, .int .i64 t] 26)
  have hB1 : w.heap.size ≤ (w.alloc (.cells #[.int .i64 op, .int .i64 dop, .int .i64 to, .int .i64 a, .int .i64 b, .int .i64 c, .int .u64 v, .int .i64 t] 26)).heap.size := by simp
  have HB := Lib.hid (show (w.alloc (.cells #[.int .i64 op, .int .i64 dop, .int .i64 to, .int .i64 a, .int .i64 b, .int .i64 c, .int .u64 v, .int .i64 t] 26)).heap[w.heap.size]? = some (.cells #[.int .i64 op, .int .i64 dop, .int .i64 to, .int .i64 a, .int .i64 b, .int .i64 c, .int .u64 v, .int .i64 t] 26 (0, 0)) by rw [alloc_at, if_pos rfl])
  have PV := fun (u : Int) h0 h1 w1 (hb1 : Below w.heap.size w w1) => value_any u h0 h1 w.heap.size w1 (hV.on hb1)
  have PN := fun w1 => name_any op w1
  have PD := fun w1 => defines_any ⟨op, dop, to, a, b, c, v, t⟩ w1
  have PU := fun w1 => uses_any ⟨op, dop, to, a, b, c, v, t⟩ w1
  have PC := fun w1 => counts_any op w1
  have PJ := fun w1 => jumps_any ⟨op, dop, to, a, b, c, v, t⟩ w1
  have hl3 := uses_le3 ⟨op, dop, to, a, b, c, v, t⟩
  have HPL := parts_le ⟨op, dop, to, a, b, c, v, t⟩ hx
  have htx : textP ⟨op, dop, to, a, b, c, v, t⟩ = Lib.join (partsP ⟨op, dop, to, a, b, c, v, t⟩) [32] := by unfold textP; rw [if_neg (by simp only; omega)]
  have HUf := uses_fits hx
  have hto := hx.2.2.1
  have PI := fun w1 (hb1 : Below w.heap.size w w1) => itoa_any t hx.2.2.2.2.2.2.2.1 hx.2.2.2.2.2.2.2.2 w.heap.size w1 (hV.on hb1)
  have hiz : (bstr (Lib.itoa t)).size ≤ 21 := by rw [bstr_size]; exact Lib.itoa_length_le t hx.2.2.2.2.2.2.2.1 hx.2.2.2.2.2.2.2.2
  have PF : ∀ w1, Below w.heap.size w w1 → Calls Tryd.prog 29 #[.int .u64 v, .int .i64 10] w1 fun e w' => e = .returned (.string (bstr (Lib.decDigits v.toNat))) ∧ Below w1.heap.size w1 w' := fun w1 hb1 => by
    have hv : 0 ≤ v ∧ v < 18446744073709551616 := hx.2.2.2.2.2.2.1
    have := formatUint_any v.toNat (by omega) w.heap.size w1 (hV.on hb1)
    rwa [Int.toNat_of_nonneg hv.1] at this
  have hne := bstr_ne (name_ne (op := op) (by omega) (by omega))
  have hS2 : (op == 2 && opB dop) = false := by simp [e2]
  obtain ⟨NM, hNM⟩ : ∃ NM, NM = nameL op := ⟨_, rfl⟩
  obtain ⟨U, hU⟩ : ∃ U, U = usesP ⟨op, dop, to, a, b, c, v, t⟩ := ⟨_, rfl⟩
  rw [← hNM] at PN hne
  rw [← hU] at PU HUf hl3
  have HU := Lib.hid HUf
  have HNM := Lib.hid hNM
  have HUU := Lib.hid hU
  clear HUf hNM hU
  simp only [hD, hJ, hC, if_true, if_false, Bool.false_eq_true] at PD PJ PC
  go_enter Tryd.func18, Tryd.ntmps18
  go_wp2_with (first
    | (go_at_call 25; refine (PN _).mono ?_; rintro ed w2 ⟨rfl, hb2⟩; have T2 := (Tame.refl w.heap.size _).on hB1 hb2; have hB2 := Nat.le_trans hB1 hb2.size; have S3 := Strs.new (W := w2) (B := w.heap.size) NM hB2; have T3 := T2.alloc hB2 (.cells #[.string (bstr NM)] 9); have hB3 := Nat.le_trans hB1 T3.size; obtain ⟨x0, x1, x2, x3, x4, x5, x6, x7⟩ := code_cells (T3.2 _ _ _ _ (by decide) HB.out))
    | (go_at_call 9; refine (PD _).mono ?_; rintro ed w4 ⟨rfl, hb4⟩; have S4 := S3.on hb4; have T4 := T3.on hB3 hb4; have hB4 := Nat.le_trans hB3 hb4.size; obtain ⟨x0, x1, x2, x3, x4, x5, x6, x7⟩ := code_cells (T4.2 _ _ _ _ (by decide) HB.out)))
  go_wp2_with (go_at_call 13; refine (PU _).mono ?_; rintro ed wu ⟨vu, rfl, ho, hbu⟩; obtain ⟨ao, cap, rfl, hm, _⟩ := ho.form)
  have SU := S4.on hbu
  have TU := T4.on hB4 hbu
  have hBU : w.heap.size ≤ wu.heap.size := Nat.le_trans hB4 hbu.size
  go_loopw [4, 48] (fun y i wr => ∃ k : Nat, k ≤ U.length ∧ i = .int .i64 k ∧ Strs wr w.heap.size y ([NM] ++ (U.take k).map vtext) ∧ Tame w.heap.size wu wr) (fun _ i _ => U.length - (intOf i).toNat)
  case atStart => exact ⟨0, Nat.zero_le _, rfl, by simpa using SU, Tame.refl _ _⟩
  case round =>
    obtain ⟨k, hk, rfl, Sr, Tr⟩ := hrel
    have TR := TU.trans Tr
    have hBr := Nat.le_trans hBU Tr.size
    by_cases hlt : k < U.length
    · obtain ⟨z, hz⟩ : ∃ z, U[k]? = some z := ⟨U[k], by simp [hlt]⟩
      obtain ⟨g, rfl, hcz⟩ := ho.cell_tame Tr hz
      have PVz := fun w1 hb1 => PV z (HU.out z (List.mem_of_getElem? hz)).1 (HU.out z (List.mem_of_getElem? hz)).2 w1 hb1
      have HZ := Lib.hid hz
      clear hz
      have hln : ([NM] ++ (U.take k).map vtext).length ≤ 100 := by simp only [List.length_append, List.length_map, List.length_take, List.length_cons, List.length_nil]; omega
      have HL := Lib.hid hln
      clear hln
      go_wp2_with (first
        | (go_at_call 26; refine (PVz _ (hbx.trans TR.1)).mono ?_; rintro ed w7 ⟨rfl, hb7⟩)
        | (refine append_str (w0 := wu) (vtext z) rfl _ _ rfl rfl rfl (Sr.on hb7) (Nat.le_trans hBr hb7.size) (Tr.on hBr hb7) HL.out ?_; intro v8 w8 S8 T8))
      go_roundw
      case rel => exact ⟨k + 1, by omega, by go_num, by rw [take_snoc' HZ.out, List.map_append, ← List.append_assoc]; exact S8, T8⟩
      case measure => simp [intOf]; omega
    · have he : U.take k = U := List.take_of_length_le (by omega)
      rw [he] at Sr
      obtain ⟨x0, x1, x2, x3, x4, x5, x6, x7⟩ := code_cells (TR.2 _ _ _ _ (by decide) HB.out)
      have HLn : Hid (([NM] ++ U.map vtext).length ≤ 100) := Lib.hid (by simp only [List.length_append, List.length_map, List.length_cons, List.length_nil]; omega)
      have hP : partsP ⟨op, dop, to, a, b, c, v, t⟩ = [NM] ++ U.map vtext ++ [64 :: Lib.itoa t] := by rw [HUU.out]; simp [partsP, ones, hD, hC, hJ, HNM.out, hS2]
      have HN0 : Hid (0 < ([NM] ++ U.map vtext ++ [64 :: Lib.itoa t]).length) := Lib.hid (by simp)
      have HN1 : Hid (([NM] ++ U.map vtext ++ [64 :: Lib.itoa t]).length ≤ 100) := Lib.hid (by rw [← hP]; exact Nat.le_trans (parts_len _) (by decide))
      have HN2 : Hid (∀ q ∈ [NM] ++ U.map vtext ++ [64 :: Lib.itoa t], q.length ≤ 22) := Lib.hid (by rw [← hP]; exact HPL)
      have HPE := Lib.hid hP
      clear hP
      go_wp2_with (first
        | (go_at_call 28; refine (PC _).mono ?_; rintro ed wc ⟨rfl, hwc⟩; obtain rfl := hwc.symm)
        | (go_at_call 10; refine (PJ _).mono ?_; rintro ed w11 ⟨rfl, hb11⟩; have S11 := Sr.on hb11; have T11 := TR.on hBr hb11; have hB11 := Nat.le_trans hBr hb11.size; obtain ⟨x0, x1, x2, x3, x4, x5, x6, x7⟩ := code_cells (T11.2 _ _ _ _ (by decide) HB.out))
        | (go_at_call 30; refine (PI _ (hbx.trans T11.1)).mono ?_; rintro ed w12 ⟨rfl, hb12⟩)
        | (rw [cons_str]; refine append_str (w0 := w.alloc (.cells #[.int .i64 op, .int .i64 dop, .int .i64 to, .int .i64 a, .int .i64 b, .int .i64 c, .int .u64 v, .int .i64 t] 26)) (64 :: Lib.itoa t) rfl _ _ rfl rfl rfl (S11.on hb12) (Nat.le_trans hB11 hb12.size) (T11.on hB11 hb12) HLn.out ?_; intro v13 w13 S13 T13; have hB13 : w.heap.size ≤ w13.heap.size := Nat.le_trans hB1 T13.size)
        | (go_at_call 31; refine (join_any w.heap.size _ _ _ S13 HN0.out HN1.out HN2.out).mono ?_; rintro ed w14 ⟨rfl, hb14⟩))
      go_ret
      exact ⟨ret_str (by rw [htx, HPE.out]; simp), (hbx.trans T13.1).trans (hb14.mono hB13)⟩

set_option maxHeartbeats 4000000 in
set_option maxRecDepth 100000 in
theorem text_ff (op dop to a b c v t : Int) (w : World) (hV : Vars w.heap.size w) (hx : Cd.fits ⟨op, dop, to, a, b, c, v, t⟩) (h0 : 0 ≤ op) (h13 : op ≤ 13) (e2 : ¬ op = 2) (hD : setsB op = false) (hC : countsB op = false) (hJ : jumpsB op = false) :
    Calls Tryd.prog 18 #[.agg #[.int .i64 op, .int .i64 dop, .int .i64 to, .int .i64 a, .int .i64 b, .int .i64 c, .int .u64 v, .int .i64 t]] w fun e w' => e = .returned (.string (bstr (textP ⟨op, dop, to, a, b, c, v, t⟩))) ∧ Below w.heap.size w w' := by
  have hbx := (Below.refl w.heap.size w).alloc (Nat.le_refl _) (.cells #[.int .i64 op, .int .i64 dop, .int .i64 to, .int .i64 a, .int .i64 b, .int .i64 c, .int .u64 v, .int .i64 t] 26)
  have hB1 : w.heap.size ≤ (w.alloc (.cells #[.int .i64 op, .int .i64 dop, .int .i64 to, .int .i64 a, .int .i64 b, .int .i64 c, .int .u64 v, .int .i64 t] 26)).heap.size := by simp
  have HB := Lib.hid (show (w.alloc (.cells #[.int .i64 op, .int .i64 dop, .int .i64 to, .int .i64 a, .int .i64 b, .int .i64 c, .int .u64 v, .int .i64 t] 26)).heap[w.heap.size]? = some (.cells #[.int .i64 op, .int .i64 dop, .int .i64 to, .int .i64 a, .int .i64 b, .int .i64 c, .int .u64 v, .int .i64 t] 26 (0, 0)) by rw [alloc_at, if_pos rfl])
  have PV := fun (u : Int) h0 h1 w1 (hb1 : Below w.heap.size w w1) => value_any u h0 h1 w.heap.size w1 (hV.on hb1)
  have PN := fun w1 => name_any op w1
  have PD := fun w1 => defines_any ⟨op, dop, to, a, b, c, v, t⟩ w1
  have PU := fun w1 => uses_any ⟨op, dop, to, a, b, c, v, t⟩ w1
  have PC := fun w1 => counts_any op w1
  have PJ := fun w1 => jumps_any ⟨op, dop, to, a, b, c, v, t⟩ w1
  have hl3 := uses_le3 ⟨op, dop, to, a, b, c, v, t⟩
  have HPL := parts_le ⟨op, dop, to, a, b, c, v, t⟩ hx
  have htx : textP ⟨op, dop, to, a, b, c, v, t⟩ = Lib.join (partsP ⟨op, dop, to, a, b, c, v, t⟩) [32] := by unfold textP; rw [if_neg (by simp only; omega)]
  have HUf := uses_fits hx
  have hto := hx.2.2.1
  have PI := fun w1 (hb1 : Below w.heap.size w w1) => itoa_any t hx.2.2.2.2.2.2.2.1 hx.2.2.2.2.2.2.2.2 w.heap.size w1 (hV.on hb1)
  have hiz : (bstr (Lib.itoa t)).size ≤ 21 := by rw [bstr_size]; exact Lib.itoa_length_le t hx.2.2.2.2.2.2.2.1 hx.2.2.2.2.2.2.2.2
  have PF : ∀ w1, Below w.heap.size w w1 → Calls Tryd.prog 29 #[.int .u64 v, .int .i64 10] w1 fun e w' => e = .returned (.string (bstr (Lib.decDigits v.toNat))) ∧ Below w1.heap.size w1 w' := fun w1 hb1 => by
    have hv : 0 ≤ v ∧ v < 18446744073709551616 := hx.2.2.2.2.2.2.1
    have := formatUint_any v.toNat (by omega) w.heap.size w1 (hV.on hb1)
    rwa [Int.toNat_of_nonneg hv.1] at this
  have hne := bstr_ne (name_ne (op := op) (by omega) (by omega))
  have hS2 : (op == 2 && opB dop) = false := by simp [e2]
  obtain ⟨NM, hNM⟩ : ∃ NM, NM = nameL op := ⟨_, rfl⟩
  obtain ⟨U, hU⟩ : ∃ U, U = usesP ⟨op, dop, to, a, b, c, v, t⟩ := ⟨_, rfl⟩
  rw [← hNM] at PN hne
  rw [← hU] at PU HUf hl3
  have HU := Lib.hid HUf
  have HNM := Lib.hid hNM
  have HUU := Lib.hid hU
  clear HUf hNM hU
  simp only [hD, hJ, hC, if_true, if_false, Bool.false_eq_true] at PD PJ PC
  go_enter Tryd.func18, Tryd.ntmps18
  go_wp2_with (first
    | (go_at_call 25; refine (PN _).mono ?_; rintro ed w2 ⟨rfl, hb2⟩; have T2 := (Tame.refl w.heap.size _).on hB1 hb2; have hB2 := Nat.le_trans hB1 hb2.size; have S3 := Strs.new (W := w2) (B := w.heap.size) NM hB2; have T3 := T2.alloc hB2 (.cells #[.string (bstr NM)] 9); have hB3 := Nat.le_trans hB1 T3.size; obtain ⟨x0, x1, x2, x3, x4, x5, x6, x7⟩ := code_cells (T3.2 _ _ _ _ (by decide) HB.out))
    | (go_at_call 9; refine (PD _).mono ?_; rintro ed w4 ⟨rfl, hb4⟩; have S4 := S3.on hb4; have T4 := T3.on hB3 hb4; have hB4 := Nat.le_trans hB3 hb4.size; obtain ⟨x0, x1, x2, x3, x4, x5, x6, x7⟩ := code_cells (T4.2 _ _ _ _ (by decide) HB.out)))
  go_wp2_with (go_at_call 13; refine (PU _).mono ?_; rintro ed wu ⟨vu, rfl, ho, hbu⟩; obtain ⟨ao, cap, rfl, hm, _⟩ := ho.form)
  have SU := S4.on hbu
  have TU := T4.on hB4 hbu
  have hBU : w.heap.size ≤ wu.heap.size := Nat.le_trans hB4 hbu.size
  go_loopw [4, 48] (fun y i wr => ∃ k : Nat, k ≤ U.length ∧ i = .int .i64 k ∧ Strs wr w.heap.size y ([NM] ++ (U.take k).map vtext) ∧ Tame w.heap.size wu wr) (fun _ i _ => U.length - (intOf i).toNat)
  case atStart => exact ⟨0, Nat.zero_le _, rfl, by simpa using SU, Tame.refl _ _⟩
  case round =>
    obtain ⟨k, hk, rfl, Sr, Tr⟩ := hrel
    have TR := TU.trans Tr
    have hBr := Nat.le_trans hBU Tr.size
    by_cases hlt : k < U.length
    · obtain ⟨z, hz⟩ : ∃ z, U[k]? = some z := ⟨U[k], by simp [hlt]⟩
      obtain ⟨g, rfl, hcz⟩ := ho.cell_tame Tr hz
      have PVz := fun w1 hb1 => PV z (HU.out z (List.mem_of_getElem? hz)).1 (HU.out z (List.mem_of_getElem? hz)).2 w1 hb1
      have HZ := Lib.hid hz
      clear hz
      have hln : ([NM] ++ (U.take k).map vtext).length ≤ 100 := by simp only [List.length_append, List.length_map, List.length_take, List.length_cons, List.length_nil]; omega
      have HL := Lib.hid hln
      clear hln
      go_wp2_with (first
        | (go_at_call 26; refine (PVz _ (hbx.trans TR.1)).mono ?_; rintro ed w7 ⟨rfl, hb7⟩)
        | (refine append_str (w0 := wu) (vtext z) rfl _ _ rfl rfl rfl (Sr.on hb7) (Nat.le_trans hBr hb7.size) (Tr.on hBr hb7) HL.out ?_; intro v8 w8 S8 T8))
      go_roundw
      case rel => exact ⟨k + 1, by omega, by go_num, by rw [take_snoc' HZ.out, List.map_append, ← List.append_assoc]; exact S8, T8⟩
      case measure => simp [intOf]; omega
    · have he : U.take k = U := List.take_of_length_le (by omega)
      rw [he] at Sr
      obtain ⟨x0, x1, x2, x3, x4, x5, x6, x7⟩ := code_cells (TR.2 _ _ _ _ (by decide) HB.out)
      have HLn : Hid (([NM]).length ≤ 100) := Lib.hid (by simp only [List.length_append, List.length_map, List.length_cons, List.length_nil]; omega)
      have hP : partsP ⟨op, dop, to, a, b, c, v, t⟩ = [NM] ++ U.map vtext := by rw [HUU.out]; simp [partsP, ones, hD, hC, hJ, HNM.out, hS2]
      have HN0 : Hid (0 < ([NM] ++ U.map vtext).length) := Lib.hid (by simp)
      have HN1 : Hid (([NM] ++ U.map vtext).length ≤ 100) := Lib.hid (by rw [← hP]; exact Nat.le_trans (parts_len _) (by decide))
      have HN2 : Hid (∀ q ∈ [NM] ++ U.map vtext, q.length ≤ 22) := Lib.hid (by rw [← hP]; exact HPL)
      have HPE := Lib.hid hP
      clear hP
      go_wp2_with (first
        | (go_at_call 28; refine (PC _).mono ?_; rintro ed wc ⟨rfl, hwc⟩; obtain rfl := hwc.symm)
        | (go_at_call 10; refine (PJ _).mono ?_; rintro ed w11 ⟨rfl, hb11⟩; have S11 := Sr.on hb11; have T11 := TR.on hBr hb11; have hB11 := Nat.le_trans hBr hb11.size; obtain ⟨x0, x1, x2, x3, x4, x5, x6, x7⟩ := code_cells (T11.2 _ _ _ _ (by decide) HB.out))
        | (go_at_call 31; refine (join_any w.heap.size _ _ _ S11 HN0.out HN1.out HN2.out).mono ?_; rintro ed w14 ⟨rfl, hb14⟩))
      go_ret
      exact ⟨ret_str (by rw [htx, HPE.out]; simp), (hbx.trans T11.1).trans (hb14.mono hB11)⟩

set_option maxHeartbeats 4000000 in
set_option maxRecDepth 100000 in
theorem text_no (dop to a b c v t : Int) (w : World) (hV : Vars w.heap.size w) (hx : Cd.fits ⟨2, dop, to, a, b, c, v, t⟩) (hSg : opB dop = false) :
    Calls Tryd.prog 18 #[.agg #[.int .i64 2, .int .i64 dop, .int .i64 to, .int .i64 a, .int .i64 b, .int .i64 c, .int .u64 v, .int .i64 t]] w fun e w' => e = .returned (.string (bstr (textP ⟨2, dop, to, a, b, c, v, t⟩))) ∧ Below w.heap.size w w' := by
  have hbx := (Below.refl w.heap.size w).alloc (Nat.le_refl _) (.cells #[.int .i64 2, .int .i64 dop, .int .i64 to, .int .i64 a, .int .i64 b, .int .i64 c, .int .u64 v, .int .i64 t] 26)
  have hB1 : w.heap.size ≤ (w.alloc (.cells #[.int .i64 2, .int .i64 dop, .int .i64 to, .int .i64 a, .int .i64 b, .int .i64 c, .int .u64 v, .int .i64 t] 26)).heap.size := by simp
  have HB := Lib.hid (show (w.alloc (.cells #[.int .i64 2, .int .i64 dop, .int .i64 to, .int .i64 a, .int .i64 b, .int .i64 c, .int .u64 v, .int .i64 t] 26)).heap[w.heap.size]? = some (.cells #[.int .i64 2, .int .i64 dop, .int .i64 to, .int .i64 a, .int .i64 b, .int .i64 c, .int .u64 v, .int .i64 t] 26 (0, 0)) by rw [alloc_at, if_pos rfl])
  have PV := fun (u : Int) h0 h1 w1 (hb1 : Below w.heap.size w w1) => value_any u h0 h1 w.heap.size w1 (hV.on hb1)
  have PN := fun w1 => name_any 2 w1
  have PD := fun w1 => defines_any ⟨2, dop, to, a, b, c, v, t⟩ w1
  have PU := fun w1 => uses_any ⟨2, dop, to, a, b, c, v, t⟩ w1
  have PC := fun w1 => counts_any 2 w1
  have PJ := fun w1 => jumps_any ⟨2, dop, to, a, b, c, v, t⟩ w1
  have hl3 := uses_le3 ⟨2, dop, to, a, b, c, v, t⟩
  have HPL := parts_le ⟨2, dop, to, a, b, c, v, t⟩ hx
  have htx : textP ⟨2, dop, to, a, b, c, v, t⟩ = Lib.join (partsP ⟨2, dop, to, a, b, c, v, t⟩) [32] := by unfold textP; rw [if_neg (by simp only; omega)]
  have HUf := uses_fits hx
  have hto := hx.2.2.1
  have PI := fun w1 (hb1 : Below w.heap.size w w1) => itoa_any t hx.2.2.2.2.2.2.2.1 hx.2.2.2.2.2.2.2.2 w.heap.size w1 (hV.on hb1)
  have hiz : (bstr (Lib.itoa t)).size ≤ 21 := by rw [bstr_size]; exact Lib.itoa_length_le t hx.2.2.2.2.2.2.2.1 hx.2.2.2.2.2.2.2.2
  have PF : ∀ w1, Below w.heap.size w w1 → Calls Tryd.prog 29 #[.int .u64 v, .int .i64 10] w1 fun e w' => e = .returned (.string (bstr (Lib.decDigits v.toNat))) ∧ Below w1.heap.size w1 w' := fun w1 hb1 => by
    have hv : 0 ≤ v ∧ v < 18446744073709551616 := hx.2.2.2.2.2.2.1
    have := formatUint_any v.toNat (by omega) w.heap.size w1 (hV.on hb1)
    rwa [Int.toNat_of_nonneg hv.1] at this
  have hne := bstr_ne (name_ne (op := 2) (by omega) (by omega))
  obtain ⟨NM, hNM⟩ : ∃ NM, NM = nameL 2 := ⟨_, rfl⟩
  obtain ⟨U, hU⟩ : ∃ U, U = usesP ⟨2, dop, to, a, b, c, v, t⟩ := ⟨_, rfl⟩
  rw [← hNM] at PN hne
  rw [← hU] at PU HUf hl3
  have HU := Lib.hid HUf
  have HNM := Lib.hid hNM
  have HUU := Lib.hid hU
  clear HUf hNM hU
  simp only [setsB, jumpsB, goesB, countsB, Int.reduceBEq, Int.reduceBNe, Bool.or_true, Bool.true_or, Bool.or_false, Bool.false_or, if_true] at PD PJ PC
  have PO := fun w1 => operator_any dop w1
  rw [hSg] at PO
  go_enter Tryd.func18, Tryd.ntmps18
  go_wp2_with (first
    | (go_at_call 25; refine (PN _).mono ?_; rintro ed w2 ⟨rfl, hb2⟩; have T2 := (Tame.refl w.heap.size _).on hB1 hb2; have hB2 := Nat.le_trans hB1 hb2.size; have S3 := Strs.new (W := w2) (B := w.heap.size) NM hB2; have T3 := T2.alloc hB2 (.cells #[.string (bstr NM)] 9); have hB3 := Nat.le_trans hB1 T3.size; obtain ⟨x0, x1, x2, x3, x4, x5, x6, x7⟩ := code_cells (T3.2 _ _ _ _ (by decide) HB.out))
    | (go_at_call 9; refine (PD _).mono ?_; rintro ed w4 ⟨rfl, hb4⟩; have S4 := S3.on hb4; have T4 := T3.on hB3 hb4; have hB4 := Nat.le_trans hB3 hb4.size; obtain ⟨x0, x1, x2, x3, x4, x5, x6, x7⟩ := code_cells (T4.2 _ _ _ _ (by decide) HB.out))
    | (go_at_call 26; refine (PV to hto.1 hto.2 _ (hbx.trans T4.1)).mono ?_; rintro ed w5 ⟨rfl, hb5⟩)
    | (refine append_str (w0 := w.alloc (.cells #[.int .i64 2, .int .i64 dop, .int .i64 to, .int .i64 a, .int .i64 b, .int .i64 c, .int .u64 v, .int .i64 t] 26)) (vtext to) rfl _ _ rfl rfl rfl (S4.on hb5) (Nat.le_trans hB4 hb5.size) (T4.on hB4 hb5) (by simp) ?_; intro v6 w6 S6 T6; have hB6 : w.heap.size ≤ w6.heap.size := Nat.le_trans hB1 T6.size; obtain ⟨x0, x1, x2, x3, x4, x5, x6, x7⟩ := code_cells (T6.2 _ _ _ _ (by decide) HB.out))
    | (go_at_call 27; refine (PO _).mono ?_; rintro ed wo ⟨rfl, hwo⟩; obtain rfl := hwo.symm))
  go_wp2_with (go_at_call 13; refine (PU _).mono ?_; rintro ed wu ⟨vu, rfl, ho, hbu⟩; obtain ⟨ao, cap, rfl, hm, _⟩ := ho.form)
  have SU := S6.on hbu
  have TU := T6.on hB6 hbu
  have hBU : w.heap.size ≤ wu.heap.size := Nat.le_trans hB6 hbu.size
  go_loopw [4, 48] (fun y i wr => ∃ k : Nat, k ≤ U.length ∧ i = .int .i64 k ∧ Strs wr w.heap.size y (([NM] ++ [vtext to]) ++ (U.take k).map vtext) ∧ Tame w.heap.size wu wr) (fun _ i _ => U.length - (intOf i).toNat)
  case atStart => exact ⟨0, Nat.zero_le _, rfl, by simpa using SU, Tame.refl _ _⟩
  case round =>
    obtain ⟨k, hk, rfl, Sr, Tr⟩ := hrel
    have TR := TU.trans Tr
    have hBr := Nat.le_trans hBU Tr.size
    by_cases hlt : k < U.length
    · obtain ⟨z, hz⟩ : ∃ z, U[k]? = some z := ⟨U[k], by simp [hlt]⟩
      obtain ⟨g, rfl, hcz⟩ := ho.cell_tame Tr hz
      have PVz := fun w1 hb1 => PV z (HU.out z (List.mem_of_getElem? hz)).1 (HU.out z (List.mem_of_getElem? hz)).2 w1 hb1
      have HZ := Lib.hid hz
      clear hz
      have hln : (([NM] ++ [vtext to]) ++ (U.take k).map vtext).length ≤ 100 := by simp only [List.length_append, List.length_map, List.length_take, List.length_cons, List.length_nil]; omega
      have HL := Lib.hid hln
      clear hln
      go_wp2_with (first
        | (go_at_call 26; refine (PVz _ (hbx.trans TR.1)).mono ?_; rintro ed w7 ⟨rfl, hb7⟩)
        | (refine append_str (w0 := wu) (vtext z) rfl _ _ rfl rfl rfl (Sr.on hb7) (Nat.le_trans hBr hb7.size) (Tr.on hBr hb7) HL.out ?_; intro v8 w8 S8 T8))
      go_roundw
      case rel => exact ⟨k + 1, by omega, by go_num, by rw [take_snoc' HZ.out, List.map_append, ← List.append_assoc]; exact S8, T8⟩
      case measure => simp [intOf]; omega
    · have he : U.take k = U := List.take_of_length_le (by omega)
      rw [he] at Sr
      obtain ⟨x0, x1, x2, x3, x4, x5, x6, x7⟩ := code_cells (TR.2 _ _ _ _ (by decide) HB.out)
      have HLn : Hid ((([NM] ++ [vtext to])).length ≤ 100) := Lib.hid (by simp only [List.length_append, List.length_map, List.length_cons, List.length_nil]; omega)
      have hP : partsP ⟨2, dop, to, a, b, c, v, t⟩ = ([NM] ++ [vtext to]) ++ U.map vtext := by rw [HUU.out]; simp [partsP, ones, setsB, countsB, jumpsB, HNM.out, hSg]
      have HN0 : Hid (0 < (([NM] ++ [vtext to]) ++ U.map vtext).length) := Lib.hid (by simp)
      have HN1 : Hid ((([NM] ++ [vtext to]) ++ U.map vtext).length ≤ 100) := Lib.hid (by rw [← hP]; exact Nat.le_trans (parts_len _) (by decide))
      have HN2 : Hid (∀ q ∈ ([NM] ++ [vtext to]) ++ U.map vtext, q.length ≤ 22) := Lib.hid (by rw [← hP]; exact HPL)
      have HPE := Lib.hid hP
      clear hP
      go_wp2_with (first
        | (go_at_call 28; refine (PC _).mono ?_; rintro ed wc ⟨rfl, hwc⟩; obtain rfl := hwc.symm)
        | (go_at_call 10; refine (PJ _).mono ?_; rintro ed w11 ⟨rfl, hb11⟩; have S11 := Sr.on hb11; have T11 := TR.on hBr hb11; have hB11 := Nat.le_trans hBr hb11.size; obtain ⟨x0, x1, x2, x3, x4, x5, x6, x7⟩ := code_cells (T11.2 _ _ _ _ (by decide) HB.out))
        | (go_at_call 31; refine (join_any w.heap.size _ _ _ S11 HN0.out HN1.out HN2.out).mono ?_; rintro ed w14 ⟨rfl, hb14⟩))
      go_ret
      exact ⟨ret_str (by rw [htx, HPE.out]; simp), (hbx.trans T11.1).trans (hb14.mono hB11)⟩

set_option maxHeartbeats 4000000 in
set_option maxRecDepth 100000 in
theorem text_sign (n : Nat) (to a b c v t : Int) (w : World) (hV : Vars w.heap.size w) (hx : Cd.fits ⟨2, (n : Int), to, a, b, c, v, t⟩) (hn9 : n ≤ 9) (hSg : opB (n : Int) = true) :
    Calls Tryd.prog 18 #[.agg #[.int .i64 2, .int .i64 (n : Int), .int .i64 to, .int .i64 a, .int .i64 b, .int .i64 c, .int .u64 v, .int .i64 t]] w fun e w' => e = .returned (.string (bstr (textP ⟨2, (n : Int), to, a, b, c, v, t⟩))) ∧ Below w.heap.size w w' := by
  have hbx := (Below.refl w.heap.size w).alloc (Nat.le_refl _) (.cells #[.int .i64 2, .int .i64 (n : Int), .int .i64 to, .int .i64 a, .int .i64 b, .int .i64 c, .int .u64 v, .int .i64 t] 26)
  have hB1 : w.heap.size ≤ (w.alloc (.cells #[.int .i64 2, .int .i64 (n : Int), .int .i64 to, .int .i64 a, .int .i64 b, .int .i64 c, .int .u64 v, .int .i64 t] 26)).heap.size := by simp
  have HB := Lib.hid (show (w.alloc (.cells #[.int .i64 2, .int .i64 (n : Int), .int .i64 to, .int .i64 a, .int .i64 b, .int .i64 c, .int .u64 v, .int .i64 t] 26)).heap[w.heap.size]? = some (.cells #[.int .i64 2, .int .i64 (n : Int), .int .i64 to, .int .i64 a, .int .i64 b, .int .i64 c, .int .u64 v, .int .i64 t] 26 (0, 0)) by rw [alloc_at, if_pos rfl])
  have PV := fun (u : Int) h0 h1 w1 (hb1 : Below w.heap.size w w1) => value_any u h0 h1 w.heap.size w1 (hV.on hb1)
  have PN := fun w1 => name_any 2 w1
  have PD := fun w1 => defines_any ⟨2, (n : Int), to, a, b, c, v, t⟩ w1
  have PU := fun w1 => uses_any ⟨2, (n : Int), to, a, b, c, v, t⟩ w1
  have PC := fun w1 => counts_any 2 w1
  have PJ := fun w1 => jumps_any ⟨2, (n : Int), to, a, b, c, v, t⟩ w1
  have hl3 := uses_le3 ⟨2, (n : Int), to, a, b, c, v, t⟩
  have HPL := parts_le ⟨2, (n : Int), to, a, b, c, v, t⟩ hx
  have htx : textP ⟨2, (n : Int), to, a, b, c, v, t⟩ = Lib.join (partsP ⟨2, (n : Int), to, a, b, c, v, t⟩) [32] := by unfold textP; rw [if_neg (by simp only; omega)]
  have HUf := uses_fits hx
  have hto := hx.2.2.1
  have PI := fun w1 (hb1 : Below w.heap.size w w1) => itoa_any t hx.2.2.2.2.2.2.2.1 hx.2.2.2.2.2.2.2.2 w.heap.size w1 (hV.on hb1)
  have hiz : (bstr (Lib.itoa t)).size ≤ 21 := by rw [bstr_size]; exact Lib.itoa_length_le t hx.2.2.2.2.2.2.2.1 hx.2.2.2.2.2.2.2.2
  have PF : ∀ w1, Below w.heap.size w w1 → Calls Tryd.prog 29 #[.int .u64 v, .int .i64 10] w1 fun e w' => e = .returned (.string (bstr (Lib.decDigits v.toNat))) ∧ Below w1.heap.size w1 w' := fun w1 hb1 => by
    have hv : 0 ≤ v ∧ v < 18446744073709551616 := hx.2.2.2.2.2.2.1
    have := formatUint_any v.toNat (by omega) w.heap.size w1 (hV.on hb1)
    rwa [Int.toNat_of_nonneg hv.1] at this
  have hne := bstr_ne (name_ne (op := 2) (by omega) (by omega))
  obtain ⟨NM, hNM⟩ : ∃ NM, NM = nameL 2 := ⟨_, rfl⟩
  obtain ⟨U, hU⟩ : ∃ U, U = usesP ⟨2, (n : Int), to, a, b, c, v, t⟩ := ⟨_, rfl⟩
  rw [← hNM] at PN hne
  rw [← hU] at PU HUf hl3
  have HU := Lib.hid HUf
  have HNM := Lib.hid hNM
  have HUU := Lib.hid hU
  clear HUf hNM hU
  simp only [setsB, jumpsB, goesB, countsB, Int.reduceBEq, Int.reduceBNe, Bool.or_true, Bool.true_or, Bool.or_false, Bool.false_or, if_true] at PD PJ PC
  have PO := fun w1 => operator_any (n : Int) w1
  rw [hSg] at PO
  go_enter Tryd.func18, Tryd.ntmps18
  go_wp2_with (first
    | (go_at_call 25; refine (PN _).mono ?_; rintro ed w2 ⟨rfl, hb2⟩; have T2 := (Tame.refl w.heap.size _).on hB1 hb2; have hB2 := Nat.le_trans hB1 hb2.size; have S3 := Strs.new (W := w2) (B := w.heap.size) NM hB2; have T3 := T2.alloc hB2 (.cells #[.string (bstr NM)] 9); have hB3 := Nat.le_trans hB1 T3.size; obtain ⟨x0, x1, x2, x3, x4, x5, x6, x7⟩ := code_cells (T3.2 _ _ _ _ (by decide) HB.out))
    | (go_at_call 9; refine (PD _).mono ?_; rintro ed w4 ⟨rfl, hb4⟩; have S4 := S3.on hb4; have T4 := T3.on hB3 hb4; have hB4 := Nat.le_trans hB3 hb4.size; obtain ⟨x0, x1, x2, x3, x4, x5, x6, x7⟩ := code_cells (T4.2 _ _ _ _ (by decide) HB.out))
    | (go_at_call 26; refine (PV to hto.1 hto.2 _ (hbx.trans T4.1)).mono ?_; rintro ed w5 ⟨rfl, hb5⟩)
    | (refine append_str (w0 := w.alloc (.cells #[.int .i64 2, .int .i64 (n : Int), .int .i64 to, .int .i64 a, .int .i64 b, .int .i64 c, .int .u64 v, .int .i64 t] 26)) (vtext to) rfl _ _ rfl rfl rfl (S4.on hb5) (Nat.le_trans hB4 hb5.size) (T4.on hB4 hb5) (by simp) ?_; intro v6 w6 S6 T6; have hB6 : w.heap.size ≤ w6.heap.size := Nat.le_trans hB1 T6.size; obtain ⟨x0, x1, x2, x3, x4, x5, x6, x7⟩ := code_cells (T6.2 _ _ _ _ (by decide) HB.out))
    | (go_at_call 27; refine (PO _).mono ?_; rintro ed wo ⟨rfl, hwo⟩; obtain rfl := hwo.symm))
  have HB6 := Lib.hid (T6.2 _ _ _ _ (by decide) HB.out)
  have hn6 : ([NM] ++ [vtext to]).length ≤ 100 := by simp
  have hn10 : (n : Int) < 10 := by omega
  obtain ⟨l, hl⟩ : ∃ l, l = signL n := ⟨_, rfl⟩
  have HLL := Lib.hid hl
  clear hl
  obtain ⟨Post, hPost⟩ : ∃ Post : Value → World → Prop, Post = fun y wz => Strs wz w.heap.size y (([NM] ++ [vtext to]) ++ [l]) ∧ Tame w.heap.size w6 wz := ⟨_, rfl⟩
  refine wp_region_slots2 (by kernel_rfl) (by kernel_rfl) (by kernel_rfl) (by kernel_rfl) (signV v6 w.heap.size n l) (signInv w6 l Post) (0, 0, undef) ⟨fun _ => ⟨(Below.refl _ _).drew, (fun e => by cases e), (fun e => by cases e)⟩, fun e => by cases e⟩ ?_ ?_
  · intro L g ac wr i op hop hLi hpre hC hI hS hO K hK
    have s1 : ac.tmps[1]?.getD undef = .pointer (some ⟨w.heap.size, 0, none⟩) := (hS.old2 1 (by kernel_rfl)).trans rfl
    match i with
    | 0 =>
      simp only [List.getElem?_toArray, List.getElem?_cons_zero, List.getElem?_cons_succ, Option.some.injEq] at hop
      subst hop
      have no7 : L 7 = false := by cases h : L 7 with | false => rfl | true => exact absurd (hC.at 7 0 (by kernel_rfl) h) (by simp [hLi])
      have u := hI.1 no7
      have no8 : L 8 = false := by cases h : L 8 with | false => rfl | true => exact absurd (hC.at 7 0 (by kernel_rfl) (hC.at 8 7 (by kernel_rfl) h)) (by simp [hLi])
      have s4 : ac.tmps[4]?.getD undef = v6 := (hO.at 8 4 (by kernel_rfl) no8).trans rfl
      go_simp
      exact hK _ _ ⟨g, fun _ => rfl, fun _ _ _ => rfl, fun _ => ⟨u.1, fun e => u.2.1 (by simpa using e), fun e => u.2.2 (by simpa using e)⟩, fun e => by simp only [show ¬ (7 = 0) by decide, if_false, no7] at e; cases e⟩
    | 1 =>
      simp only [List.getElem?_toArray, List.getElem?_cons_zero, List.getElem?_cons_succ, Option.some.injEq] at hop
      subst hop
      have no7 : L 7 = false := by cases h : L 7 with | false => rfl | true => exact absurd (hC.at 4 1 (by kernel_rfl) (hC.at 5 4 (by kernel_rfl) (hC.at 6 5 (by kernel_rfl) (hC.at 7 6 (by kernel_rfl) h)))) (by simp [hLi])
      have u := hI.1 no7
      go_simp
      go_at_call 20
      refine (signs_any wr).mono ?_
      rintro ed w5 ⟨g5, rfl, hs5, hb5⟩
      go_simp
      refine hK _ _ ⟨(g5, g.2.1, g.2.2), fun _ => rfl, fun j hj hLj => ?_, fun _ => ⟨u.1.trans (hb5.mono u.1.size), fun _ => hs5, fun e => (u.2.2 (by simpa using e)).on hb5⟩, fun e => by simp only [show ¬ (7 = 1) by decide, if_false, no7] at e; cases e⟩
      unfold signV
      split <;> first | rfl | exact absurd rfl hj | exact absurd (hC.at 4 1 (by kernel_rfl) hLj) (by simp [hLi])
    | 2 =>
      simp only [List.getElem?_toArray, List.getElem?_cons_zero, List.getElem?_cons_succ, Option.some.injEq] at hop
      subst hop
      have no7 : L 7 = false := by cases h : L 7 with | false => rfl | true => exact absurd (hC.at 3 2 (by kernel_rfl) (hC.at 4 3 (by kernel_rfl) (hC.at 5 4 (by kernel_rfl) (hC.at 6 5 (by kernel_rfl) (hC.at 7 6 (by kernel_rfl) h))))) (by simp [hLi])
      have u := hI.1 no7
      go_simp
      exact hK _ _ ⟨g, fun _ => rfl, fun _ _ _ => rfl, fun _ => ⟨u.1, fun e => u.2.1 (by simpa using e), fun e => u.2.2 (by simpa using e)⟩, fun e => by simp only [show ¬ (7 = 2) by decide, if_false, no7] at e; cases e⟩
    | 3 =>
      simp only [List.getElem?_toArray, List.getElem?_cons_zero, List.getElem?_cons_succ, Option.some.injEq] at hop
      subst hop
      have no7 : L 7 = false := by cases h : L 7 with | false => rfl | true => exact absurd (hC.at 4 3 (by kernel_rfl) (hC.at 5 4 (by kernel_rfl) (hC.at 6 5 (by kernel_rfl) (hC.at 7 6 (by kernel_rfl) h)))) (by simp [hLi])
      have u := hI.1 no7
      have n2 := hS.new2 2 39 (by kernel_rfl) (pre_at hpre 2 (by kernel_rfl)) (show 39 < 82 by decide)
      simp only [signV] at n2
      obtain ⟨x0, x1, x2, x3, x4, x5, x6, x7⟩ := code_cells (keepB u.1 HB6.out)
      go_simp
      exact hK _ _ ⟨g, fun _ => rfl, fun _ _ _ => rfl, fun _ => ⟨u.1, fun e => u.2.1 (by simpa using e), fun e => u.2.2 (by simpa using e)⟩, fun e => by simp only [show ¬ (7 = 3) by decide, if_false, no7] at e; cases e⟩
    | 4 =>
      simp only [List.getElem?_toArray, List.getElem?_cons_zero, List.getElem?_cons_succ, Option.some.injEq] at hop
      subst hop
      have no7 : L 7 = false := by cases h : L 7 with | false => rfl | true => exact absurd (hC.at 5 4 (by kernel_rfl) (hC.at 6 5 (by kernel_rfl) (hC.at 7 6 (by kernel_rfl) h))) (by simp [hLi])
      have u := hI.1 no7
      have n1 := hS.new2 1 38 (by kernel_rfl) (pre_at hpre 1 (by kernel_rfl)) (show 38 < 82 by decide)
      simp only [signV] at n1
      have n3 := hS.new2 3 40 (by kernel_rfl) (pre_at hpre 3 (by kernel_rfl)) (show 40 < 82 by decide)
      simp only [signV] at n3
      go_simp
      exact hK _ _ ⟨g, fun _ => rfl, fun _ _ _ => rfl, fun _ => ⟨u.1, fun e => u.2.1 (by simpa using e), fun e => u.2.2 (by simpa using e)⟩, fun e => by simp only [show ¬ (7 = 4) by decide, if_false, no7] at e; cases e⟩
    | 5 =>
      simp only [List.getElem?_toArray, List.getElem?_cons_zero, List.getElem?_cons_succ, Option.some.injEq] at hop
      subst hop
      have no7 : L 7 = false := by cases h : L 7 with | false => rfl | true => exact absurd (hC.at 6 5 (by kernel_rfl) (hC.at 7 6 (by kernel_rfl) h)) (by simp [hLi])
      have u := hI.1 no7
      have n4 := hS.new2 4 41 (by kernel_rfl) (pre_at hpre 4 (by kernel_rfl)) (show 41 < 82 by decide)
      simp only [signV] at n4
      have hcl := (u.2.1 (hC.at 4 1 (by kernel_rfl) (pre_at hpre 4 (by kernel_rfl)))).cell hn9
      rw [← HLL.out] at hcl
      go_simp
      exact hK _ _ ⟨g, fun _ => rfl, fun _ _ _ => rfl, fun _ => ⟨u.1, fun e => u.2.1 (by simpa using e), fun e => u.2.2 (by simpa using e)⟩, fun e => by simp only [show ¬ (7 = 5) by decide, if_false, no7] at e; cases e⟩
    | 6 =>
      simp only [List.getElem?_toArray, List.getElem?_cons_zero, List.getElem?_cons_succ, Option.some.injEq] at hop
      subst hop
      have no7 : L 7 = false := by cases h : L 7 with | false => rfl | true => exact absurd (hC.at 7 6 (by kernel_rfl) h) (by simp [hLi])
      have u := hI.1 no7
      have n5 := hS.new2 5 42 (by kernel_rfl) (pre_at hpre 5 (by kernel_rfl)) (show 42 < 82 by decide)
      simp only [signV] at n5
      go_simp
      refine hK _ _ ⟨(g.1, wr.heap.size, g.2.2), fun _ => rfl, fun j hj hLj => ?_, fun _ => ⟨u.1.alloc u.1.size _, fun e => (u.2.1 (by simpa using e)).on ((Below.refl _ _).alloc (Nat.le_refl _) _), fun _ => by unfold OneS; rw [alloc_at, if_pos rfl]⟩, fun e => by simp only [show ¬ (7 = 6) by decide, if_false, no7] at e; cases e⟩
      unfold signV
      split <;> first | rfl | exact absurd rfl hj
    | 7 =>
      simp only [List.getElem?_toArray, List.getElem?_cons_zero, List.getElem?_cons_succ, Option.some.injEq] at hop
      subst hop
      have u := hI.1 hLi
      have n0 := hS.new2 0 37 (by kernel_rfl) (pre_at hpre 0 (by kernel_rfl)) (show 37 < 82 by decide)
      simp only [signV] at n0
      have n6 := hS.new2 6 43 (by kernel_rfl) (pre_at hpre 6 (by kernel_rfl)) (show 43 < 82 by decide)
      simp only [signV] at n6
      have h1 := u.2.2 (pre_at hpre 6 (by kernel_rfl))
      refine append_one (.tmp 37) (.tmp 43) rfl (ev n0) (ev n6) (S6.on u.1) h1 (Nat.le_trans hB6 u.1.size) hn6 ?_
      intro v8 w8 S8 T8
      refine hK _ _ ⟨(g.1, g.2.1, v8), fun _ => rfl, fun j hj hLj => ?_, (fun e => by simp at e), fun _ => by rw [hPost]; exact ⟨S8, (Tame.of u.1 hB6).trans T8⟩⟩
      unfold signV
      split <;> first | rfl | exact absurd rfl hj | exact absurd (hC.at 8 7 (by kernel_rfl) hLj) (by simp [hLi])
    | 8 =>
      simp only [List.getElem?_toArray, List.getElem?_cons_zero, List.getElem?_cons_succ, Option.some.injEq] at hop
      subst hop
      have h7 := pre_at hpre 7 (by kernel_rfl)
      have u := hI.2 h7
      have n7 := hS.new2 7 44 (by kernel_rfl) (pre_at hpre 7 (by kernel_rfl)) (show 44 < 82 by decide)
      simp only [signV] at n7
      go_simp
      exact hK _ _ ⟨g, fun _ => rfl, fun _ _ _ => rfl, ⟨fun e => absurd ((show L 7 = false from e).symm.trans h7) (by decide), fun _ => u⟩⟩
    | _ + 9 => simp at hop
  · intro L g wz hL hI
    have hP := hI.2 (hL 7 (by decide))
    clear hI
    obtain ⟨g1, g2, v8⟩ := g
    refine at_all (prs [37, 38, 39, 40, 41, 42, 43, 44, 4] (signV v6 w.heap.size n l (g1, g2, v8))) (fun t => by kernel_rfl) ?_
    simp only [prs, List.zipIdx, List.map, List.foldl, Nat.zero_add, Nat.reduceAdd, List.setIfInBounds_toArray, List.set_cons_zero, List.set_cons_succ, signV]
    rw [hPost] at hP
    obtain ⟨S8, T8z⟩ := hP
    simp only at S8 T8z
    have T8 := T6.trans T8z
    have hB8 := Nat.le_trans hB6 T8z.size
    obtain ⟨x0, x1, x2, x3, x4, x5, x6, x7⟩ := code_cells (T8.2 _ _ _ _ (by decide) HB.out)
    go_wp2_with (go_at_call 13; refine (PU _).mono ?_; rintro ed wu ⟨vu, rfl, ho, hbu⟩; obtain ⟨ao, cap, rfl, hm, _⟩ := ho.form)
    have SU := S8.on hbu
    have TU := T8.on hB8 hbu
    have hBU : w.heap.size ≤ wu.heap.size := Nat.le_trans hB8 hbu.size
    go_loopw [4, 48] (fun y i wr => ∃ k : Nat, k ≤ U.length ∧ i = .int .i64 k ∧ Strs wr w.heap.size y (([NM] ++ [vtext to] ++ [l]) ++ (U.take k).map vtext) ∧ Tame w.heap.size wu wr) (fun _ i _ => U.length - (intOf i).toNat)
    case atStart => exact ⟨0, Nat.zero_le _, rfl, by simpa using SU, Tame.refl _ _⟩
    case round =>
      obtain ⟨k, hk, rfl, Sr, Tr⟩ := hrel
      have TR := TU.trans Tr
      have hBr := Nat.le_trans hBU Tr.size
      by_cases hlt : k < U.length
      · obtain ⟨z, hz⟩ : ∃ z, U[k]? = some z := ⟨U[k], by simp [hlt]⟩
        obtain ⟨g, rfl, hcz⟩ := ho.cell_tame Tr hz
        have PVz := fun w1 hb1 => PV z (HU.out z (List.mem_of_getElem? hz)).1 (HU.out z (List.mem_of_getElem? hz)).2 w1 hb1
        have HZ := Lib.hid hz
        clear hz
        have hln : (([NM] ++ [vtext to] ++ [l]) ++ (U.take k).map vtext).length ≤ 100 := by simp only [List.length_append, List.length_map, List.length_take, List.length_cons, List.length_nil]; omega
        have HL := Lib.hid hln
        clear hln
        go_wp2_with (first
          | (go_at_call 26; refine (PVz _ (hbx.trans TR.1)).mono ?_; rintro ed w7 ⟨rfl, hb7⟩)
          | (refine append_str (w0 := wu) (vtext z) rfl _ _ rfl rfl rfl (Sr.on hb7) (Nat.le_trans hBr hb7.size) (Tr.on hBr hb7) HL.out ?_; intro v8 w8 S8 T8))
        go_roundw
        case rel => exact ⟨k + 1, by omega, by go_num, by rw [take_snoc' HZ.out, List.map_append, ← List.append_assoc]; exact S8, T8⟩
        case measure => simp [intOf]; omega
      · have he : U.take k = U := List.take_of_length_le (by omega)
        rw [he] at Sr
        obtain ⟨x0, x1, x2, x3, x4, x5, x6, x7⟩ := code_cells (TR.2 _ _ _ _ (by decide) HB.out)
        have HLn : Hid ((([NM] ++ [vtext to] ++ [l])).length ≤ 100) := Lib.hid (by simp only [List.length_append, List.length_map, List.length_cons, List.length_nil]; omega)
        have hP : partsP ⟨2, (n : Int), to, a, b, c, v, t⟩ = ([NM] ++ [vtext to] ++ [l]) ++ U.map vtext := by rw [HUU.out]; simp [partsP, ones, setsB, countsB, jumpsB, HLL.out, HNM.out, hSg]
        have HN0 : Hid (0 < (([NM] ++ [vtext to] ++ [l]) ++ U.map vtext).length) := Lib.hid (by simp)
        have HN1 : Hid ((([NM] ++ [vtext to] ++ [l]) ++ U.map vtext).length ≤ 100) := Lib.hid (by rw [← hP]; exact Nat.le_trans (parts_len _) (by decide))
        have HN2 : Hid (∀ q ∈ ([NM] ++ [vtext to] ++ [l]) ++ U.map vtext, q.length ≤ 22) := Lib.hid (by rw [← hP]; exact HPL)
        have HPE := Lib.hid hP
        clear hP
        go_wp2_with (first
          | (go_at_call 28; refine (PC _).mono ?_; rintro ed wc ⟨rfl, hwc⟩; obtain rfl := hwc.symm)
          | (go_at_call 10; refine (PJ _).mono ?_; rintro ed w11 ⟨rfl, hb11⟩; have S11 := Sr.on hb11; have T11 := TR.on hBr hb11; have hB11 := Nat.le_trans hBr hb11.size; obtain ⟨x0, x1, x2, x3, x4, x5, x6, x7⟩ := code_cells (T11.2 _ _ _ _ (by decide) HB.out))
          | (go_at_call 31; refine (join_any w.heap.size _ _ _ S11 HN0.out HN1.out HN2.out).mono ?_; rintro ed w14 ⟨rfl, hb14⟩))
        go_ret
        exact ⟨ret_str (by rw [htx, HPE.out]; simp), (hbx.trans T11.1).trans (hb14.mono hB11)⟩

end Go.Proofs.YtjiecfagblijhaaDoor.Cd
