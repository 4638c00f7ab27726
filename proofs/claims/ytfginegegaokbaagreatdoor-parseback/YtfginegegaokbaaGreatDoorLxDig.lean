/- What lex's readDigits answers when it is called. Conditions: a digit stands at the place; the text has at most 65536 bytes; the package variables hold what their initialisers lay. -/
import Derived.Test.YtfginegegaokbaaGreatDoorLxNum2
import Derived.Test.YtfginegegaokbaaGreatDoorErrAs2
import Derived.Test.YtfginegegaokbaaGreatDoorLxAsk
import Derived.Laws.Strings2
namespace Go.Proofs.YtfginegegaokbaaGreatDoor.Lx
open Go.ChangeShapes Go.WideShapes Go.ChangeAt Go.RowKit

/-- What the package variables hold that are read. -/
def Vars (w : World) : Prop := TypeVar w ∧ ∃ te pe, w.cell? ⟨3, 0, none⟩ = some (.iface te pe)
theorem Vars.lt {w : World} (h : Vars w) : 3 < w.heap.size := by
  obtain ⟨_, te, pe, hv⟩ := h
  exact lt_of_cell (t := ⟨3, 0, none⟩) hv
theorem Vars.grown {w w' : World} {B : Nat} (h : Vars w) (hb : Below B w w') (hB : 3 < B) : Vars w' := by
  obtain ⟨h1, te, pe, hv⟩ := h
  refine ⟨?_, te, pe, (hb.cell (p := ⟨3, 0, none⟩) hB).trans hv⟩
  unfold TypeVar at *
  exact (hb.cell (p := ⟨0, 0, none⟩) (by show 0 < B; omega)).trans h1
theorem Vars.alloc {w : World} (h : Vars w) (o : Obj) : Vars (w.alloc o) := h.grown ((Below.refl w.heap.size w).alloc (Nat.le_refl _) o) h.lt

def Tok.agg (t : Tok) : Value := .agg #[.int .i64 t.kind, .string (bstr t.text), .int .u64 t.value, .int .i64 t.at_]
def noTok : Value := .agg #[.int .i64 0, .string ⟨#[]⟩, .int .u64 0, .int .i64 0]
def tokOut : Option Tok → Value
  | some t => .tuple #[t.agg, .bool true]
  | none => .tuple #[noTok, .bool false]

theorem four_cell2 {w : World} {b : Nat} {x0 x1 x2 x3 : Value} {t : TypeId} (h : w.heap[b]? = some (.cells #[x0, x1, x2, x3] t (0, 0))) : w.cell? ⟨b, 2, none⟩ = some x2 := by simp [World.cell?, h]

theorem runDigit_at (s : ByteArray) (k m : Nat) (w : World) (hs : s.size ≤ 65536) (h0 : k ≤ s.size) (hm : Hid (k + lead digitB ((bys s).drop k) = m)) :
    Calls Tryz.prog 62 #[.string s, .int .i64 k, .func (.func 65) #[] #[]] w fun e w' => e = .returned (.int .i64 (m : Int)) ∧ w' = w := hm.out ▸ runDigit s k w hs h0
theorem runWord_at (s : ByteArray) (k m : Nat) (w : World) (hs : s.size ≤ 65536) (h0 : k ≤ s.size) (hm : Hid (k + lead wordB ((bys s).drop k) = m)) :
    Calls Tryz.prog 62 #[.string s, .int .i64 k, .func (.func 63) #[] #[]] w fun e w' => e = .returned (.int .i64 (m : Int)) ∧ w' = w := hm.out ▸ runWord s k w hs h0

theorem starts_letter {s : ByteArray} {m : Nat} (h : m < s.size) : startsLetter ((bys s).drop m) = letterB (num s[m]) := by rw [drop_cons s m h]; rfl
theorem starts_end {s : ByteArray} {m : Nat} (h : ¬ m < s.size) : startsLetter ((bys s).drop m) = false := by rw [drop_all s m h]; rfl

/-- A piece of a string, cut. -/
theorem cut_at {s t : ByteArray} {k m : Nat} (h1 : k ≤ m) (h2 : m ≤ s.size) (h : s.extract k m = t) (W : World) :
    (Instr.slice 9 (.string s) (some (.int .i64 (k : Int))) (some (.int .i64 (m : Int))) none).run Tryz.prog W = .ok (.string t) W := by
  rw [run_slice_string W 9 s .i64 .i64 (k : Int) (m : Int) Tryz.underlying9 (by omega) (by omega) (by omega), ← h]
  simp
/-- A new block of a token's four cells stays as it was. -/
theorem kept {w w1 : World} (hb : Below (w.alloc (.cells #[.int .i64 0, .string ⟨#[]⟩, .int .u64 0, .int .i64 0] 48)).heap.size (w.alloc (.cells #[.int .i64 0, .string ⟨#[]⟩, .int .u64 0, .int .i64 0] 48)) w1) :
    w1.cell? ⟨w.heap.size, 0, none⟩ = some (.int .i64 0) ∧ w1.cell? ⟨w.heap.size, 1, none⟩ = some (.string ⟨#[]⟩) ∧ w1.cell? ⟨w.heap.size, 2, none⟩ = some (.int .u64 0) ∧ w1.cell? ⟨w.heap.size, 3, none⟩ = some (.int .i64 0) ∧
    w1.frozen? ⟨w.heap.size, 0, none⟩ = false ∧ w1.frozen? ⟨w.heap.size, 1, none⟩ = false ∧ w1.frozen? ⟨w.heap.size, 2, none⟩ = false ∧ w1.frozen? ⟨w.heap.size, 3, none⟩ = false ∧ Hid (w1.heap[w.heap.size]? = some (.cells #[.int .i64 0, .string ⟨#[]⟩, .int .u64 0, .int .i64 0] 48 (0, 0))) := by
  have h : w1.heap[w.heap.size]? = some (.cells #[.int .i64 0, .string ⟨#[]⟩, .int .u64 0, .int .i64 0] 48 (0, 0)) := by
    rw [hb.block _ (by simp)]; exact heap_alloc_new w _
  exact ⟨four_cell0 h, four_cell1 h, four_cell2 h, four_cell3 h, four_free h 0, four_free h 1, four_free h 2, four_free h 3, h⟩
theorem four_set2 {w : World} {b : Nat} {x0 x1 x2 x3 : Value} {t : TypeId} (h : w.heap[b]? = some (.cells #[x0, x1, x2, x3] t (0, 0))) (u : Value) : (w.setCell ⟨b, 2, none⟩ u).heap[b]? = some (.cells #[x0, x1, u, x3] t (0, 0)) := by
  have hlt := lt_of_block h
  have h' : w.heap[b] = .cells #[x0, x1, x2, x3] t (0, 0) := by simpa [Array.getElem?_eq_getElem hlt] using h
  show (w.heap.modify b _)[b]? = _
  rw [Array.getElem?_eq_getElem (by simpa using hlt), Array.getElem_modify_self, h']
  rfl
/-- A token stored. -/
theorem four_all {w : World} {b : Nat} {x0 x1 x2 x3 : Value} {t : TypeId} (h : w.heap[b]? = some (.cells #[x0, x1, x2, x3] t (0, 0))) (u0 u1 u2 u3 : Value) :
    ((((w.setCell ⟨b, 0, none⟩ u0).setCell ⟨b, 1, none⟩ u1).setCell ⟨b, 2, none⟩ u2).setCell ⟨b, 3, none⟩ u3).heap[b]? = some (.cells #[u0, u1, u2, u3] t (0, 0)) :=
  four_set3 (four_set2 (four_set1 (four_set0 h u0) u1) u2) u3
theorem stored_below {w w1 : World} {o : Obj} (hb : Below (w.alloc o).heap.size (w.alloc o) w1) (u0 u1 u2 u3 : Value) :
    Below w.heap.size w ((((w1.setCell ⟨w.heap.size, 0, none⟩ u0).setCell ⟨w.heap.size, 1, none⟩ u1).setCell ⟨w.heap.size, 2, none⟩ u2).setCell ⟨w.heap.size, 3, none⟩ u3) :=
  ((((((Below.refl _ w).alloc (Nat.le_refl _) o).trans (hb.mono (by simp))).setCell (Nat.le_refl _) _).setCell (Nat.le_refl _) _).setCell (Nat.le_refl _) _).setCell (Nat.le_refl _) _
set_option maxRecDepth 100000 in
set_option maxHeartbeats 4000000 in
theorem readDigits_any (s : ByteArray) (k : Nat) (w : World) (hs : s.size ≤ 65536) (hk : k < s.size) (hd : digitB (num s[k]) = true) (hV : Vars w) :
    Calls Tryz.prog 66 #[.string s, .int .i64 k] w fun e w' => e = .returned (tokOut (digitTok ((bys s).drop k) k)) ∧ Below w.heap.size w w' := by
  obtain ⟨m, hm⟩ : ∃ m, k + lead digitB ((bys s).drop k) = m := ⟨_, rfl⟩
  have hl := lead_le digitB ((bys s).drop k)
  rw [List.length_drop, bys_length] at hl
  have hpos : k < m := by
    rw [← hm, drop_cons s k hk, lead_yes hd]; omega
  have hms : m ≤ s.size := by omega
  have hdrop : ((bys s).drop k).drop (lead digitB ((bys s).drop k)) = (bys s).drop m := by rw [List.drop_drop, hm]
  have hall := lead_all digitB ((bys s).drop k)
  have hx : s.extract k m = bstr (((bys s).drop k).take (lead digitB ((bys s).drop k))) := by rw [extract_bstr, ← hm]; congr 2; omega
  have hsz : (s.extract k m).size = m - k := by rw [hx, bstr_size, List.length_take, List.length_drop, bys_length]; omega
  have HT : Hid (digitTok ((bys s).drop k) k = if startsLetter ((bys s).drop m) then none else match numFrom 0 (bys (s.extract k m)) with | some v => some ⟨3, bys (s.extract k m), v, k⟩ | none => none) := by
    show _ = _
    unfold digitTok
    rw [hdrop, hx, bys_bstr]
    rfl
  have hdig : ∀ c ∈ bys (s.extract k m), digitB (num c) = true := by rw [hx, bys_bstr]; exact hall
  have HM : Hid (k + lead digitB ((bys s).drop k) = m) := hm
  obtain ⟨t, ht⟩ : ∃ t, t = s.extract k m := ⟨_, rfl⟩
  rw [← ht] at hsz HT hdig
  have hV1 := hV.alloc (.cells #[.int .i64 0, .string ⟨#[]⟩, .int .u64 0, .int .i64 0] 48)
  obtain ⟨_, te, pe, hv⟩ := hV1
  have hcut := cut_at (Nat.le_of_lt hpos) hms ht.symm
  clear hm hl hdrop hall hx ht hd
  by_cases hlm : m < s.size
  · have hsl := starts_letter hlm
    unfold num at hsl
    cases hc : letterB (s[m].toNat : Int)
    · rw [hsl, hc] at HT
      clear hsl
      cases hn : numFrom 0 (bys t) with
      | none =>
        rw [hn] at HT
        have HN : Hid (numFrom 0 (bys t) = none) := hn
        clear hn
        go_enter Tryz.func66, Tryz.ntmps66
        go_wp2_with (first | (go_at_call 62; refine (runDigit_at s k m _ hs (by omega) HM).mono ?_; rintro e w' ⟨rfl, rfl⟩) | (go_at_call 61; refine (lexLetter _ _).mono ?_; rintro e w' ⟨rfl, rfl⟩) | (go_at_call 90; refine (parse_none t te pe (by omega) (by omega) hdig HN _ (by exact hv)).mono ?_; rintro e w1 ⟨a, mm, rfl, hb1⟩; obtain ⟨c0, c1, c2, c3, f0, f1, f2, f3, HK⟩ := kept hb1))
        have hW := four_all HK.out (.int .i64 0) (.string ⟨#[]⟩) (.int .u64 0) (.int .i64 0)
        have hB := stored_below hb1 (.int .i64 0) (.string ⟨#[]⟩) (.int .u64 0) (.int .i64 0)
        exact bodyPost_ret (v := .tuple #[noTok, .bool false]) (by simp [results, Tryz.results66, go_sem, noTok, four_cell0 hW, four_cell1 hW, four_cell2 hW, four_cell3 hW]) rfl ⟨by rw [HT.out]; rfl, hB⟩
      | some v =>
        rw [hn] at HT
        have HN : Hid (numFrom 0 (bys t) = some v) := hn
        clear hn
        go_enter Tryz.func66, Tryz.ntmps66
        go_wp2_with (first | (go_at_call 62; refine (runDigit_at s k m _ hs (by omega) HM).mono ?_; rintro e w' ⟨rfl, rfl⟩) | (go_at_call 61; refine (lexLetter _ _).mono ?_; rintro e w' ⟨rfl, rfl⟩) | (go_at_call 90; refine (parse_some t v (by omega) (by omega) hdig HN _).mono ?_; rintro e w1 ⟨rfl, hb1⟩; obtain ⟨c0, c1, c2, c3, f0, f1, f2, f3, HK⟩ := kept hb1))
        have hW := four_all HK.out (.int .i64 3) (.string t) (.int .u64 v) (.int .i64 k)
        have hB := stored_below hb1 (.int .i64 3) (.string t) (.int .u64 v) (.int .i64 k)
        exact bodyPost_ret (v := .tuple #[.agg #[.int .i64 3, .string t, .int .u64 v, .int .i64 k], .bool true]) (by simp [results, Tryz.results66, go_sem, four_cell0 hW, four_cell1 hW, four_cell2 hW, four_cell3 hW]) rfl ⟨by rw [HT.out, ← bstr_bys t, bys_bstr]; rfl, hB⟩
    · rw [hsl, hc] at HT
      clear hsl
      go_enter Tryz.func66, Tryz.ntmps66
      go_wp2_with (first | (go_at_call 62; refine (runDigit_at s k m _ hs (by omega) HM).mono ?_; rintro e w' ⟨rfl, rfl⟩) | (go_at_call 61; refine (lexLetter _ _).mono ?_; rintro e w' ⟨rfl, rfl⟩))
      exact bodyPost_ret (v := .tuple #[noTok, .bool false]) (by simp [results, Tryz.results66, go_sem, noTok]) rfl ⟨by rw [HT.out]; rfl, (Below.refl _ w).alloc (Nat.le_refl _) _⟩
  · rw [starts_end hlm] at HT
    cases hn : numFrom 0 (bys t) with
    | none =>
      rw [hn] at HT
      have HN : Hid (numFrom 0 (bys t) = none) := hn
      clear hn
      go_enter Tryz.func66, Tryz.ntmps66
      go_wp2_with (first | (go_at_call 62; refine (runDigit_at s k m _ hs (by omega) HM).mono ?_; rintro e w' ⟨rfl, rfl⟩) | (go_at_call 61; refine (lexLetter _ _).mono ?_; rintro e w' ⟨rfl, rfl⟩) | (go_at_call 90; refine (parse_none t te pe (by omega) (by omega) hdig HN _ (by exact hv)).mono ?_; rintro e w1 ⟨a, mm, rfl, hb1⟩; obtain ⟨c0, c1, c2, c3, f0, f1, f2, f3, HK⟩ := kept hb1))
      have hW := four_all HK.out (.int .i64 0) (.string ⟨#[]⟩) (.int .u64 0) (.int .i64 0)
      have hB := stored_below hb1 (.int .i64 0) (.string ⟨#[]⟩) (.int .u64 0) (.int .i64 0)
      exact bodyPost_ret (v := .tuple #[noTok, .bool false]) (by simp [results, Tryz.results66, go_sem, noTok, four_cell0 hW, four_cell1 hW, four_cell2 hW, four_cell3 hW]) rfl ⟨by rw [HT.out]; rfl, hB⟩
    | some v =>
      rw [hn] at HT
      have HN : Hid (numFrom 0 (bys t) = some v) := hn
      clear hn
      go_enter Tryz.func66, Tryz.ntmps66
      go_wp2_with (first | (go_at_call 62; refine (runDigit_at s k m _ hs (by omega) HM).mono ?_; rintro e w' ⟨rfl, rfl⟩) | (go_at_call 61; refine (lexLetter _ _).mono ?_; rintro e w' ⟨rfl, rfl⟩) | (go_at_call 90; refine (parse_some t v (by omega) (by omega) hdig HN _).mono ?_; rintro e w1 ⟨rfl, hb1⟩; obtain ⟨c0, c1, c2, c3, f0, f1, f2, f3, HK⟩ := kept hb1))
      have hW := four_all HK.out (.int .i64 3) (.string t) (.int .u64 v) (.int .i64 k)
      have hB := stored_below hb1 (.int .i64 3) (.string t) (.int .u64 v) (.int .i64 k)
      exact bodyPost_ret (v := .tuple #[.agg #[.int .i64 3, .string t, .int .u64 v, .int .i64 k], .bool true]) (by simp [results, Tryz.results66, go_sem, four_cell0 hW, four_cell1 hW, four_cell2 hW, four_cell3 hW]) rfl ⟨by rw [HT.out, ← bstr_bys t, bys_bstr]; rfl, hB⟩
end Go.Proofs.YtfginegegaokbaaGreatDoor.Lx
