/- The walk of TreeExpr: on every input it returns true. Conditions: the table of powers holds what its initialiser lays. -/
import Derived.Test.YtlfiicfkjlobhaaDoorWHelp
import Derived.Test.YtlfiicfkjlobhaaDoorWExprR
import Derived.Lib.QuietBelow
import Derived.BigQuiet
namespace Go.Proofs.YtlfiicfkjlobhaaDoor
open Go.ChangeShapes Go.WideShapes Go.ChangeAt Go.RowKit
set_option linter.unusedVariables false
set_option linter.unusedSimpArgs false

theorem tight_at (o : Nat) (ho : o ≤ 9) : ((⟨#[54, 54, 55, 52, 49, 50, 53, 53, 51, 51]⟩ : ByteArray).data.toList.getD o 0).toNat = 48 + tightN o := by
  rcases op_cases o with h | h | h | h | h | h | h | h | h | h | h
  case inr.inr.inr.inr.inr.inr.inr.inr.inr.inr => omega
  all_goals (obtain rfl : o = _ := Int.ofNat.inj h; rfl)

@[reducible] def boxT (t : Tree) (kv : Value) : Obj := .cells #[.int .i64 t.kind, .int .i64 t.op, .string t.name, .int .u64 t.value, kv, .int .i64 t.at_] 35
@[reducible] def signCells : Array Value := #[.string ⟨#[43]⟩, .string ⟨#[45]⟩, .string ⟨#[42]⟩, .string ⟨#[38]⟩, .string ⟨#[124]⟩, .string ⟨#[94]⟩, .string ⟨#[60, 60]⟩, .string ⟨#[62, 62]⟩, .string ⟨#[61, 61]⟩, .string ⟨#[60]⟩]
@[reducible] def exprW (w3 : World) (ta tb : Tree) (ka kb : Value) (o : Nat) : World :=
  ((((w3.alloc (boxT ta ka)).alloc (boxT tb kb)).alloc (.cells #[.int .i64 ta.kind, .int .i64 ta.op, .string ta.name, .int .u64 ta.value, ka, .int .i64 ta.at_, .int .i64 tb.kind, .int .i64 tb.op, .string tb.name, .int .u64 tb.value, kb, .int .i64 tb.at_] 35)).alloc (.cells #[.int .i64 3, .int .i64 (o : Int), .string ⟨#[]⟩, .int .u64 0, .slice (some ⟨w3.heap.size + 1 + 1, 0, none⟩) 2 2, .int .i64 0] 35)).alloc (.cells signCells 9)
theorem exprW_a (w3 : World) (ta tb : Tree) (ka kb : Value) (o : Nat) : (exprW w3 ta tb ka kb o).heap[w3.heap.size]? = some (.cells #[.int .i64 ta.kind, .int .i64 ta.op, .string ta.name, .int .u64 ta.value, ka, .int .i64 ta.at_] 35 (0, 0)) := by
  simp only [exprW, alloc_at, alloc_size]
  (repeat rw [if_neg (by omega)])
  first | rfl | simp
theorem exprW_b (w3 : World) (ta tb : Tree) (ka kb : Value) (o : Nat) : (exprW w3 ta tb ka kb o).heap[w3.heap.size + 1]? = some (.cells #[.int .i64 tb.kind, .int .i64 tb.op, .string tb.name, .int .u64 tb.value, kb, .int .i64 tb.at_] 35 (0, 0)) := by
  simp only [exprW, alloc_at, alloc_size]; simp
theorem exprW_k (w3 : World) (ta tb : Tree) (ka kb : Value) (o : Nat) : (exprW w3 ta tb ka kb o).heap[w3.heap.size + 1 + 1]? = some (.cells #[.int .i64 ta.kind, .int .i64 ta.op, .string ta.name, .int .u64 ta.value, ka, .int .i64 ta.at_, .int .i64 tb.kind, .int .i64 tb.op, .string tb.name, .int .u64 tb.value, kb, .int .i64 tb.at_] 35 (0, 0)) := by
  simp only [exprW, alloc_at, alloc_size]; simp
theorem exprW_e (w3 : World) (ta tb : Tree) (ka kb : Value) (o : Nat) : (exprW w3 ta tb ka kb o).heap[w3.heap.size + 1 + 1 + 1]? = some (.cells #[.int .i64 3, .int .i64 (o : Int), .string ⟨#[]⟩, .int .u64 0, .slice (some ⟨w3.heap.size + 1 + 1, 0, none⟩) 2 2, .int .i64 0] 35 (0, 0)) := by
  simp only [exprW, alloc_at, alloc_size]; simp
theorem exprW_s (w3 : World) (ta tb : Tree) (ka kb : Value) (o : Nat) : (exprW w3 ta tb ka kb o).heap[w3.heap.size + 1 + 1 + 1 + 1]? = some (.cells signCells 9 (0, 0)) := by
  simp only [exprW, alloc_at, alloc_size]; simp
theorem exprW_size (w3 : World) (ta tb : Tree) (ka kb : Value) (o : Nat) : (exprW w3 ta tb ka kb o).heap.size = w3.heap.size + 5 := by simp only [exprW, alloc_size]
theorem exprW_below (w3 : World) (ta tb : Tree) (ka kb : Value) (o : Nat) : Below w3.heap.size w3 (exprW w3 ta tb ka kb o) :=
  (((((Below.refl _ w3).alloc (Nat.le_refl _) _).alloc (by simp only [alloc_size]; omega) _).alloc (by simp only [alloc_size]; omega) _).alloc (by simp only [alloc_size]; omega) _).alloc (by simp only [alloc_size]; omega) _
theorem sign_cell (w : World) (g o : Nat) (ho : o ≤ 9) (h : w.heap[g]? = some (.cells signCells 9 (0, 0))) : w.cell? ⟨g, o, none⟩ = some (.string (bstr (signL o))) := by
  rw [Lib.cell_of_heap h]
  rcases op_cases o with h | h | h | h | h | h | h | h | h | h | h
  case inr.inr.inr.inr.inr.inr.inr.inr.inr.inr => omega
  all_goals (obtain rfl : o = _ := Int.ofNat.inj h; rfl)
/-- tree.Expr in a world in which nothing old has turned. -/
theorem expr_later {n lo : Nat} {t : Tree} {v : Value} {w W : World} (hE : ERep lo W.heap.size W (n + 1) v t) (hwf : wfT (n + 1) t) (hn : 100 * 4 ^ (n + 1) ≤ 70368744177664) (hb : Below w.heap.size w W) (hV : Vars w.heap.size w) (q : Nat) (b : ByteArray) (hq : q ≤ 100) (ht : bstr (etext (n + 1) t q) = b) (wr : World) (hr : Below W.heap.size W wr) :
    Calls Tryd.prog 8 #[v, .int .i64 q] wr fun e w' => e = .returned (.string b) ∧ Below wr.heap.size wr w' := by
  have hE' : ERep 0 wr.heap.size wr (n + 1) v t := (hE.carry (Nat.zero_le _) (Nat.le_refl _) (Same35.refl _ _ _)).mono hr.size hr
  have hbr : Below w.heap.size w wr := hb.trans (hr.mono hb.size)
  subst ht
  exact treeExpr_any (n + 1) t v q wr hE' ((hV.on hbr).mono hbr.size) hq (etext_some n t q hwf) (Nat.le_trans (etext_len _ _ _ hwf) hn)
theorem pow14 : 100 * 4 ^ 14 ≤ 70368744177664 := by decide
theorem cat_bin (X Y : List UInt8) (s : List UInt8) : bstr X ++ (⟨#[32]⟩ : ByteArray) ++ bstr s ++ ⟨#[32]⟩ ++ bstr Y = bstr (X ++ [32] ++ s ++ [32] ++ Y) := by
  apply ByteArray.ext; simp [ByteArray.data_append, bstr]

theorem cat_not (X : List UInt8) : (⟨#[126]⟩ : ByteArray) ++ bstr X = bstr ([126] ++ X) := by
  apply ByteArray.ext; simp [ByteArray.data_append, bstr]
theorem cat_cell (X : List UInt8) : (⟨#[110, 91]⟩ : ByteArray) ++ bstr X ++ ⟨#[93]⟩ = bstr ([110] ++ [91] ++ X ++ [93]) := by
  apply ByteArray.ext; simp [ByteArray.data_append, bstr]
theorem cat_pick (X Y Z : List UInt8) : (⟨#[112, 105, 99, 107, 40]⟩ : ByteArray) ++ bstr X ++ ⟨#[44, 32]⟩ ++ bstr Y ++ ⟨#[44, 32]⟩ ++ bstr Z ++ ⟨#[41]⟩ = bstr ([112, 105, 99, 107, 40] ++ X ++ [44, 32] ++ Y ++ [44, 32] ++ Z ++ [41]) := by
  apply ByteArray.ext; simp [ByteArray.data_append, bstr]
theorem bin_text (o : Nat) (ho : o ≤ 9) (ta tb : Tree) (q : Nat) : etext 14 (binT o ta tb) q = if tightN o < q then [40] ++ (etext 13 ta (tightN o) ++ [32] ++ signL o ++ [32] ++ etext 13 tb (tightN o + 1)) ++ [41] else etext 13 ta (tightN o) ++ [32] ++ signL o ++ [32] ++ etext 13 tb (tightN o + 1) := by
  rw [etext_bin 13 (binT o ta tb) q rfl]
  unfold binTextAt binText
  rw [if_neg (tightN_pos _ (by simp [binT]) (by simp [binT]; omega))]
  rfl
/-- The worlds and blocks behind region 12. -/
theorem not_rep {w : World} {k : Nat} {v : Array Value} {t : Tree} {x0 x1 x2 x3 x4 x5 : Value} (hk : w.heap[k]? = some (.cells #[x0, x1, x2, x3, x4, x5] 35 (0, 0))) (hE : ERep 0 w.heap.size w 13 (.agg #[x0, x1, x2, x3, x4, x5]) t) :
    ERep 0 w.heap.size w 14 (.agg #[.int .i64 4, .int .i64 0, .string ⟨#[]⟩, .int .u64 0, .slice (some ⟨k, 0, none⟩) 1 1, .int .i64 0]) (notT t) := ⟨by simp [notT], _, rfl, kids1 hk (Nat.zero_le _) (heap_lt hk) hE⟩
theorem cell_rep {w : World} {k : Nat} {t : Tree} {s : ByteArray} {x0 x1 x2 x3 x4 x5 : Value} (hk : w.heap[k]? = some (.cells #[x0, x1, x2, x3, x4, x5] 35 (0, 0))) (hE : ERep 0 w.heap.size w 13 (.agg #[x0, x1, x2, x3, x4, x5]) t) :
    ERep 0 w.heap.size w 14 (.agg #[.int .i64 2, .int .i64 0, .string s, .int .u64 0, .slice (some ⟨k, 0, none⟩) 1 1, .int .i64 0]) (cellT s t) := ⟨by simp [cellT], _, rfl, kids1 hk (Nat.zero_le _) (heap_lt hk) hE⟩
theorem pick_rep {w : World} {k : Nat} {t u : Tree} {x0 x1 x2 x3 x4 x5 y0 y1 y2 y3 y4 y5 : Value} (hk : w.heap[k]? = some (.cells #[x0, x1, x2, x3, x4, x5, y0, y1, y2, y3, y4, y5, x0, x1, x2, x3, x4, x5] 35 (0, 0))) (hE : ERep 0 w.heap.size w 13 (.agg #[x0, x1, x2, x3, x4, x5]) t) (hF : ERep 0 w.heap.size w 13 (.agg #[y0, y1, y2, y3, y4, y5]) u) :
    ERep 0 w.heap.size w 14 (.agg #[.int .i64 5, .int .i64 0, .string ⟨#[]⟩, .int .u64 0, .slice (some ⟨k, 0, none⟩) 3 3, .int .i64 0]) (pickT t u t) := ⟨by simp [pickT], _, rfl, kids3 hk (Nat.zero_le _) (heap_lt hk) hE hF hE⟩
theorem bin_rep {w : World} {k o : Nat} {t u : Tree} {x0 x1 x2 x3 x4 x5 y0 y1 y2 y3 y4 y5 : Value} (hk : w.heap[k]? = some (.cells #[x0, x1, x2, x3, x4, x5, y0, y1, y2, y3, y4, y5] 35 (0, 0))) (hE : ERep 0 w.heap.size w 13 (.agg #[x0, x1, x2, x3, x4, x5]) t) (hF : ERep 0 w.heap.size w 13 (.agg #[y0, y1, y2, y3, y4, y5]) u) :
    ERep 0 w.heap.size w 14 (.agg #[.int .i64 3, .int .i64 (o : Int), .string ⟨#[]⟩, .int .u64 0, .slice (some ⟨k, 0, none⟩) 2 2, .int .i64 0]) (binT o t u) := ⟨by simp [binT], _, rfl, kids2 hk (Nat.zero_le _) (heap_lt hk) hE hF⟩
theorem regrown6 {w : World} {k : Nat} {x0 x1 x2 x3 x4 x5 : Value} (h : w.heap[k]? = some (.cells #[x0, x1, x2, x3, x4, x5] 35 (0, 0))) : (∀ d os, (Sort.grow (redrawn w d) os).cell? ⟨k, 0, none⟩ = some x0) ∧ (∀ d os, (Sort.grow (redrawn w d) os).cell? ⟨k, 1, none⟩ = some x1) ∧ (∀ d os, (Sort.grow (redrawn w d) os).cell? ⟨k, 2, none⟩ = some x2) ∧ (∀ d os, (Sort.grow (redrawn w d) os).cell? ⟨k, 3, none⟩ = some x3) ∧ (∀ d os, (Sort.grow (redrawn w d) os).cell? ⟨k, 4, none⟩ = some x4) ∧ (∀ d os, (Sort.grow (redrawn w d) os).cell? ⟨k, 5, none⟩ = some x5) := by
  obtain ⟨p0, p1, p2, p3, p4, p5⟩ := box_cells h
  exact ⟨fun d os => cell_regrown p0 d os, fun d os => cell_regrown p1 d os, fun d os => cell_regrown p2 d os, fun d os => cell_regrown p3 d os, fun d os => cell_regrown p4 d os, fun d os => cell_regrown p5 d os⟩

set_option maxHeartbeats 2000000 in
set_option maxRecDepth 100000 in
theorem expr_walk (v0 : Value) (zs0 : List Int) (a1 a2 : Int) (w : World) (h0 : IntsAt w .u8 v0 zs0) (z0 : ∀ n ∈ zs0, (Lit.int .u8 n).wf = true) (n0 : zs0.length * 1 ≤ 140737488351232) (w1 : (Lit.int .u8 a1).wf = true) (w2 : (Lit.int .u8 a2).wf = true) (hV : Vars w.heap.size w) :
    Calls Tryd.prog 3 #[v0, .int .u8 a1, .int .u8 a2] w fun e w' => e = .returned (.bool true) ∧ Below w.heap.size w w' := by
  obtain ⟨m, hm, hm2⟩ : ∃ m, m = min zs0.length 60 ∧ m ≤ zs0.length := ⟨_, rfl, by omega⟩
  obtain ⟨ao, cap, rfl, hlc, hN⟩ := nsAt_of_ints h0 z0 m hm2
  have hmI : min (zs0.length : Int) 60 = (m : Int) := by omega
  have hmc : m ≤ cap := by omega
  have HN := Lib.hid hN
  clear h0 hN hm
  have b1 := u8_wf w1
  have b2 := u8_wf w2
  clear w1 w2
  obtain ⟨ta, na, hsa⟩ : ∃ t n, secM E0 6 1 ((byteL zs0).take m) = (t, n) := ⟨_, _, rfl⟩
  obtain ⟨tb, nb, hsb⟩ : ∃ t n, secM E0 6 1 na = (t, n) := ⟨_, _, rfl⟩
  have hwa : wfT 13 ta := by have := sec_wf good0 6 1 ((byteL zs0).take m); rw [hsa] at this; exact this
  have hwb : wfT 13 tb := by have := sec_wf good0 6 1 na; rw [hsb] at this; exact this
  have HSa := fun (B bm : Nat) (w' : World) (h : MakerAt B bm E0 ((byteL zs0).take m) w') => secretly_all E0 6 B bm _ 1 w' (by omega) (by omega) h
  have HSb := fun (B bm : Nat) (w' : World) (h : MakerAt B bm E0 na w') => secretly_all E0 6 B bm _ 1 w' (by omega) (by omega) h
  rw [hsa] at HSa
  rw [hsb] at HSb
  have Hwa := Lib.hid hwa
  have Hwb := Lib.hid hwb
  clear hsa hsb hwa hwb
  obtain ⟨o, ho, hoI⟩ : ∃ o : Nat, o ≤ 9 ∧ a1 % 10 = (o : Int) := ⟨(a1 % 10).toNat, by omega, by omega⟩
  obtain ⟨q, hq, hqI⟩ : ∃ q : Nat, q ≤ 9 ∧ a2 % 10 = (q : Int) := ⟨(a2 % 10).toNat, by omega, by omega⟩
  have hoI2 : (o : Int) < 10 := by omega
  obtain ⟨T, hT⟩ : ∃ T, T = tightN (o : Int) := ⟨_, rfl⟩
  have hT7 : T ≤ 7 := by rw [hT]; exact tightN_le _
  have hidx : ∀ h, ((⟨#[54, 54, 55, 52, 49, 50, 53, 53, 51, 51]⟩ : ByteArray)[o]'h).toNat = 48 + T := fun h => by rw [hT, ← tight_at o ho, Lib.getD_at _ _ h]
  have HT := Lib.hid hT
  have hTw : IntKind.i64.wrap ((T : Int) + 1) = (T : Int) + 1 := by rw [IntKind.wrap_i64]; omega
  have hT48 : 48 + (T : Int) - 48 = (T : Int) := by omega
  obtain ⟨bA, hbA0⟩ : ∃ b, b = bstr (etext 13 ta T) := ⟨_, rfl⟩
  obtain ⟨bB, hbB0⟩ : ∃ b, b = bstr (etext 13 tb (T + 1)) := ⟨_, rfl⟩
  obtain ⟨sg, hsg⟩ : ∃ b, b = bstr (signL o) := ⟨_, rfl⟩
  obtain ⟨bX, hbX⟩ : ∃ b, b = bstr (etext 13 ta T ++ [32] ++ signL o ++ [32] ++ etext 13 tb (T + 1)) := ⟨_, rfl⟩
  have hwant : bA ++ ⟨#[32]⟩ ++ sg ++ ⟨#[32]⟩ ++ bB = bX := by rw [hbA0, hbB0, hsg, hbX]; exact cat_bin _ _ _
  have hszA : bA.size ≤ 70368744177664 := by rw [hbA0, bstr_size]; exact Nat.le_trans (etext_len _ _ _ Hwa.out) pow13
  have hszB : bB.size ≤ 70368744177664 := by rw [hbB0, bstr_size]; exact Nat.le_trans (etext_len _ _ _ Hwb.out) pow13
  have hszs : sg.size ≤ 2 := by rw [hsg, bstr_size]; exact signL_len o
  have HA0 := Lib.hid hbA0
  have HB0 := Lib.hid hbB0
  have HX := Lib.hid hbX
  have HSg := Lib.hid hsg
  clear hT hbA0 hbB0 hbX hsg
  go_enter Tryd.func3, Tryd.ntmps3
  go_wp2_with (first
    | (go_at_call 6; refine (awake_any w hV).mono ?_; rintro e wA ⟨rfl, hbA⟩; have hM1 := Lib.hid (maker_new hbA.size (HN.out.on hbA.block)))
    | (go_at_call 7; refine (HSb _ _ w2 hM2.out).mono ?_; rintro e w3 ⟨v3, rfl, hE3, hM3, hg3⟩; obtain ⟨_, kv3, rfl, kao3, kcap3, rfl, _, _⟩ := id hE3; replace hE3 := Lib.hid hE3; replace hM3 := Lib.hid hM3)
    | (go_at_call 7; refine (HSa _ _ _ hM1.out).mono ?_; rintro e w2 ⟨v2, rfl, hE2, hM2, hg2⟩; obtain ⟨_, kv2, rfl, kao2, kcap2, rfl, _, _⟩ := id hE2; replace hE2 := Lib.hid hE2; replace hM2 := Lib.hid hM2))
  have hb2 : Below w.heap.size w w2 := (hbA.alloc hbA.size _).grown hg2 (by have := hbA.size; rw [alloc_size]; omega) (by intro k hk; cases hk; exact hbA.size)
  have hb3 : Below w.heap.size w w3 := hb2.grown hg3 hb2.size (by intro k hk; cases hk; exact hbA.size)
  have hEa : ERep 0 w3.heap.size w3 13 _ ta := hE2.out.carry (Nat.zero_le _) hg3.size (same35_grown hM2.out hg3 _)
  have hEb : ERep 0 w3.heap.size w3 13 _ tb := hE3.out.carry (Nat.zero_le _) (Nat.le_refl _) (Same35.refl _ _ _)
  obtain ⟨W, hW⟩ : ∃ W, W = exprW w3 ta tb (.slice kao2 ta.kids.length kcap2) (.slice kao3 tb.kids.length kcap3) o := ⟨_, rfl⟩
  have hbW := exprW_below w3 ta tb (.slice kao2 ta.kids.length kcap2) (.slice kao3 tb.kids.length kcap3) o
  have hWa := exprW_a w3 ta tb (.slice kao2 ta.kids.length kcap2) (.slice kao3 tb.kids.length kcap3) o
  have hWb := exprW_b w3 ta tb (.slice kao2 ta.kids.length kcap2) (.slice kao3 tb.kids.length kcap3) o
  have hWk := exprW_k w3 ta tb (.slice kao2 ta.kids.length kcap2) (.slice kao3 tb.kids.length kcap3) o
  have hWe := exprW_e w3 ta tb (.slice kao2 ta.kids.length kcap2) (.slice kao3 tb.kids.length kcap3) o
  have hWs := exprW_s w3 ta tb (.slice kao2 ta.kids.length kcap2) (.slice kao3 tb.kids.length kcap3) o
  have hWz := exprW_size w3 ta tb (.slice kao2 ta.kids.length kcap2) (.slice kao3 tb.kids.length kcap3) o
  rw [← hW] at hbW hWa hWb hWk hWe hWs hWz
  show Code.wp _ _ _ _ (exprW w3 ta tb (.slice kao2 ta.kids.length kcap2) (.slice kao3 tb.kids.length kcap3) o)
  rw [← hW]
  clear hW
  have hbw : Below w.heap.size w W := hb3.trans (hbW.mono hb3.size)
  have hEaW := hEa.mono hbW.size hbW
  have hEbW := hEb.mono hbW.size hbW
  have RA := expr_later hEaW Hwa.out pow13 hbw hV
  have RB := expr_later hEbW Hwb.out pow13 hbw hV
  have cA := fun d os => Calls.regrown_of (RA T bA (by omega) HA0.out.symm _ (below_regrown W d os))
  have cB : ∀ d os, Calls Tryd.prog 8 #[_, .int .i64 ((T : Int) + 1)] _ _ := fun d os => Calls.regrown_of (RB (T + 1) bB (by omega) HB0.out.symm _ (below_regrown W d os))
  obtain ⟨p0, p1, p2, p3, p4, p5⟩ := box_cells hWa
  obtain ⟨q0, q1, q2, q3, q4, q5⟩ := box_cells hWb
  have hsc := sign_cell W _ o ho hWs
  rw [← HSg.out] at hsc
  have P0 := cell_regrown p0
  have P1 := cell_regrown p1
  have P2 := cell_regrown p2
  have P3 := cell_regrown p3
  have P4 := cell_regrown p4
  have P5 := cell_regrown p5
  have Q0 := cell_regrown q0
  have Q1 := cell_regrown q1
  have Q2 := cell_regrown q2
  have Q3 := cell_regrown q3
  have Q4 := cell_regrown q4
  have Q5 := cell_regrown q5
  have S0 := cell_regrown hsc
  clear hE2 hE3 hM2 hM3 hg2 hg3 hM1 hEa hEb
  refine wp_region_quiet_below (by kernel_rfl) (by kernel_rfl) ?_
  repeat (go_big_quiet_step (first | with_reducible exact cA _ _ | with_reducible exact cB _ _))
  refine wpQuiet_nil ?_
  intro _ hw'
  obtain ⟨⟨dq, osq⟩, hw''⟩ := hw'
  subst hw''
  obtain ⟨W2, hW2⟩ : ∃ W2, W2 = Sort.grow (redrawn W dq) osq := ⟨_, rfl⟩
  have hB2 : Below W.heap.size W W2 := by rw [hW2]; exact below_regrown W dq osq
  rw [← hW2]
  clear hW2 P0 P1 P2 P3 P4 P5 Q0 Q1 Q2 Q3 Q4 Q5 S0 cA cB p0 p1 p2 p3 p4 p5 q0 q1 q2 q3 q4 q5 hsc
  obtain ⟨bY, hbY⟩ : ∃ b, b = bstr (etext 14 (binT o ta tb) q) := ⟨_, rfl⟩
  have hszX : bX.size ≤ 140737488355342 := by rw [← hwant]; simp only [ByteArray.size_append]; have : (⟨#[32]⟩ : ByteArray).size = 1 := rfl; omega
  have HY : Hid ((T < q → (⟨#[40]⟩ : ByteArray) ++ bX ++ ⟨#[41]⟩ = bY) ∧ (¬ T < q → bX = bY)) := by
    have e := bin_text o ho ta tb q
    rw [← HT.out] at e
    refine ⟨fun h => ?_, fun h => ?_⟩
    · rw [if_pos h] at e; rw [hbY, e, HX.out]; exact cat3 _
    · rw [if_neg h] at e; rw [hbY, e, HX.out]
  have HbY := Lib.hid hbY
  clear hbY
  obtain ⟨bN, hbN⟩ : ∃ b, b = bstr (etext 14 (notT ta) 7) := ⟨_, rfl⟩
  obtain ⟨bC, hbC⟩ : ∃ b, b = bstr (etext 14 (cellT ⟨#[110]⟩ ta) 9) := ⟨_, rfl⟩
  obtain ⟨bP, hbP⟩ : ∃ b, b = bstr (etext 14 (pickT ta tb ta) 9) := ⟨_, rfl⟩
  obtain ⟨a9, ha9⟩ : ∃ b, b = bstr (etext 13 ta 9) := ⟨_, rfl⟩
  obtain ⟨a0, ha0⟩ : ∃ b, b = bstr (etext 13 ta 0) := ⟨_, rfl⟩
  obtain ⟨b0, hb0⟩ : ∃ b, b = bstr (etext 13 tb 0) := ⟨_, rfl⟩
  have hN : (⟨#[126]⟩ : ByteArray) ++ a9 = bN := by rw [ha9, hbN, cat_not]; rfl
  have hC : (⟨#[110, 91]⟩ : ByteArray) ++ a0 ++ ⟨#[93]⟩ = bC := by rw [ha0, hbC, cat_cell]; rfl
  have hP : (⟨#[112, 105, 99, 107, 40]⟩ : ByteArray) ++ a0 ++ ⟨#[44, 32]⟩ ++ b0 ++ ⟨#[44, 32]⟩ ++ a0 ++ ⟨#[41]⟩ = bP := by rw [ha0, hb0, hbP, cat_pick]; rfl
  have hsa9 : a9.size ≤ 70368744177664 := by rw [ha9, bstr_size]; exact Nat.le_trans (etext_len _ _ _ Hwa.out) pow13
  have hsa0 : a0.size ≤ 70368744177664 := by rw [ha0, bstr_size]; exact Nat.le_trans (etext_len _ _ _ Hwa.out) pow13
  have hsb0 : b0.size ≤ 70368744177664 := by rw [hb0, bstr_size]; exact Nat.le_trans (etext_len _ _ _ Hwb.out) pow13
  have HbN := Lib.hid hbN
  have HbC := Lib.hid hbC
  have HbP := Lib.hid hbP
  have Ha9 := Lib.hid ha9
  have Ha0 := Lib.hid ha0
  have Hb0 := Lib.hid hb0
  clear hbN hbC hbP ha9 ha0 hb0
  have hbw2 : Below w.heap.size w W2 := hbw.trans (hB2.mono hbw.size)
  have hEa2 := hEaW.mono hB2.size hB2
  have hEb2 := hEbW.mono hB2.size hB2
  have hWa2 := (hB2.block _ (heap_lt hWa)).trans hWa
  have hWb2 := (hB2.block _ (heap_lt hWb)).trans hWb
  have hWk2 := (hB2.block _ (heap_lt hWk)).trans hWk
  have hWe2 := (hB2.block _ (heap_lt hWe)).trans hWe
  clear RA RB hEaW hEbW hWa hWb hWk hWe hWs hWz hbw hwant hB2
  have HQ : Hid (T < q ∨ ¬ T < q) := Nat.lt_or_ge T q |>.imp id (fun h => by omega)
  rcases HQ.out with hTq | hTq
  · have hrule := HY.out.1 hTq
    have hTqI : (T : Int) < (q : Int) := by omega
    go_wp2
    refine expr_region hWa2 hWb2 (by rfl) (by rfl) (by rfl) ?_
    intro L pos W3 hL hI
    have hB3 : Below W2.heap.size W2 W3 := hI.1
    have hN1 := (hI.2.2.1 11 (by decide) (hL 11 (by omega))).2
    have hN2 := (hI.2.2.1 12 (by decide) (hL 12 (by omega))).2
    have hN3 := (hI.2.2.1 13 (by decide) (hL 13 (by omega))).2
    have hK1 := (hI.2.2.1 1 (by decide) (hL 1 (by omega))).2
    have hK2 := (hI.2.2.1 4 (by decide) (hL 4 (by omega))).2
    have hK3 := (hI.2.2.1 9 (by decide) (hL 9 (by omega))).2
    simp only [exprC, hL 14 (by omega), hL 15 (by omega), hL 16 (by omega), if_true] at hN1 hN2 hN3 hK1 hK2 hK3
    have hEa3 := hEa2.mono hB3.size hB3
    have hEb3 := hEb2.mono hB3.size hB3
    have hWa3 := (hB3.block _ (heap_lt hWa2)).trans hWa2
    have hWb3 := (hB3.block _ (heap_lt hWb2)).trans hWb2
    have hWk3 := (hB3.block _ (heap_lt hWk2)).trans hWk2
    have hWe3 := (hB3.block _ (heap_lt hWe2)).trans hWe2
    have hbw3 : Below w.heap.size w W3 := hbw2.trans (hB3.mono hbw2.size)
    have cE := fun d os => Calls.regrown_of (expr_later (bin_rep (o := o) hWk3 hEa3 hEb3) (wf_bin 13 o ta tb ho Hwa.out Hwb.out) pow14 hbw3 hV q bY (by omega) HbY.out.symm _ (below_regrown W3 d os))
    have cN : ∀ d os, Calls Tryd.prog 8 #[_, .int .i64 7] _ _ := fun d os => Calls.regrown_of (expr_later (not_rep (v := #[]) hK1 hEa3) (wf_not 13 ta Hwa.out) pow14 hbw3 hV 7 bN (by omega) HbN.out.symm _ (below_regrown W3 d os))
    have cC : ∀ d os, Calls Tryd.prog 8 #[_, .int .i64 9] _ _ := fun d os => Calls.regrown_of (expr_later (cell_rep (s := ⟨#[110]⟩) hK2 hEa3) (wf_cell 13 _ ta (by decide) Hwa.out) pow14 hbw3 hV 9 bC (by omega) HbC.out.symm _ (below_regrown W3 d os))
    have cP : ∀ d os, Calls Tryd.prog 8 #[_, .int .i64 9] _ _ := fun d os => Calls.regrown_of (expr_later (pick_rep hK3 hEa3 hEb3) (wf_pick 13 ta tb ta Hwa.out Hwb.out Hwa.out) pow14 hbw3 hV 9 bP (by omega) HbP.out.symm _ (below_regrown W3 d os))
    have cA9 : ∀ d os, Calls Tryd.prog 8 #[_, .int .i64 9] _ _ := fun d os => Calls.regrown_of (expr_later hEa3 Hwa.out pow13 hbw3 hV 9 a9 (by omega) Ha9.out.symm _ (below_regrown W3 d os))
    have cA0 : ∀ d os, Calls Tryd.prog 8 #[_, .int .i64 0] _ _ := fun d os => Calls.regrown_of (expr_later hEa3 Hwa.out pow13 hbw3 hV 0 a0 (by omega) Ha0.out.symm _ (below_regrown W3 d os))
    have cB0 : ∀ d os, Calls Tryd.prog 8 #[_, .int .i64 0] _ _ := fun d os => Calls.regrown_of (expr_later hEb3 Hwb.out pow13 hbw3 hV 0 b0 (by omega) Hb0.out.symm _ (below_regrown W3 d os))
    obtain ⟨A0, A1, A2, A3, A4, A5⟩ := regrown6 hWa3
    obtain ⟨B0, B1, B2, B3, B4, B5⟩ := regrown6 hWb3
    obtain ⟨E0, E1, E2, E3, E4, E5⟩ := regrown6 hWe3
    obtain ⟨N0, N1, N2, N3, N4, N5⟩ := regrown6 hN1
    obtain ⟨C0, C1, C2, C3, C4, C5⟩ := regrown6 hN2
    obtain ⟨P0, P1, P2, P3, P4, P5⟩ := regrown6 hN3
    clear hN1 hN2 hN3 hK1 hK2 hK3 hEa3 hEb3 hWa3 hWb3 hWk3 hWe3 hI hL hEa2 hEb2 hWa2 hWb2 hWk2 hWe2
    rw [writeAll_expr]
    simp only [exprV, List.setIfInBounds_toArray, List.set_cons_zero, List.set_cons_succ]
    go_wp2
    refine wp_region_quiet_below (by kernel_rfl) (by kernel_rfl) ?_
    repeat (go_big_quiet_step (first | with_reducible exact cE _ _ | with_reducible exact cN _ _ | with_reducible exact cC _ _ | with_reducible exact cP _ _ | with_reducible exact cA9 _ _ | with_reducible exact cA0 _ _ | with_reducible exact cB0 _ _))
    refine wpQuiet_nil ?_
    intro _ hw'
    obtain ⟨⟨dr, osr⟩, hw''⟩ := hw'
    subst hw''
    go_wp2
    go_ret
    exact ⟨rfl, hbw3.trans ((below_regrown W3 dr osr).mono hbw3.size)⟩
  · have hXY := (HY.out.2 hTq).symm
    subst hXY
    have hTqI : ¬ (T : Int) < (q : Int) := by omega
    go_wp2
    refine expr_region hWa2 hWb2 (by rfl) (by rfl) (by rfl) ?_
    intro L pos W3 hL hI
    have hB3 : Below W2.heap.size W2 W3 := hI.1
    have hN1 := (hI.2.2.1 11 (by decide) (hL 11 (by omega))).2
    have hN2 := (hI.2.2.1 12 (by decide) (hL 12 (by omega))).2
    have hN3 := (hI.2.2.1 13 (by decide) (hL 13 (by omega))).2
    have hK1 := (hI.2.2.1 1 (by decide) (hL 1 (by omega))).2
    have hK2 := (hI.2.2.1 4 (by decide) (hL 4 (by omega))).2
    have hK3 := (hI.2.2.1 9 (by decide) (hL 9 (by omega))).2
    simp only [exprC, hL 14 (by omega), hL 15 (by omega), hL 16 (by omega), if_true] at hN1 hN2 hN3 hK1 hK2 hK3
    have hEa3 := hEa2.mono hB3.size hB3
    have hEb3 := hEb2.mono hB3.size hB3
    have hWa3 := (hB3.block _ (heap_lt hWa2)).trans hWa2
    have hWb3 := (hB3.block _ (heap_lt hWb2)).trans hWb2
    have hWk3 := (hB3.block _ (heap_lt hWk2)).trans hWk2
    have hWe3 := (hB3.block _ (heap_lt hWe2)).trans hWe2
    have hbw3 : Below w.heap.size w W3 := hbw2.trans (hB3.mono hbw2.size)
    have cE := fun d os => Calls.regrown_of (expr_later (bin_rep (o := o) hWk3 hEa3 hEb3) (wf_bin 13 o ta tb ho Hwa.out Hwb.out) pow14 hbw3 hV q bY (by omega) HbY.out.symm _ (below_regrown W3 d os))
    have cN : ∀ d os, Calls Tryd.prog 8 #[_, .int .i64 7] _ _ := fun d os => Calls.regrown_of (expr_later (not_rep (v := #[]) hK1 hEa3) (wf_not 13 ta Hwa.out) pow14 hbw3 hV 7 bN (by omega) HbN.out.symm _ (below_regrown W3 d os))
    have cC : ∀ d os, Calls Tryd.prog 8 #[_, .int .i64 9] _ _ := fun d os => Calls.regrown_of (expr_later (cell_rep (s := ⟨#[110]⟩) hK2 hEa3) (wf_cell 13 _ ta (by decide) Hwa.out) pow14 hbw3 hV 9 bC (by omega) HbC.out.symm _ (below_regrown W3 d os))
    have cP : ∀ d os, Calls Tryd.prog 8 #[_, .int .i64 9] _ _ := fun d os => Calls.regrown_of (expr_later (pick_rep hK3 hEa3 hEb3) (wf_pick 13 ta tb ta Hwa.out Hwb.out Hwa.out) pow14 hbw3 hV 9 bP (by omega) HbP.out.symm _ (below_regrown W3 d os))
    have cA9 : ∀ d os, Calls Tryd.prog 8 #[_, .int .i64 9] _ _ := fun d os => Calls.regrown_of (expr_later hEa3 Hwa.out pow13 hbw3 hV 9 a9 (by omega) Ha9.out.symm _ (below_regrown W3 d os))
    have cA0 : ∀ d os, Calls Tryd.prog 8 #[_, .int .i64 0] _ _ := fun d os => Calls.regrown_of (expr_later hEa3 Hwa.out pow13 hbw3 hV 0 a0 (by omega) Ha0.out.symm _ (below_regrown W3 d os))
    have cB0 : ∀ d os, Calls Tryd.prog 8 #[_, .int .i64 0] _ _ := fun d os => Calls.regrown_of (expr_later hEb3 Hwb.out pow13 hbw3 hV 0 b0 (by omega) Hb0.out.symm _ (below_regrown W3 d os))
    obtain ⟨A0, A1, A2, A3, A4, A5⟩ := regrown6 hWa3
    obtain ⟨B0, B1, B2, B3, B4, B5⟩ := regrown6 hWb3
    obtain ⟨E0, E1, E2, E3, E4, E5⟩ := regrown6 hWe3
    obtain ⟨N0, N1, N2, N3, N4, N5⟩ := regrown6 hN1
    obtain ⟨C0, C1, C2, C3, C4, C5⟩ := regrown6 hN2
    obtain ⟨P0, P1, P2, P3, P4, P5⟩ := regrown6 hN3
    clear hN1 hN2 hN3 hK1 hK2 hK3 hEa3 hEb3 hWa3 hWb3 hWk3 hWe3 hI hL hEa2 hEb2 hWa2 hWb2 hWk2 hWe2
    rw [writeAll_expr]
    simp only [exprV, List.setIfInBounds_toArray, List.set_cons_zero, List.set_cons_succ]
    go_wp2
    refine wp_region_quiet_below (by kernel_rfl) (by kernel_rfl) ?_
    repeat (go_big_quiet_step (first | with_reducible exact cE _ _ | with_reducible exact cN _ _ | with_reducible exact cC _ _ | with_reducible exact cP _ _ | with_reducible exact cA9 _ _ | with_reducible exact cA0 _ _ | with_reducible exact cB0 _ _))
    refine wpQuiet_nil ?_
    intro _ hw'
    obtain ⟨⟨dr, osr⟩, hw''⟩ := hw'
    subst hw''
    go_wp2
    go_ret
    exact ⟨rfl, hbw3.trans ((below_regrown W3 dr osr).mono hbw3.size)⟩
end Go.Proofs.YtlfiicfkjlobhaaDoor
