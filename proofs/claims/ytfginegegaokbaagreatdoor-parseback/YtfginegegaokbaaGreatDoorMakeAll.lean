/- What Make answers, when it is called. Conditions: its numbers lie in old memory. -/
import Derived.Test.YtfginegegaokbaaGreatDoorMakeThr
namespace Go.Proofs.YtfginegegaokbaaGreatDoor
open Go.ChangeShapes Go.WideShapes Go.ChangeAt Go.RowKit
set_option linter.unusedVariables false
set_option linter.unusedSimpArgs false

/-- What stands while threads are made. -/
def MkInv (w : World) (bm bp b0 : Nat) (r : List Dcl × List (List Stm) × List UInt8) (wr : World) : Prop :=
  Below w.heap.size w wr ∧ wr.heap[b0]? = some (.cells #[.slice none 0 0, .slice none 0 0] 27 (0, 0)) ∧
  ∃ dao dcap tao tcap, wr.heap[bp]? = some (.cells #[.slice dao r.1.length dcap, .slice tao r.2.1.length tcap] 27 (0, 0)) ∧ DlRow w.heap.size wr (.slice dao r.1.length dcap) r.1 ∧ ThRow w.heap.size 5 wr (.slice tao r.2.1.length tcap) r.2.1 ∧ ∃ E : Env, E.held = false ∧ E.deep = 0 ∧ MakerAt w.heap.size bm E r.2.2 wr
theorem make_len : ∀ (k : Nat) (ns : List UInt8), (threadsM k ns).1.length = 4 + 4 * k ∧ (threadsM k ns).2.1.length = k
  | 0, ns => ⟨rfl, rfl⟩
  | k + 1, ns => by
    have ih := make_len k ns
    show ((threadsM k ns).1 ++ declsOf k).length = _ ∧ ((threadsM k ns).2.1 ++ [_]).length = _
    simp only [List.length_append, List.length_cons, List.length_nil, declsOf]
    omega
/-- The maker begins a thread. -/
theorem MakerAt.thread {B bm : Nat} {E : Env} {ns : List UInt8} {w : World} (h : MakerAt B bm E ns w) (hh : E.held = false) (hd : E.deep = 0) (k : Nat) (hk : k ≤ 9) :
    MakerAt B bm ⟨[], [], [], false, k, 0⟩ ns ((((w.setCell ⟨bm, 5, none⟩ (.int .i64 k)).setCell ⟨bm, 1, none⟩ (.slice none 0 0)).setCell ⟨bm, 2, none⟩ (.slice none 0 0)).setCell ⟨bm, 3, none⟩ (.slice none 0 0)) := by
  have hB := h.base
  obtain ⟨h1, nv, lv, sv, cv, h2, h3, _⟩ := h
  have hg : w.grownBy ((((w.setCell ⟨bm, 5, none⟩ (.int .i64 k)).setCell ⟨bm, 1, none⟩ (.slice none 0 0)).setCell ⟨bm, 2, none⟩ (.slice none 0 0)).setCell ⟨bm, 3, none⟩ (.slice none 0 0)) (some bm) := grow_set (grow_set (grow_set (grow_set (grownBy_refl _ _) _ _) _ _) _ _) _ _
  refine ⟨h1, nv, _, _, _, ?_, h3.on (fun j hj => hg.block j (by omega) (fun e => by cases e; omega)), World.ownsRow_nil _ _ _ _, World.ownsRow_nil _ _ _ _, World.ownsRow_nil _ _ _ _, hk, by simp, by simp⟩
  have r1 := set_heap h2 5 (.int .i64 k)
  have r2 := set_heap r1 1 (.slice none 0 0)
  have r3 := set_heap r2 2 (.slice none 0 0)
  have r4 := set_heap r3 3 (.slice none 0 0)
  rw [r4]
  simp [hh, hd]

theorem mk_start {w w2 : World} {v : Value} {ns1 : List UInt8} (hM2 : MakerAt w.heap.size (w.heap.size + 1) ⟨[], [], [], false, 0, 0⟩ ns1 w2)
    (hg2 : ((w.alloc (.cells #[.slice none 0 0, .slice none 0 0] 27)).alloc (.cells #[v, .slice none 0 0, .slice none 0 0, .slice none 0 0, .bool false, .int .i64 0, .int .i64 0] 73)).grownBy w2 (some (w.heap.size + 1))) :
    MkInv w (w.heap.size + 1) (w2.heap.size + 1) w.heap.size (threadsM 0 ns1) ((w2.alloc (.cells #[.bool true, .int .i64 0, .string ⟨#[100, 111, 111, 114]⟩, .int .i64 0, .string ⟨#[]⟩, .int .i64 0, .bool false, .int .i64 0, .string ⟨#[115, 104, 97, 114, 101, 100]⟩, .int .i64 0, .string ⟨#[100, 111, 111, 114]⟩, .int .i64 0, .bool false, .int .i64 1, .string ⟨#[104, 105, 100, 100, 101, 110]⟩, .int .i64 0, .string ⟨#[100, 111, 111, 114]⟩, .int .i64 0, .bool false, .int .i64 0, .string ⟨#[99, 111, 117, 110, 116]⟩, .int .i64 0, .string ⟨#[]⟩, .int .i64 0] 68)).alloc (.cells #[.slice (some ⟨w2.heap.size, 0, none⟩) 4 4, .slice none 0 0] 27)) := by
  have hz2 := hg2.size
  rw [alloc_size, alloc_size] at hz2
  have hb0 : w2.heap[w.heap.size]? = some (.cells #[.slice none 0 0, .slice none 0 0] 27 (0, 0)) := by
    rw [hg2.block _ (by rw [alloc_size, alloc_size]; omega) (by simp), alloc_at, alloc_size, if_neg (by omega)]
    exact heap_alloc_new w _
  have hbl : Below w.heap.size w w2 := ⟨hg2.os, hg2.tape, hg2.output, by omega, fun k hk => by rw [hg2.block k (by rw [alloc_size, alloc_size]; omega) (by simp; omega), alloc_at, alloc_size, if_neg (by omega), alloc_at, if_neg (by omega)]⟩
  refine ⟨(hbl.alloc (by omega) _).alloc (by rw [alloc_size]; omega) _, alloc_keep (alloc_keep hb0 _) _, some ⟨w2.heap.size, 0, none⟩, 4, none, 0, ?_, ?_, ThRow.nil, ⟨[], [], [], false, 0, 0⟩, rfl, rfl, (hM2.alloc _).alloc _⟩
  · have := heap_alloc_new (w2.alloc (.cells #[.bool true, .int .i64 0, .string ⟨#[100, 111, 111, 114]⟩, .int .i64 0, .string ⟨#[]⟩, .int .i64 0, .bool false, .int .i64 0, .string ⟨#[115, 104, 97, 114, 101, 100]⟩, .int .i64 0, .string ⟨#[100, 111, 111, 114]⟩, .int .i64 0, .bool false, .int .i64 1, .string ⟨#[104, 105, 100, 100, 101, 110]⟩, .int .i64 0, .string ⟨#[100, 111, 111, 114]⟩, .int .i64 0, .bool false, .int .i64 0, .string ⟨#[99, 111, 117, 110, 116]⟩, .int .i64 0, .string ⟨#[]⟩, .int .i64 0] 68)) (.cells #[.slice (some ⟨w2.heap.size, 0, none⟩) 4 4, .slice none 0 0] 27)
    rw [alloc_size] at this
    exact this
  · exact ⟨by rw [dcells_len], .inr ⟨w2.heap.size, 4, _, rfl, by omega, alloc_keep (heap_alloc_new w2 _) _, by simp [threadsM, decls0], by unfold maxLen; omega, rfl, rfl⟩⟩
theorem mk_app {w wr w3 : World} {bm bp b0 n : Nat} {dv tv : Value} {ds : List Dcl} {ts : List (List Stm)} {E : Env} {ns : List UInt8} {o : Obj} {x0 x1 : Array Value} (hD : DlRow w.heap.size wr dv ds) (hg : (wr.alloc o).grownBy w3 dv.ownBlock) (hbp : wr.heap[bp]? = some (.cells x0 27 (0, 0))) (hb0 : wr.heap[b0]? = some (.cells x1 27 (0, 0))) (hbel : Below w.heap.size w wr) (hT : ThRow w.heap.size n wr tv ts) (hM : MakerAt w.heap.size bm E ns wr) (hz : w.heap.size ≤ wr.heap.size) :
    w3.heap[bp]? = some (.cells x0 27 (0, 0)) ∧ w3.heap[b0]? = some (.cells x1 27 (0, 0)) ∧ Below w.heap.size w w3 ∧ MakerAt w.heap.size bm E ns w3 ∧ ThRow w.heap.size n w3 tv ts := by
  have hDa : (wr.alloc o).ownsRow w.heap.size 68 6 dv ds.length ((ds.map dcells).flatten) := own_same hD (TSame.alloc _ _ _)
  have tk : ∀ t : TypeId, t ≠ 68 → TSame t wr w3 := fun t ht => (TSame.alloc t wr o).trans (TSame.of_row hDa hg ht)
  have hz3 := hg.size
  rw [alloc_size] at hz3
  have hbl : Below w.heap.size wr w3 := ((Below.refl _ _).alloc hz o).grown hg (by rw [alloc_size]; omega) (fun k hk => (hDa.lt k hk).1)
  exact ⟨tk _ (by decide) _ _ _ hbp, tk _ (by decide) _ _ _ hb0, hbel.trans hbl, hM.tsame hbl.block (tk _ (by decide)) (tk _ (by decide)) (tk _ (by decide)) (tk _ (by decide)), hT.same hbl.size (tk _ (by decide)) (tk _ (by decide)) (tk _ (by decide))⟩
theorem dfit_all : ∀ (k : Nat) (ns : List UInt8), ∀ d ∈ (threadsM k ns).1, dfit d
  | 0, ns => fun d hd => by
    have hd' : d ∈ decls0 := hd
    simp only [decls0, List.mem_cons, List.not_mem_nil, or_false] at hd'
    rcases hd' with rfl | rfl | rfl | rfl <;> (unfold dfit; simp [doorS, sharedS, hiddenS, countS, ByteArray.size])
  | k + 1, ns => fun d hd => by
    have hd' : d ∈ (threadsM k ns).1 ++ declsOf k := hd
    rcases List.mem_append.1 hd' with h | h
    · exact dfit_all k ns d h
    · simp only [declsOf, List.mem_cons, List.not_mem_nil, or_false] at h
      rcases h with rfl | rfl | rfl | rfl <;> (unfold dfit; simp [ByteArray.size])

set_option maxHeartbeats 1000000 in
set_option maxRecDepth 100000 in
theorem make_any (ao : Option Addr) (L cap m : Nat) (ns : List UInt8) (w : World) (hN : NsAt w.heap.size w (.slice ao m cap) ns) (hmI : min (L : Int) 300 = (m : Int)) (hmc : m ≤ cap) (hLc : L ≤ cap) (hL : L ≤ 140737488351232) :
    Calls Tryz.prog 11 #[.slice ao L cap] w fun e w' => ∃ dv tv, e = .returned (.agg #[dv, tv]) ∧ Dcls w.heap.size w'.heap.size w' dv (makeM ns).decls ∧ Thrs w.heap.size w'.heap.size 13 5 w' tv (makeM ns).threads ∧ Below w.heap.size w w' := by
  have hn3 := nxV_lt ns 3 (by omega)
  have H1 := fun (bm : Nat) (w' : World) h => next_any w.heap.size bm ⟨[], [], [], false, 0, 0⟩ ns 3 w' h (by omega) (by omega)
  have HM0 : ∀ o, MakerAt w.heap.size (w.heap.size + 1) ⟨[], [], [], false, 0, 0⟩ ns ((w.alloc o).alloc (.cells #[.slice ao m cap, .slice none 0 0, .slice none 0 0, .slice none 0 0, .bool false, .int .i64 0, .int .i64 0] 73)) := fun o =>
    ⟨by omega, .slice ao m cap, _, _, _, by have := heap_alloc_new (w.alloc o) (.cells #[.slice ao m cap, .slice none 0 0, .slice none 0 0, .slice none 0 0, .bool false, .int .i64 0, .int .i64 0] 73); simpa using this, hN.on fun k hk => by rw [Lib.alloc_old _ _ _ (by rw [alloc_size]; omega), Lib.alloc_old _ _ _ hk], World.ownsRow_nil _ _ _ _, World.ownsRow_nil _ _ _ _, World.ownsRow_nil _ _ _ _, by simp, by simp, by simp⟩
  have HMH := Lib.hid HM0
  clear hN HM0
  go_enter Tryz.func11, Tryz.ntmps11
  go_wp2_with (go_at_call 21; refine (H1 _ _ (HMH.out _)).mono ?_; rintro e w2 ⟨rfl, hM2, hg2⟩; replace hM2 := Lib.hid hM2; replace hg2 := Lib.hid hg2)
  have HS := Lib.hid (mk_start hM2.out hg2.out)
  have hz2 := hg2.out.size
  simp only [alloc_size] at hz2
  obtain ⟨N, hN⟩ : ∃ N, nxV ns 3 = N := ⟨_, rfl⟩
  rw [hN] at hn3
  have HN := Lib.hid hN
  simp only [hN]
  clear hN H1
  go_loopw [6] (fun kv wr => ∃ k : Nat, k ≤ 1 + N ∧ kv = .int .i64 k ∧ MkInv w (w.heap.size + 1) (w2.heap.size + 1) w.heap.size (threadsM k ns.tail) wr) (fun kv _ => 1 + N - (intOf kv).toNat)
  case atStart => exact ⟨0, by omega, rfl, HS.out⟩
  case round =>
    obtain ⟨k, hk, rfl, hI⟩ := hrel
    have hml := make_len k ns.tail
    by_cases hlt : k < 1 + N
    · obtain ⟨ds, ts, ns2, hth⟩ : ∃ ds ts ns2, threadsM k ns.tail = (ds, ts, ns2) := ⟨_, _, _, rfl⟩
      obtain ⟨ss, ns3, hbk⟩ : ∃ ss ns3, blockM (stmtM 5) false ⟨[], [], [], false, k, 0⟩ ns2 = (ss, ⟨[], [], [], false, k, 0⟩, ns3) := ⟨_, _, Prod.ext rfl (Prod.ext (block_env (fun E ns hf => stmt_grow 5 false E ns hf) _ _ ⟨rfl, rfl⟩) rfl)⟩
      have HT : Hid (threadsM (k + 1) ns.tail = (ds ++ declsOf k, ts ++ [ss], ns3)) := by
        show (let r := threadsM k ns.tail; let b := blockM (stmtM 5) false ⟨[], [], [], false, k, 0⟩ r.2.2; (r.1 ++ declsOf k, r.2.1 ++ [b.1], b.2.2)) = _
        rw [hth]; simp only [hbk]
      rw [hth] at hI hml
      simp only at hml
      have PB : Hid (∀ w', MakerAt w.heap.size (w.heap.size + 1) ⟨[], [], [], false, k, 0⟩ ns2 w' → Calls Tryz.prog 23 #[.pointer (some ⟨w.heap.size + 1, 0, none⟩), .bool false] w' (MadeS w.heap.size (w.heap.size + 1) 5 w' (ss, ⟨[], [], [], false, k, 0⟩, ns3))) := fun w' h => by
        have := block_any (mstmt_all 5) w.heap.size (w.heap.size + 1) false ⟨[], [], [], false, k, 0⟩ ns2 w' h (by simp) (by simp) (by simp [roomE])
        rw [hbk] at this; exact this
      obtain ⟨hbel, hb0, dao, dcap, tao, tcap, hbp, hD, hTh, E, hEh, hEd, hMk⟩ := hI
      simp only at hbp hD hTh hMk
      obtain ⟨c0, c1⟩ := prog_cells hbp
      have hzr := hbel.size
      have q112 := cat2 112 (digitB k)
      have q113 := cat2 113 (digitB k)
      have q115 := cat2 115 (digitB k)
      have q116 := cat2 116 (digitB k)
      have hne : ¬ w.heap.size = w2.heap.size := by omega
      have hne' : ¬ w2.heap.size = w.heap.size := by omega
      have hdl : ds.length ≤ 1000 := by omega
      have htl : ts.length ≤ 100 := by omega
      have HML := Lib.hid hml
      have HD := Lib.hid hD
      have HTh := Lib.hid hTh
      have HMk := Lib.hid (And.intro hEh (And.intro hEd hMk))
      have HBP := Lib.hid hbp
      have HB0 := Lib.hid hb0
      have HBel := Lib.hid hbel
      clear hth hbk hbel hb0 hbp hD hTh hEh hEd hMk hml
      go_wp2_with (first
        | (go_at_call 22; refine (digit_any k (by omega) _).mono ?_; rintro e w' ⟨rfl, hw⟩; rw [hw]; clear hw w')
        | (at_builtin; (refine wpList_append_dl wr ⟨false, 0, ⟨#[112, digitB k]⟩, 0, ⟨#[]⟩, 0⟩ ⟨false, 0, ⟨#[113, digitB k]⟩, 4, ⟨#[]⟩, 0⟩ ⟨false, 1, ⟨#[115, digitB k]⟩, 0, ⟨#[]⟩, 0⟩ ⟨false, 1, ⟨#[116, digitB k]⟩, 4, ⟨#[]⟩, 0⟩ rfl (.tmp 32) (.tmp 45) rfl w.heap.size _ ds (by rfl) (by rfl) HD.out hzr hdl ?_; intro g3 cap3 w3 hD3 hg3; obtain ⟨hEh, hEd, hMk⟩ := HMk.out; obtain ⟨hbp3, hb03, hbl3, hM3, hT3⟩ := mk_app HD.out hg3 HBP.out HB0.out HBel.out HTh.out hMk hzr; obtain ⟨d0, d1⟩ := prog_cells hbp3; have fz0 := Lib.frozen_of_heap hbp3 0; obtain ⟨nv, lv, sv, cv, hmb, hmc3⟩ : ∃ nv lv sv cv, w3.heap[w.heap.size + 1]? = some (.cells #[nv, lv, sv, cv, .bool E.held, .int .i64 E.thread, .int .i64 E.deep] 73 (0, 0)) ∧ True := (by obtain ⟨_, nv, lv, sv, cv, hmb, _⟩ := hM3; exact ⟨nv, lv, sv, cv, hmb, trivial⟩); obtain ⟨m0, m1, m2, m3, m4, m5, m6⟩ := seven_cells hmb; have g1 := Lib.frozen_of_heap hmb 1; have g2 := Lib.frozen_of_heap hmb 2; have g3' := Lib.frozen_of_heap hmb 3; have g5 := Lib.frozen_of_heap hmb 5; replace hD3 := Lib.hid hD3; replace hT3 := Lib.hid hT3; replace hM3 := Lib.hid hM3; replace hbp3 := Lib.hid hbp3; replace hb03 := Lib.hid hb03; replace hbl3 := Lib.hid hbl3; replace hg3 := Lib.hid hg3; replace hmb := Lib.hid hmb)))
      obtain ⟨hEh, hEd, _⟩ := HMk.out
      have hfr : ∀ t : TypeId, t ≠ 27 → TSame t w3 (w3.setCell ⟨w2.heap.size + 1, 0, none⟩ (.slice (some ⟨g3, 0, none⟩) (ds.length + 4) cap3)) := fun t ht => TSame.of_set hbp3.out ht 0 _
      have hbl4 : Below w.heap.size w3 (w3.setCell ⟨w2.heap.size + 1, 0, none⟩ (.slice (some ⟨g3, 0, none⟩) (ds.length + 4) cap3)) := (Below.refl _ _).setCell (show w.heap.size ≤ w2.heap.size + 1 by omega) _
      have hM4 := hM3.out.tsame hbl4.block (hfr _ (by decide)) (hfr _ (by decide)) (hfr _ (by decide)) (hfr _ (by decide))
      have hD4 := own_same hD3.out (hfr _ (by decide))
      have hT4 := hT3.out.same hbl4.size (hfr _ (by decide)) (hfr _ (by decide)) (hfr _ (by decide))
      have hbp4 := set_heap hbp3.out 0 (.slice (some ⟨g3, 0, none⟩) (ds.length + 4) cap3)
      have hb04 := (Below.heap_setCell w3 ⟨w2.heap.size + 1, 0, none⟩ (.slice (some ⟨g3, 0, none⟩) (ds.length + 4) cap3) w.heap.size (show w.heap.size ≠ w2.heap.size + 1 by omega)).trans hb03.out
      have hbw4 := hbl3.out.trans hbl4
      generalize w3.setCell ⟨w2.heap.size + 1, 0, none⟩ (.slice (some ⟨g3, 0, none⟩) (ds.length + 4) cap3) = w4 at *
      have hM5 := hM4.thread hEh hEd k (by omega)
      have hg5 : w4.grownBy ((((w4.setCell ⟨w.heap.size + 1, 5, none⟩ (.int .i64 k)).setCell ⟨w.heap.size + 1, 1, none⟩ (.slice none 0 0)).setCell ⟨w.heap.size + 1, 2, none⟩ (.slice none 0 0)).setCell ⟨w.heap.size + 1, 3, none⟩ (.slice none 0 0)) (some (w.heap.size + 1)) := grow_set (grow_set (grow_set (grow_set (grownBy_refl _ _) _ _) _ _) _ _) _ _
      have hK5 := KeepM.of_grown hM4 hg5
      generalize (((w4.setCell ⟨w.heap.size + 1, 5, none⟩ (.int .i64 k)).setCell ⟨w.heap.size + 1, 1, none⟩ (.slice none 0 0)).setCell ⟨w.heap.size + 1, 2, none⟩ (.slice none 0 0)).setCell ⟨w.heap.size + 1, 3, none⟩ (.slice none 0 0) = w5 at *
      have tk : ∀ t : TypeId, t ≠ 73 → t ≠ 9 → t ≠ 4 → t ≠ 3 → TSame t w4 w5 := fun t a b c d => TSame.of_keep hK5 a b c d
      have hz5 := hK5.size
      have hz4 := hbw4.size
      have hT5 : ThRow w.heap.size 5 w5 (.slice tao ts.length tcap) ts := hT4.same hz5 (tk _ (by decide) (by decide) (by decide) (by decide)) (tk _ (by decide) (by decide) (by decide) (by decide)) (tk _ (by decide) (by decide) (by decide) (by decide))
      have hI0 : TInv ⟨w, w.heap.size, w.heap.size + 1, w2.heap.size + 1, w.heap.size, .slice (some ⟨g3, 0, none⟩) (ds.length + 4) cap3, ds ++ declsOf k, tao, tcap, ts, ss, ⟨[], [], [], false, k, 0⟩, ns2, ns3⟩ false false false false ⟨none, 0, 0, 0, 0⟩ w5 :=
        ⟨hbw4.trans hK5.1, by show w.heap.size ≤ w5.heap.size; omega, tk _ (by decide) (by decide) (by decide) (by decide) _ _ _ hb04, by show w.heap.size ≠ w2.heap.size + 1; omega, by show w.heap.size ≤ w2.heap.size + 1; omega, own_same hD4 (tk _ (by decide) (by decide) (by decide) (by decide)), tk _ (by decide) (by decide) (by decide) (by decide) _ _ _ hbp4, fun _ => hM5, (fun e => by cases e), fun _ => hT5, (fun e => by cases e), (fun e => by cases e)⟩
      have HI0 := Lib.hid hI0
      clear hI0 hT5 hD4 hT4 hbp4 hb04 hM4 hM5 hK5 hg5 tk hfr
      refine thr_region _ HI0.out PB.out (by rfl) (by rfl) (by rfl) htl ?_
      intro g w6 hI6
      have HI6 := Lib.hid hI6
      clear hI6
      rw [writeAll_thr]
      simp only [thrV, List.setIfInBounds_toArray, List.set_cons_zero, List.set_cons_succ]
      go_wp2
      go_roundw
      case rel =>
        refine ⟨k + 1, by omega, by go_num, ?_⟩
        rw [HT.out]
        obtain ⟨a1, a2, a3, a4, a4', a5, a6, a7, a8, a9, a10, a11⟩ := HI6.out
        refine ⟨a1, a3, some ⟨g3, 0, none⟩, cap3, some ⟨g.tg, 0, none⟩, g.tcap, ?_, ?_, ?_, ⟨[], [], [], false, k, 0⟩, rfl, rfl, (a8 rfl).1⟩
        · simpa [pick3, declsOf] using a6
        · have e : (ds ++ declsOf k).length = ds.length + 4 := by simp [declsOf]
          simp only
          rw [e]; exact a5
        · have e : (ts ++ [ss]).length = ts.length + 1 := by simp
          simp only
          rw [e]; exact a10 rfl
      case measure => simp [intOf]; omega
    · obtain rfl : k = 1 + N := by omega
      obtain ⟨hbel, hb0, dao, dcap, tao, tcap, hbp, hD, hTh, E, hEh, hEd, hMk⟩ := hI
      obtain ⟨ds, ts, ns2, hth⟩ : ∃ ds ts ns2, threadsM (1 + N) ns.tail = (ds, ts, ns2) := ⟨_, _, _, rfl⟩
      have HMK : Hid (makeM ns = ⟨ds, ts⟩) := by
        show (let r := threadsM (1 + nxV ns 3) ns.tail; (⟨r.1, r.2.1⟩ : Prg)) = _
        rw [HN.out, hth]
      have HFit := Lib.hid (dfit_all (1 + N) ns.tail)
      rw [hth] at hbp hD hTh hml HFit
      simp only at hbp hD hTh hml
      obtain ⟨c0, c1⟩ := prog_cells hbp
      obtain ⟨d0, d1⟩ := prog_cells hb0
      have f0 := Lib.frozen_of_heap hb0 0
      have f1 := Lib.frozen_of_heap hb0 1
      have hzr := hbel.size
      have hdl : ds.length ≤ 1000 := by omega
      have htl : ts.length ≤ 1000 := by omega
      have hne : ¬ w.heap.size = w2.heap.size + 1 := by omega
      have hne' : ¬ w2.heap.size + 1 = w.heap.size := by omega
      have HD := Lib.hid hD
      have HTh := Lib.hid hTh
      have HB0 := Lib.hid hb0
      have HBel := Lib.hid hbel
      clear hth hbel hb0 hbp hD hTh hEh hEd hMk hml
      go_wp2
      have fr : ∀ t : TypeId, t ≠ 27 → TSame t wr ((wr.setCell ⟨w.heap.size, 0, none⟩ (.slice dao ds.length dcap)).setCell ⟨w.heap.size, 1, none⟩ (.slice tao ts.length tcap)) := fun t ht => (TSame.of_set HB0.out ht 0 _).trans (TSame.of_set (set_heap HB0.out 0 _) ht 1 _)
      have hbl : Below w.heap.size wr ((wr.setCell ⟨w.heap.size, 0, none⟩ (.slice dao ds.length dcap)).setCell ⟨w.heap.size, 1, none⟩ (.slice tao ts.length tcap)) := ((Below.refl w.heap.size wr).setCell (p := ⟨w.heap.size, 0, none⟩) (Nat.le_refl _) _).setCell (p := ⟨w.heap.size, 1, none⟩) (Nat.le_refl _) _
      have hD' : DlRow w.heap.size ((wr.setCell ⟨w.heap.size, 0, none⟩ (.slice dao ds.length dcap)).setCell ⟨w.heap.size, 1, none⟩ (.slice tao ts.length tcap)) _ ds := own_same HD.out (fr _ (by decide))
      have hT' := HTh.out.same hbl.size (fr _ (by decide)) (fr _ (by decide)) (fr _ (by decide))
      have hr1 := set_heap HB0.out 0 (.slice dao ds.length dcap)
      have hr2 := set_heap hr1 1 (.slice tao ts.length tcap)
      have k1 := (prog_cells (x0 := .slice dao ds.length dcap) (x1 := .slice none 0 0) hr1).1
      have k2 := (prog_cells (x0 := .slice dao ds.length dcap) (x1 := .slice tao ts.length tcap) hr2).2
      refine bodyPost_ret (v := .agg #[.slice dao ds.length dcap, .slice tao ts.length tcap]) (by simp [results, Tryz.results11, go_sem, k1, k2]) rfl ⟨_, _, rfl, ?_, ?_, HBel.out.trans hbl⟩
      · rw [HMK.out]; exact hD'.dcls (by omega) HFit.out
      · rw [HMK.out]; exact hT'.thrs (by omega)
end Go.Proofs.YtfginegegaokbaaGreatDoor
