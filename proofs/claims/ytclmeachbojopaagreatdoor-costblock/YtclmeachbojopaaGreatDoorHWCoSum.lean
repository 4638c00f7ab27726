/- The walk of CostSum: on every two lists of numbers it returns true. Conditions: lex's variables are as they are laid. -/
import Derived.Test.YtclmeachbojopaaGreatDoorHWCoMore
import Derived.Test.YtclmeachbojopaaGreatDoorHCoTiny
namespace Go.Proofs.YtclmeachbojopaaGreatDoor.Co
open Go.ChangeShapes Go.WideShapes Go.ChangeAt Go.RowKit
set_option linter.unusedVariables false
set_option linter.unusedSimpArgs false

def CRow (base n : Nat) (w : World) (v : Value) (ss : List Stm) : Prop :=
  ∃ xs, w.ownsRow base 34 7 v ss.length xs /\ base <= w.heap.size /\ ∀ i s, ss[i]? = some s -> ∃ u, Cells7 xs i u /\ SRep 0 base w 13 n u s
theorem CRow.nil {base n : Nat} {w : World} (h : base <= w.heap.size) : CRow base n w (.slice none 0 0) [] := ⟨[], World.ownsRow_nil _ _ _ _, h, fun i s hs => by simp at hs⟩
theorem CRow.stms {base n : Nat} {w : World} {v : Value} {ss : List Stm} (h : CRow base n w v ss) (hlen : ss.length <= 4294967296) : Stms 0 w.heap.size w (fun v' s' => SRep 0 w.heap.size w 13 n v' s') v ss := by
  obtain ⟨xs, ho, hl, hr⟩ := h
  rcases ho.2 with ⟨rfl, h0⟩ | ⟨g, cap, cur, rfl, hb, hgg, rest⟩
  · rw [List.length_eq_zero_iff.1 h0]; exact stms0
  · refine ⟨_, cap, rfl, hlen, fun i s hs => ?_⟩
    obtain ⟨u, ⟨c0, c1, c2, c3, c4, c5, c6, e0, e1, e2, e3, e4, e5, e6, rfl⟩, hS⟩ := hr i s hs
    have key : ∀ j u, xs[j]? = some u -> w.cell? ⟨g, 0 + j, none⟩ = some u := fun j u hu => by
      have := ho.cells (g := g) rfl j u hu
      rwa [Lib.add_plain] at this
    refine ⟨g, 0, c0, c1, c2, c3, c4, c5, c6, rfl, Nat.zero_le _, heap_lt hgg, ⟨_, _, hgg, rfl, rfl⟩, key _ _ e0, ?_, ?_, ?_, ?_, ?_, ?_, hS.carry (Nat.le_refl _) hl (Same35.refl _ _ _) (fun _ _ _ _ _ h => h)⟩
    · have := key _ _ e1; rwa [<- Nat.add_assoc] at this
    · have := key _ _ e2; rwa [<- Nat.add_assoc] at this
    · have := key _ _ e3; rwa [<- Nat.add_assoc] at this
    · have := key _ _ e4; rwa [<- Nat.add_assoc] at this
    · have := key _ _ e5; rwa [<- Nat.add_assoc] at this
    · have := key _ _ e6; rwa [<- Nat.add_assoc] at this
theorem wpList_append_copy {ops : Array Oper} {rest : List Oper} {o : Oper} {act : Act} {Q : Exit -> Act -> World -> Prop} (w : World) (hgd : o.guard = none) (s x : Operand)
    (ho : o.op = .call { callee := .builtin .append, args := #[s, x], argTypes := #[29, 29] }) (base n : Nat) (v v2 : Value) (ss ss2 : List Stm) (hs : act.eval s = v) (hx : act.eval x = v2)
    (hR : CRow base n w v ss) (hS : Stms 0 base w (fun v' s' => SRep 0 base w 13 n v' s') v2 ss2) (hne : 0 < ss2.length) (hlen : ss.length + ss2.length <= 1000000)
    (h : ∀ g cap w', CRow base n w' (.slice (some ⟨g, 0, none⟩) (ss ++ ss2).length cap) (ss ++ ss2) -> Below base w w' -> wpList Tryz.prog ops Q rest (act.put o.dst (.slice (some ⟨g, 0, none⟩) (ss ++ ss2).length cap)) w') : wpList Tryz.prog ops Q (o :: rest) act w := by
  obtain ⟨xs, hown, hl, hr⟩ := hR
  obtain ⟨g2, off, cap2, news, rfl, hnl, hnews, hn1, hnr⟩ := stms_cells hS hne
  obtain ⟨i0, hi, hz0, hz1, hz2⟩ := info_parts infoStmt
  refine wpList_append_lies w hgd s x 29 ho base 34 i0 _ 7 112 Tryz.underlying29 hi hz0 hz1 hz2 rfl (by decide) v ss.length xs hs hown ⟨g2, off, none⟩ ss2.length cap2 news hx hnl hnews hn1 hne (by unfold maxLen; omega) (by omega) hl w.heap.size rfl ?_
  intro g cap w' hown' hgrow hat hlt
  have hz := hgrow.size
  have hb : Below base w w' := ⟨hgrow.os, hgrow.tape, hgrow.output, hz, fun k hk => hgrow.block k (by omega) (fun e => by have := (hown.lt k e.symm).1; omega)⟩
  have e : ss.length + ss2.length = (ss ++ ss2).length := by simp
  rw [e] at hown' ⊢
  refine h g cap w' ⟨_, hown', by omega, fun i s hs => ?_⟩ hb
  have up : ∀ {u : Value} {s : Stm}, SRep 0 base w 13 n u s -> SRep 0 base w' 13 n u s := fun hS' => hS'.carry (Nat.le_refl _) (Nat.le_refl _) (Same35.of_below hb) (Same45.of_below hb)
  by_cases hlt : i < ss.length
  · rw [List.getElem?_append_left hlt] at hs
    obtain ⟨u, hc, hS'⟩ := hr i s hs
    exact ⟨u, cells7_left hc, up hS'⟩
  · rw [List.getElem?_append_right (by omega)] at hs
    obtain ⟨u, hc, hS'⟩ := hnr _ s hs
    have hc' := cells7_right hown.1 hc
    rw [show ss.length + (i - ss.length) = i by omega] at hc'
    exact ⟨u, hc', up hS'⟩
theorem bcost_app (m n : Nat) (a b : List Stm) : bcost m n (a ++ b) = min (bcost m n a + bcost m n b) 1048577 := by
  unfold bcost sumc
  rw [List.map_append, List.sum_append]
  omega
def nameT : Tree := { kind := 1, op := 0, name := ⟨#[112, 48]⟩, value := 0, kids := [], at_ := 0 }
def ifS (a b : List Stm) : Stm := { kind := 3, name := ⟨#[]⟩, exprs := [nameT], count := 0, body := a, els := b, at_ := 0 }
theorem if_cost (a b : List Stm) : scost 13 6 (ifS a b) = min (bcost 13 5 a + bcost 13 5 b + 5) 1048577 := by
  have h1 := bcost_le 13 5 a
  have h2 := bcost_le 13 5 b
  have e : sumc (ecost 13) [nameT] = 1 := rfl
  show min (4 + sumc (ecost 13) [nameT] + innerc 3 0 (two (bcost 13 5 a) (bcost 13 5 b))) 1048577 = _
  rw [e]
  unfold innerc two
  rw [if_neg (by decide)]
  omega
theorem if_rep {w : World} {k : Nat} {a b : List Stm} {ta tb : Option Addr} {ca cb : Nat} (hk : w.heap[k]? = some (.cells #[.int .i64 1, .int .i64 0, .string ⟨#[112, 48]⟩, .int .u64 0, .slice none 0 0, .int .i64 0] 40 (0, 0)))
    (ha : Stms 0 w.heap.size w (fun v' s' => SRep 0 w.heap.size w 13 5 v' s') (.slice ta a.length ca) a) (hb : Stms 0 w.heap.size w (fun v' s' => SRep 0 w.heap.size w 13 5 v' s') (.slice tb b.length cb) b) :
    SRep 0 w.heap.size w 13 6 (.agg #[.int .i64 3, .string ⟨#[]⟩, .slice (some ⟨k, 0, none⟩) 1 1, .int .i64 0, .slice ta a.length ca, .slice tb b.length cb, .int .i64 0]) (ifS a b) :=
  ⟨by simp [ifS], by simp [ifS], by show (⟨#[]⟩ : ByteArray).size <= _; decide, some ⟨k, 0, none⟩, 1, ta, ca, tb, cb, rfl, kids1 hk (Nat.zero_le _) (heap_lt hk) ⟨by decide, _, rfl, kids_nil⟩, ha, hb⟩
def MadeV (p : Prg) (v : Value) (w : World) : Prop := ∃ dao dcap tbo tbc, v = .agg #[.slice dao p.decls.length dcap, .slice tbo p.threads.length tbc] /\ Thrs 0 w.heap.size 13 5 w (.slice tbo p.threads.length tbc) p.threads
def ThrV (p : Prg) (v : Value) (w : World) : Prop := ∃ tbo tbc, v = .slice tbo p.threads.length tbc /\ Thrs 0 w.heap.size 13 5 w (.slice tbo p.threads.length tbc) p.threads
def BlkV (ss : List Stm) (v : Value) (w : World) : Prop := ∃ tao tcap, v = .slice tao ss.length tcap /\ Stms 0 w.heap.size w (fun v' s' => SRep 0 w.heap.size w 13 5 v' s') (.slice tao ss.length tcap) ss
def AtV (ss : List Stm) (v : Value) (w : World) : Prop := ∃ g off tao tcap, v = .pointer (some ⟨g, off, none⟩) /\ g < w.heap.size /\ w.cell? ⟨g, off, none⟩ = some (.slice tao ss.length tcap) /\ Stms 0 w.heap.size w (fun v' s' => SRep 0 w.heap.size w 13 5 v' s') (.slice tao ss.length tcap) ss
theorem MadeV.on {p : Prg} {v : Value} {w w' : World} (h : MadeV p v w) (hb : Below w.heap.size w w') : MadeV p v w' := by
  obtain ⟨a, b, c, d, e, hT⟩ := h
  exact ⟨a, b, c, d, e, thrs_later hT hb⟩
theorem ThrV.on {p : Prg} {v : Value} {w w' : World} (h : ThrV p v w) (hb : Below w.heap.size w w') : ThrV p v w' := by
  obtain ⟨a, b, e, hT⟩ := h
  exact ⟨a, b, e, thrs_later hT hb⟩
theorem BlkV.on {ss : List Stm} {v : Value} {w w' : World} (h : BlkV ss v w) (hb : Below w.heap.size w w') : BlkV ss v w' := by
  obtain ⟨a, b, e, hT⟩ := h
  exact ⟨a, b, e, stms_later hT hb⟩
theorem AtV.on {ss : List Stm} {v : Value} {w w' : World} (h : AtV ss v w) (hb : Below w.heap.size w w') : AtV ss v w' := by
  obtain ⟨g, off, a, b, e, hg, hc, hT⟩ := h
  exact ⟨g, off, a, b, e, by have := hb.size; omega, (hb.cell (p := ⟨g, off, none⟩) hg).trans hc, stms_later hT hb⟩
theorem ThrV.at {p : Prg} {tbo : Option Addr} {tbc : Nat} {w : World} {ss : List Stm} (hT : Thrs 0 w.heap.size 13 5 w (.slice tbo p.threads.length tbc) p.threads) (hs : p.threads[0]? = some ss) :
    ∃ g off tao tcap, tbo = some ⟨g, off, none⟩ /\ g < w.heap.size /\ w.cell? ⟨g, off, none⟩ = some (.slice tao ss.length tcap) /\ Stms 0 w.heap.size w (fun v' s' => SRep 0 w.heap.size w 13 5 v' s') (.slice tao ss.length tcap) ss := by
  obtain ⟨_, _, e, _, h⟩ := hT
  cases e
  obtain ⟨g, off, tao, tcap, rfl, _, hg, _, h0, h1⟩ := h 0 ss hs
  rw [Nat.add_zero] at h0
  exact ⟨g, off, tao, tcap, rfl, hg, h0, h1⟩
theorem made_for {v0 : Value} {zs0 : List Int} {w : World} (h0 : IntsAt w .u8 v0 zs0) (z0 : ∀ n ∈ zs0, (Lit.int .u8 n).wf = true) (n0 : zs0.length * 1 <= 140737488351232) :
    ∃ (p : Prg) (ao : Option Addr) (cap : Nat) (ss : List Stm), v0 = .slice ao zs0.length cap /\ p.threads[0]? = some ss /\ 1 <= p.threads.length /\ p.threads.length <= 16 /\ (∀ ts ∈ p.threads, 1 <= ts.length /\ ts.length <= 35 /\ okS ts /\ ∀ s ∈ ts, Pr.gS 13 5 s) /\
      ∀ w', Below w.heap.size w w' -> Calls Tryz.prog 8 #[v0] w' fun e w2 => ∃ v, e = .returned v /\ MadeV p v w2 /\ Below w'.heap.size w' w2 := by
  obtain ⟨m, hm, hm2⟩ : ∃ m, m = min zs0.length 300 /\ m <= zs0.length := ⟨_, rfl, by omega⟩
  obtain ⟨ao, cap, rfl, hlc, hN⟩ := nsAt_of_ints h0 z0 m hm2
  have hG := Pr.made_gP ((byteL zs0).take m)
  obtain ⟨ss, hss⟩ : ∃ ss, (makeM ((byteL zs0).take m)).threads[0]? = some ss := by
    have := hG.t1
    cases h : (makeM ((byteL zs0).take m)).threads with
    | nil => rw [h] at this; simp at this
    | cons a l => exact ⟨a, rfl⟩
  refine ⟨makeM ((byteL zs0).take m), ao, cap, ss, rfl, hss, hG.t1, hG.t2, fun ts hts => ⟨made_some _ _ ts hts, made_few _ _ ts hts, made_okS _ _ ts hts, hG.s ts hts⟩, fun w' hb => ?_⟩
  refine (make_any ao zs0.length cap m ((byteL zs0).take m) w' (ns_later hN hb) (by omega) (by omega) hlc (by omega)).mono ?_
  rintro e w2 ⟨dv, tv, rfl, D2, T2, hb2⟩
  obtain ⟨dao, dcap, rfl, _⟩ := id D2
  replace T2 := thrs_zero T2
  obtain ⟨tbo, tbc, rfl, _⟩ := id T2
  exact ⟨_, rfl, ⟨_, _, _, _, rfl, T2⟩, hb2⟩
theorem third_at (w4 : World) (o o' o'' : Obj) : (((w4.alloc o).alloc o').alloc o'').heap[w4.heap.size + 1 + 1]? = some o'' := by
  rw [alloc_at, alloc_size, alloc_size, if_pos rfl]
theorem sum_both {X Y : Nat} {base g cap : Nat} {w4 : World} {sA sB : List Stm} (hX : bcost 13 5 sA = X) (hY : bcost 13 5 sB = Y) (hl : sA.length + sB.length <= 4294967296) (h : CRow base 5 w4 (.slice (some ⟨g, 0, none⟩) ([] ++ sA ++ sB).length cap) ([] ++ sA ++ sB)) (o o' o'' : Obj) :
    Calls Tryz.prog 9 #[.slice (some ⟨g, 0, none⟩) (sA.length + sB.length) cap] (((w4.alloc o).alloc o').alloc o'') fun e w' => e = .returned (.int .i64 (min ((X : Int) + (Y : Int)) 1048577)) /\ Below (((w4.alloc o).alloc o').alloc o'').heap.size (((w4.alloc o).alloc o').alloc o'') w' := by
  have e : ([] ++ sA ++ sB).length = sA.length + sB.length := by simp
  have e2 : [] ++ sA ++ sB = sA ++ sB := by simp
  have hS := h.stms (by rw [e]; omega)
  rw [e, e2] at hS
  have hb : Below w4.heap.size w4 (((w4.alloc o).alloc o').alloc o'') := (((Below.refl _ _).alloc (Nat.le_refl _) _).alloc (by rw [alloc_size]; omega) _).alloc (by rw [alloc_size, alloc_size]; omega) _
  have P := block_all 13 5 _ _ _ (stms_later hS hb)
  rw [bcost_app, hX, hY] at P
  have e3 : ((min (X + Y) 1048577 : Nat) : Int) = min ((X : Int) + (Y : Int)) 1048577 := by omega
  rwa [e3] at P
theorem sum_if {X Y : Nat} {wz w4 : World} {sA sB : List Stm} {ta tb : Option Addr} {ca cb : Nat} (hb : Below wz.heap.size wz w4) (SA : Stms 0 wz.heap.size wz (fun v' s' => SRep 0 wz.heap.size wz 13 5 v' s') (.slice ta sA.length ca) sA) (SB : Stms 0 wz.heap.size wz (fun v' s' => SRep 0 wz.heap.size wz 13 5 v' s') (.slice tb sB.length cb) sB)
    (hX : bcost 13 5 sA = X) (hY : bcost 13 5 sB = Y) (o o'' : Obj) (w7 : World) (hb7 : Below (((w4.alloc o).alloc (.cells #[.int .i64 1, .int .i64 0, .string ⟨#[112, 48]⟩, .int .u64 0, .slice none 0 0, .int .i64 0] 40)).alloc o'').heap.size (((w4.alloc o).alloc (.cells #[.int .i64 1, .int .i64 0, .string ⟨#[112, 48]⟩, .int .u64 0, .slice none 0 0, .int .i64 0] 40)).alloc o'') w7) :
    Calls Tryz.prog 11 #[.agg #[.int .i64 3, .string ⟨#[]⟩, .slice (some ⟨w4.heap.size + 1, 0, none⟩) 1 1, .int .i64 0, .slice ta sA.length ca, .slice tb sB.length cb, .int .i64 0]] w7 fun e w' => e = .returned (.int .i64 (min ((X : Int) + (Y : Int) + 5) 1048577)) /\ Below w7.heap.size w7 w' := by
  have hb0 : Below w4.heap.size w4 (((w4.alloc o).alloc (.cells #[.int .i64 1, .int .i64 0, .string ⟨#[112, 48]⟩, .int .u64 0, .slice none 0 0, .int .i64 0] 40)).alloc o'') := (((Below.refl _ _).alloc (Nat.le_refl _) _).alloc (by rw [alloc_size]; omega) _).alloc (by rw [alloc_size, alloc_size]; omega) _
  have hh : (((w4.alloc o).alloc (.cells #[.int .i64 1, .int .i64 0, .string ⟨#[112, 48]⟩, .int .u64 0, .slice none 0 0, .int .i64 0] 40)).alloc o'').heap[w4.heap.size + 1]? = some (.cells #[.int .i64 1, .int .i64 0, .string ⟨#[112, 48]⟩, .int .u64 0, .slice none 0 0, .int .i64 0] 40 (0, 0)) := by
    have := heap_alloc_new (w4.alloc o) (.cells #[.int .i64 1, .int .i64 0, .string ⟨#[112, 48]⟩, .int .u64 0, .slice none 0 0, .int .i64 0] 40)
    rw [alloc_size] at this
    exact alloc_keep this o''
  have h7 := keep hb7 hh
  have hb1 := (hb.trans (hb0.mono hb.size))
  have hbz := hb1.trans (hb7.mono hb1.size)
  have P := stmt_all 13 6 _ _ w7 (if_rep h7 (stms_later SA hbz) (stms_later SB hbz))
  rw [if_cost, hX, hY] at P
  have e3 : ((min (X + Y + 5) 1048577 : Nat) : Int) = min ((X : Int) + (Y : Int) + 5) 1048577 := by omega
  rwa [e3] at P
theorem sum_end {w wz w1 w2 w3 w4 w7 w8 : World} {o o' o'' : Obj} (h0 : Below w.heap.size w wz) (h1 : Below wz.heap.size wz w1) (h2 : Below w1.heap.size w1 w2) (h3 : Below w2.heap.size w2 w3) (h4 : Below w2.heap.size w3 w4) (h7 : Below (((w4.alloc o).alloc o').alloc o'').heap.size (((w4.alloc o).alloc o').alloc o'') w7) (h8 : Below w7.heap.size w7 w8) : Below w.heap.size w w8 := by
  have a2 := (h0.trans (h1.mono h0.size)).trans (h2.mono (h0.trans (h1.mono h0.size)).size)
  have a4 := (a2.trans (h3.mono a2.size)).trans (h4.mono a2.size)
  have a6 := ((a4.alloc a4.size o).alloc (by rw [alloc_size]; have := a4.size; omega) o').alloc (by rw [alloc_size, alloc_size]; have := a4.size; omega) o''
  have a7 := a6.trans (h7.mono a6.size)
  exact a7.trans (h8.mono a7.size)
set_option maxHeartbeats 4000000 in
set_option maxRecDepth 100000 in
theorem sum_walk (vA vB : Value) (zsA zsB : List Int) (w : World) (hA0 : IntsAt w .u8 vA zsA) (zA : ∀ n ∈ zsA, (Lit.int .u8 n).wf = true) (nA : zsA.length * 1 <= 140737488351232) (hB0 : IntsAt w .u8 vB zsB) (zB : ∀ n ∈ zsB, (Lit.int .u8 n).wf = true) (nB : zsB.length * 1 <= 140737488351232) (hL : Lx.Vars w) :
    Calls Tryz.prog 5 #[vA, vB] w fun e w' => e = .returned (.bool true) /\ Below w.heap.size w w' := by
  obtain ⟨p, aoA, capA, sA, rfl, hsA, tA1, tA2, tA, HA⟩ := made_for hA0 zA nA
  obtain ⟨q, aoB, capB, sB, rfl, hsB, tB1, tB2, tB, HB⟩ := made_for hB0 zB nB
  have H0 := awake_any w hL
  have hfd := prog_threads
  have hlA := tA sA (List.mem_of_getElem? hsA)
  have hlB := tB sB (List.mem_of_getElem? hsB)
  have hlA1 := hlA.1
  have hlA2 := hlA.2.1
  have hlB1 := hlB.1
  have hlB2 := hlB.2.1
  replace hsA := Lib.hid hsA
  replace hsB := Lib.hid hsB
  clear tA tB hlA hlB hL hA0 hB0 zA zB
  go_enter Tryz.func5, Tryz.ntmps5
  go_wp2_with (go_at_call 7; refine H0.mono ?_; rintro e wA ⟨rfl, hbA⟩)
  refine wp_region_mono (by kernel_rfl) (by kernel_rfl) (by kernel_rfl) (by kernel_rfl) (by kernel_rfl) (fun (i : Nat) (v : Value) (w : World) => match i with | 0 => v = .slice aoA zsA.length capA | 1 => MadeV p v w | 2 => ThrV p v w | 3 => AtV sA v w | 4 => BlkV sA v w | 5 => v = .slice aoB zsB.length capB | 6 => MadeV q v w | 7 => ThrV q v w | 8 => AtV sB v w | 9 => BlkV sB v w | 10 => BlkV sA v w | 11 => BlkV sB v w | _ => True) ?_ [] (by kernel_rfl) ?_ ?_ ?_
  · intro i v w w' hb h
    match i with
    | 0 => exact h
    | 1 => exact h.on hb
    | 2 => exact h.on hb
    | 3 => exact h.on hb
    | 4 => exact h.on hb
    | 5 => exact h
    | 6 => exact h.on hb
    | 7 => exact h.on hb
    | 8 => exact h.on hb
    | 9 => exact h.on hb
    | 10 => exact h.on hb
    | 11 => exact h.on hb
    | _ + 12 => trivial
  · intro p hp v w h
    cases hp
  · intro a wr i op hop hb hF hP K hK
    have s0 : a.tmps[0]?.getD undef = .slice aoA zsA.length capA := (hF 0 (by kernel_rfl)).trans rfl
    have s1 : a.tmps[1]?.getD undef = .slice aoB zsB.length capB := (hF 1 (by kernel_rfl)).trans rfl
    match i with
    | 0 =>
      simp only [List.getElem?_toArray, List.getElem?_cons_zero, List.getElem?_cons_succ, Option.some.injEq] at hop
      subst hop
      go_simp
      exact hK _ _ (Below.refl _ _) fun _ => by first | rfl | exact wrap_val (by omega)
    | 1 =>
      simp only [List.getElem?_toArray, List.getElem?_cons_zero, List.getElem?_cons_succ, Option.some.injEq] at hop
      subst hop
      have n0 : a.tmps[14]?.getD undef = .slice aoA zsA.length capA := hP 0 14 (by kernel_rfl) (by kernel_rfl)
      go_simp
      go_at_call 8
      refine (HA wr (hbA.trans (hb.mono hbA.size))).mono ?_
      rintro e w1 ⟨v1, rfl, hv1, hb1⟩
      go_simp
      exact hK _ _ hb1 fun _ => hv1
    | 2 =>
      simp only [List.getElem?_toArray, List.getElem?_cons_zero, List.getElem?_cons_succ, Option.some.injEq] at hop
      subst hop
      obtain ⟨dao, dcap, tbo, tbc, n1, hT1⟩ : MadeV p (a.tmps[15]?.getD undef) wr := (hP 1 15 (by kernel_rfl) (by kernel_rfl))
      go_simp
      exact hK _ _ (Below.refl _ _) fun _ => ⟨tbo, tbc, rfl, hT1⟩
    | 3 =>
      simp only [List.getElem?_toArray, List.getElem?_cons_zero, List.getElem?_cons_succ, Option.some.injEq] at hop
      subst hop
      obtain ⟨tbo, tbc, n2, hT2⟩ : ThrV p (a.tmps[16]?.getD undef) wr := (hP 2 16 (by kernel_rfl) (by kernel_rfl))
      obtain ⟨g, off, tao, tcap, rfl, hg, hc, hS⟩ := ThrV.at hT2 hsA.out
      go_simp
      rw [if_pos (show 0 < p.threads.length by omega)]
      go_simp
      exact hK _ _ (Below.refl _ _) fun _ => ⟨g, off, tao, tcap, rfl, hg, hc, hS⟩
    | 4 =>
      simp only [List.getElem?_toArray, List.getElem?_cons_zero, List.getElem?_cons_succ, Option.some.injEq] at hop
      subst hop
      obtain ⟨g, off, tao, tcap, n3, hg, hc, hS⟩ : AtV sA (a.tmps[17]?.getD undef) wr := (hP 3 17 (by kernel_rfl) (by kernel_rfl))
      go_simp
      exact hK _ _ (Below.refl _ _) fun _ => ⟨tao, tcap, rfl, hS⟩
    | 5 =>
      simp only [List.getElem?_toArray, List.getElem?_cons_zero, List.getElem?_cons_succ, Option.some.injEq] at hop
      subst hop
      go_simp
      exact hK _ _ (Below.refl _ _) fun _ => by first | rfl | exact wrap_val (by omega)
    | 6 =>
      simp only [List.getElem?_toArray, List.getElem?_cons_zero, List.getElem?_cons_succ, Option.some.injEq] at hop
      subst hop
      have n5 : a.tmps[19]?.getD undef = .slice aoB zsB.length capB := hP 5 19 (by kernel_rfl) (by kernel_rfl)
      go_simp
      go_at_call 8
      refine (HB wr (hbA.trans (hb.mono hbA.size))).mono ?_
      rintro e w1 ⟨v1, rfl, hv1, hb1⟩
      go_simp
      exact hK _ _ hb1 fun _ => hv1
    | 7 =>
      simp only [List.getElem?_toArray, List.getElem?_cons_zero, List.getElem?_cons_succ, Option.some.injEq] at hop
      subst hop
      obtain ⟨dao, dcap, tbo, tbc, n6, hT6⟩ : MadeV q (a.tmps[20]?.getD undef) wr := (hP 6 20 (by kernel_rfl) (by kernel_rfl))
      go_simp
      exact hK _ _ (Below.refl _ _) fun _ => ⟨tbo, tbc, rfl, hT6⟩
    | 8 =>
      simp only [List.getElem?_toArray, List.getElem?_cons_zero, List.getElem?_cons_succ, Option.some.injEq] at hop
      subst hop
      obtain ⟨tbo, tbc, n7, hT7⟩ : ThrV q (a.tmps[21]?.getD undef) wr := (hP 7 21 (by kernel_rfl) (by kernel_rfl))
      obtain ⟨g, off, tao, tcap, rfl, hg, hc, hS⟩ := ThrV.at hT7 hsB.out
      go_simp
      rw [if_pos (show 0 < q.threads.length by omega)]
      go_simp
      exact hK _ _ (Below.refl _ _) fun _ => ⟨g, off, tao, tcap, rfl, hg, hc, hS⟩
    | 9 =>
      simp only [List.getElem?_toArray, List.getElem?_cons_zero, List.getElem?_cons_succ, Option.some.injEq] at hop
      subst hop
      obtain ⟨g, off, tao, tcap, n8, hg, hc, hS⟩ : AtV sB (a.tmps[22]?.getD undef) wr := (hP 8 22 (by kernel_rfl) (by kernel_rfl))
      go_simp
      exact hK _ _ (Below.refl _ _) fun _ => ⟨tao, tcap, rfl, hS⟩
    | 10 =>
      simp only [List.getElem?_toArray, List.getElem?_cons_zero, List.getElem?_cons_succ, Option.some.injEq] at hop
      subst hop
      obtain ⟨tao, tcap, n4, hS⟩ : BlkV sA (a.tmps[18]?.getD undef) wr := (hP 4 18 (by kernel_rfl) (by kernel_rfl))
      go_simp
      exact hK _ _ (Below.refl _ _) fun _ => ⟨tao, tcap, rfl, hS⟩
    | 11 =>
      simp only [List.getElem?_toArray, List.getElem?_cons_zero, List.getElem?_cons_succ, Option.some.injEq] at hop
      subst hop
      obtain ⟨tao, tcap, n9, hS⟩ : BlkV sB (a.tmps[23]?.getD undef) wr := (hP 9 23 (by kernel_rfl) (by kernel_rfl))
      go_simp
      exact hK _ _ (Below.refl _ _) fun _ => ⟨tao, tcap, rfl, hS⟩
    | _ + 12 => simp at hop
  · intro V wz hbz hR
    obtain ⟨ta, ca, e10, SA⟩ : BlkV sA (V 10) wz := hR 10 (by kernel_rfl)
    obtain ⟨tb, cb, e11, SB⟩ : BlkV sB (V 11) wz := hR 11 (by kernel_rfl)
    have hbW := hbA.trans (hbz.mono hbA.size)
    clear hR HA HB hfd
    refine Pr.at_writeAll (Pr.pairs [14, 15, 16, 17, 18, 19, 20, 21, 22, 23, 5, 6] V) (fun t => by kernel_rfl) ?_
    simp only [Pr.pairs, List.zipIdx, List.map, List.foldl, Nat.zero_add, Nat.reduceAdd, List.setIfInBounds_toArray, List.set_cons_zero, List.set_cons_succ, e10, e11]
    have PA := block_all 13 5 _ _ wz SA
    have PB := fun w1 (hb : Below wz.heap.size wz w1) => block_all 13 5 _ _ w1 (stms_later SB hb)
    obtain ⟨X, hX⟩ : ∃ X, bcost 13 5 sA = X := ⟨_, rfl⟩
    obtain ⟨Y, hY⟩ : ∃ Y, bcost 13 5 sB = Y := ⟨_, rfl⟩
    have hXl : X <= 1048577 := by rw [<- hX]; exact bcost_le _ _ _
    have hYl : Y <= 1048577 := by rw [<- hY]; exact bcost_le _ _ _
    rw [hX] at PA
    rw [hY] at PB
    have HX := Lib.hid hX
    have HY := Lib.hid hY
    have HSA := Lib.hid SA
    have HSB := Lib.hid SB
    clear hX hY SA SB
    go_wp2_with (first
      | (go_at_call 11; refine (PS _ _ _ hb6).mono ?_; rintro e w8 ⟨rfl, hb8⟩)
      | (go_at_call 9; refine (PQ _ _ _).mono ?_; rintro e w7 ⟨rfl, hb7⟩; have hb6 := hb7; obtain ⟨q0, q1, q2, q3, q4, q5, q6⟩ := stmt_cells (keep hb7 (third_at w4 _ _ _)))
      | (at_builtin; revert hR3; intro hR3; refine wpList_append_copy w3 rfl (.tmp 29) (.tmp 30) rfl w2.heap.size 5 _ _ ([] ++ sA) sB (by rfl) (by rfl) hR3.out ((stms_later (stms_later HSB.out hb1) hb2).on hb3) (by omega) (by simp; omega) ?_; intro g2 cap2 w4 hR4 hb4; have PQ := sum_both HX.out HY.out (by omega) hR4; have PS := sum_if (((hb1.trans (hb2.mono hb1.size)).trans (hb3.mono (hb1.trans (hb2.mono hb1.size)).size)).trans (hb4.mono (hb1.trans (hb2.mono hb1.size)).size)) HSA.out HSB.out HX.out HY.out; replace hR4 := Lib.hid hR4)
      | (at_builtin; refine wpList_append_copy w2 rfl (.const (.slice none 0 0)) (.tmp 28) rfl w2.heap.size 5 _ _ [] sA (by rfl) (by rfl) (CRow.nil (Nat.le_refl _)) (stms_later (stms_later HSA.out hb1) hb2) (by omega) (by simp; omega) ?_; intro g1 cap1 w3 hR3 hb3; replace hR3 := Lib.hid hR3)
      | (go_at_call 9; refine (PB _ hb1).mono ?_; rintro e w2 ⟨rfl, hb2⟩)
      | (go_at_call 9; refine PA.mono ?_; rintro e w1 ⟨rfl, hb1⟩))
    go_ret
    exact ⟨rfl, sum_end hbW hb1 hb2 hb3 hb4 hb7 hb8⟩
end Go.Proofs.YtclmeachbojopaaGreatDoor.Co
