/- Lists of statements that the maker makes: one statement, and a list that grows. Conditions: the maker lies in a block of its own. -/
import Derived.Test.YtfginegegaokbaaGreatDoorMakeEnterAll
namespace Go.Proofs.YtfginegegaokbaaGreatDoor
open Go.ChangeShapes Go.WideShapes Go.ChangeAt Go.RowKit
set_option linter.unusedVariables false
set_option linter.unusedSimpArgs false

/-- What a function of the maker's that answers statements leaves. -/
def MadeS (B bm n : Nat) (w : World) (r : Mk) (e : Ending) (w' : World) : Prop :=
  ∃ v, e = .returned v ∧ Stms w.heap.size w'.heap.size w' (fun v' s' => SRep w.heap.size w'.heap.size w' 13 n v' s') v r.1 ∧ MakerAt B bm r.2.1 r.2.2 w' ∧ KeepM B w w'

theorem stms0 {lo B : Nat} {w : World} {R : Value → Stm → Prop} : Stms lo B w R (.slice none 0 0) [] := ⟨none, 0, rfl, by simp, fun i k h => by simp at h⟩
theorem stms1 {lo B : Nat} {w : World} {R : Value → Stm → Prop} {g : Nat} {x0 x1 x2 x3 x4 x5 x6 : Value} {x : Stm} (hg : w.heap[g]? = some (.cells #[x0, x1, x2, x3, x4, x5, x6] 60 (0, 0))) (hlo : lo ≤ g) (hB : g < B) (hx : R (.agg #[x0, x1, x2, x3, x4, x5, x6]) x) :
    Stms lo B w R (.slice (some ⟨g, 0, none⟩) 1 1) [x] := by
  refine ⟨_, _, rfl, by simp, fun i k h => ?_⟩
  match i, h with
  | 0, h => simp at h; subst h; exact ⟨g, 0, x0, x1, x2, x3, x4, x5, x6, rfl, hlo, hB, ⟨_, _, hg, rfl, rfl⟩, by simp [World.cell?, hg], by simp [World.cell?, hg], by simp [World.cell?, hg], by simp [World.cell?, hg], by simp [World.cell?, hg], by simp [World.cell?, hg], by simp [World.cell?, hg], hx⟩
theorem srepE {lo B m n : Nat} {w : World} {k : Int} {s : ByteArray} {es : List Tree} {eao : Option Addr} {ecap : Nat} (hs : s.size ≤ 35184372088832) (hK : Kids lo B w (fun v' t' => ERep lo B w m v' t') (.slice eao es.length ecap) es) :
    SRep lo B w m (n + 1) (.agg #[.int .i64 k, .string s, .slice eao es.length ecap, .int .i64 0, .slice none 0 0, .slice none 0 0, .int .i64 0]) (stmE k s es) :=
  ⟨by simp [stmE], by simp [stmE], hs, eao, ecap, none, 0, none, 0, rfl, hK, stms0, stms0⟩
theorem srep0 {lo B m n : Nat} {w : World} {k : Int} {s : ByteArray} (hs : s.size ≤ 35184372088832) :
    SRep lo B w m (n + 1) (.agg #[.int .i64 k, .string s, .slice none 0 0, .int .i64 0, .slice none 0 0, .slice none 0 0, .int .i64 0]) (stmE k s []) := srepE (es := []) hs kids0
theorem mdeep_cell {B bm : Nat} {E : Env} {ns : List UInt8} {w : World} (h : MakerAt B bm E ns w) : w.cell? ⟨bm, 6, none⟩ = some (.int .i64 E.deep) := by
  obtain ⟨_, nv, lv, sv, cv, h2, _⟩ := h
  exact (seven_cells h2).2.2.2.2.2.2
theorem maker_full {B bm : Nat} {E : Env} {ns : List UInt8} {w : World} (h : MakerAt B bm E ns w) : fullE E := by
  obtain ⟨_, nv, lv, sv, cv, h2, h3, h4, h5, h6, _⟩ := h
  exact ⟨by simpa using h5.1, by simpa using h6.1⟩

set_option maxHeartbeats 1000000 in
set_option maxRecDepth 100000 in
theorem one_any (k : Int) (s : ByteArray) (eao : Option Addr) (en ecap : Nat) (c : Int) (bao : Option Addr) (bn bcap : Nat) (lao : Option Addr) (ln lcap : Nat) (a : Int) (w : World) :
    Calls Tryz.prog 68 #[.agg #[.int .i64 k, .string s, .slice eao en ecap, .int .i64 c, .slice bao bn bcap, .slice lao ln lcap, .int .i64 a]] w fun e w' =>
      ∃ g, e = .returned (.slice (some ⟨g, 0, none⟩) 1 1) ∧ w.heap.size ≤ g ∧ g < w'.heap.size ∧ w'.heap[g]? = some (.cells #[.int .i64 k, .string s, .slice eao en ecap, .int .i64 c, .slice bao bn bcap, .slice lao ln lcap, .int .i64 a] 60 (0, 0)) ∧ Below w.heap.size w w' := by
  go_enter Tryz.func68, Tryz.ntmps68
  go_wp2
  go_ret
  refine ⟨_, rfl, ?_, ?_, ?_, ((Below.refl _ _).alloc (Nat.le_refl _) _).alloc (by simp) _⟩
  · simp
  · simp
  · rw [alloc_at, if_pos (by simp)]

/-- One statement of one expression. -/
theorem made_one {B bm n g : Nat} {w w1 w2 w3 : World} {k : Int} {s : ByteArray} {E : Env} {tn : Tree × List UInt8} {x0 x1 x2 x3 x4 x5 : Value} (hs : s.size ≤ 35184372088832) (hB : B ≤ w.heap.size) (hK : KeepM B w w2)
    (hE : ERep w1.heap.size w2.heap.size w2 13 (.agg #[x0, x1, x2, x3, x4, x5]) tn.1) (hz : w.heap.size ≤ w1.heap.size) (hM : MakerAt B bm E tn.2 w2) (hb : Below (w2.alloc (.cells #[x0, x1, x2, x3, x4, x5] 57)).heap.size (w2.alloc (.cells #[x0, x1, x2, x3, x4, x5] 57)) w3)
    (hgl : (w2.alloc (.cells #[x0, x1, x2, x3, x4, x5] 57)).heap.size ≤ g) (hgr : g < w3.heap.size)
    (hg : w3.heap[g]? = some (.cells #[.int .i64 k, .string s, .slice (some ⟨w2.heap.size, 0, none⟩) 1 1, .int .i64 0, .slice none 0 0, .slice none 0 0, .int .i64 0] 60 (0, 0))) :
    MadeS B bm (n + 1) w ([stmE k s [tn.1]], E, tn.2) (.returned (.slice (some ⟨g, 0, none⟩) 1 1)) w3 := by
  have hz2 := hK.size
  have hz3 := hb.size
  rw [alloc_size] at hz3 hgl
  have hold : ∀ k, k < w2.heap.size → w3.heap[k]? = w2.heap[k]? := fun k hk => by
    rw [hb.block k (by rw [alloc_size]; omega), alloc_at, if_neg (by omega)]
  have hE3 : ERep w.heap.size w3.heap.size w3 13 (.agg #[x0, x1, x2, x3, x4, x5]) tn.1 := hE.carry hz (by omega) fun g cs fr _ hlt hc => (hold g hlt).trans hc
  have hp : w3.heap[w2.heap.size]? = some (.cells #[x0, x1, x2, x3, x4, x5] 57 (0, 0)) := by
    rw [hb.block _ (by rw [alloc_size]; omega), alloc_at, if_pos rfl]
  have hb2 : Below w2.heap.size w2 w3 := ((Below.refl w2.heap.size w2).alloc (Nat.le_refl _) (.cells #[x0, x1, x2, x3, x4, x5] 57)).trans (hb.mono (by rw [alloc_size]; omega))
  refine ⟨_, rfl, stms1 hg (by omega) hgr (srepE (es := [tn.1]) hs ?_), hM.below hb2, hK.trans (KeepM.of_below (by omega) hb2)⟩
  exact kids1 hp (by omega) (by omega) hE3

/-- The cells of a statement in a list. -/
def Cells7 (xs : List Value) (i : Nat) (u : Value) : Prop :=
  ∃ c0 c1 c2 c3 c4 c5 c6, xs[i * 7]? = some c0 ∧ xs[i * 7 + 1]? = some c1 ∧ xs[i * 7 + 2]? = some c2 ∧ xs[i * 7 + 3]? = some c3 ∧ xs[i * 7 + 4]? = some c4 ∧ xs[i * 7 + 5]? = some c5 ∧ xs[i * 7 + 6]? = some c6 ∧ u = .agg #[c0, c1, c2, c3, c4, c5, c6]
/-- A list of statements that the call owns, from block lo on; what its statements have lies elsewhere. -/
def StRow (lo n : Nat) (w : World) (v : Value) (ss : List Stm) : Prop :=
  ∃ xs, w.ownsRow lo 60 7 v ss.length xs ∧ lo ≤ w.heap.size ∧ ∀ i s, ss[i]? = some s → ∃ a b u, Cells7 xs i u ∧ lo ≤ a ∧ b ≤ w.heap.size ∧ (∀ g, v.ownBlock = some g → g < a ∨ b ≤ g) ∧ SRep a b w 13 n u s
theorem StRow.nil {lo n : Nat} {w : World} (h : lo ≤ w.heap.size) : StRow lo n w (.slice none 0 0) [] := ⟨[], World.ownsRow_nil _ _ _ _, h, fun i s hs => by simp at hs⟩
theorem StRow.keep {lo n B : Nat} {w w' : World} {v : Value} {ss : List Stm} (h : StRow lo n w v ss) (hk : KeepM B w w') : StRow lo n w' v ss := by
  obtain ⟨xs, ho, hl, hr⟩ := h
  have hz := hk.size
  refine ⟨xs, ⟨ho.1, ?_⟩, by omega, fun i s hs => ?_⟩
  · rcases ho.2 with hn | ⟨g, cap, cur, rfl, hb, hgg, rest⟩
    · exact .inl hn
    · exact .inr ⟨g, cap, cur, rfl, hb, hk.2 g _ _ _ hgg (by decide) (by decide) (by decide) (by decide), rest⟩
  · obtain ⟨a, b, u, hc, ha, hb, hg, hS⟩ := hr i s hs
    exact ⟨a, b, u, hc, ha, by omega, hg, hS.carry (Nat.le_refl _) (Nat.le_refl _) (hk.same35 a b) (hk.same45 a b)⟩
theorem StRow.drew {lo n : Nat} {w : World} {v : Value} {ss : List Stm} (h : StRow lo n w v ss) : StRow lo n w.drew v ss := h.keep ((KeepM.refl 0 w).drew)
theorem KeepM.grow {B : Nat} {w0 w w' : World} {row : Option Nat} (h : KeepM B w0 w) (hB : B ≤ w0.heap.size) (hg : w.grownBy w' row) (hr : ∀ k, row = some k → w0.heap.size ≤ k) : KeepM B w0 w' := by
  have hz := h.size
  have key : ∀ k, k < w0.heap.size → w'.heap[k]? = w.heap[k]? := fun k hk => hg.block k (by omega) (fun e => by have := hr k e.symm; omega)
  refine ⟨⟨hg.os.trans h.1.os, hg.tape.trans h.1.tape, hg.output.trans h.1.output, by have := hg.size; omega, fun k hk => (key k (by omega)).trans (h.1.block k hk)⟩, fun k cs t fr hk a b c d => ?_⟩
  exact (key k (heap_lt hk)).trans (h.2 k cs t fr hk a b c d)
/-- A list of statements as it is read. -/
theorem StRow.stms {lo n : Nat} {w : World} {v : Value} {ss : List Stm} (h : StRow lo n w v ss) (hlen : ss.length ≤ 4294967296) : Stms lo w.heap.size w (fun v' s' => SRep lo w.heap.size w 13 n v' s') v ss := by
  obtain ⟨xs, ho, hl, hr⟩ := h
  rcases ho.2 with ⟨rfl, h0⟩ | ⟨g, cap, cur, rfl, hb, hgg, rest⟩
  · rw [List.length_eq_zero_iff.1 h0]; exact stms0
  · refine ⟨_, cap, rfl, hlen, fun i s hs => ?_⟩
    obtain ⟨a, b, u, ⟨c0, c1, c2, c3, c4, c5, c6, e0, e1, e2, e3, e4, e5, e6, rfl⟩, ha, hb', hg, hS⟩ := hr i s hs
    have key : ∀ j u, xs[j]? = some u → w.cell? ⟨g, 0 + j, none⟩ = some u := fun j u hu => by
      have := ho.cells (g := g) rfl j u hu
      rwa [Lib.add_plain] at this
    refine ⟨g, 0, c0, c1, c2, c3, c4, c5, c6, rfl, hb, heap_lt hgg, ⟨_, _, hgg, rfl, rfl⟩, key _ _ e0, ?_, ?_, ?_, ?_, ?_, ?_, hS.carry ha hb' (Same35.refl _ _ _) (fun _ _ _ _ _ h => h)⟩
    · have := key _ _ e1; rwa [← Nat.add_assoc] at this
    · have := key _ _ e2; rwa [← Nat.add_assoc] at this
    · have := key _ _ e3; rwa [← Nat.add_assoc] at this
    · have := key _ _ e4; rwa [← Nat.add_assoc] at this
    · have := key _ _ e5; rwa [← Nat.add_assoc] at this
    · have := key _ _ e6; rwa [← Nat.add_assoc] at this

/-- The cells of a list that is read. -/
theorem stms_cells {lo B n : Nat} {w : World} {v : Value} {ss : List Stm} (h : Stms lo B w (fun v' s' => SRep lo B w 13 n v' s') v ss) (hne : 0 < ss.length) :
    ∃ g off cap news, v = .slice (some ⟨g, off, none⟩) ss.length cap ∧ news.length = ss.length * 7 ∧ (∀ j u, news[j]? = some u → w.cell? ((⟨g, off, none⟩ : Addr).add j) = some u) ∧ (∀ u ∈ news, u.oneCell' = true) ∧ ∀ i s, ss[i]? = some s → ∃ u, Cells7 news i u ∧ SRep lo B w 13 n u s := by
  obtain ⟨ao, cap, rfl, hl, hr⟩ := h
  obtain ⟨g, off, _, _, _, _, _, _, _, rfl, _⟩ := hr 0 ss[0] (by simp [hne])
  have at7 : ∀ i s, ss[i]? = some s → ∃ c0 c1 c2 c3 c4 c5 c6, w.cell? ⟨g, off + i * 7, none⟩ = some c0 ∧ w.cell? ⟨g, off + i * 7 + 1, none⟩ = some c1 ∧ w.cell? ⟨g, off + i * 7 + 2, none⟩ = some c2 ∧ w.cell? ⟨g, off + i * 7 + 3, none⟩ = some c3 ∧ w.cell? ⟨g, off + i * 7 + 4, none⟩ = some c4 ∧ w.cell? ⟨g, off + i * 7 + 5, none⟩ = some c5 ∧ w.cell? ⟨g, off + i * 7 + 6, none⟩ = some c6 ∧ SRep lo B w 13 n (.agg #[c0, c1, c2, c3, c4, c5, c6]) s := fun i s hs => by
    obtain ⟨g', off', c0, c1, c2, c3, c4, c5, c6, e, _, _, _, h0, h1, h2, h3, h4, h5, h6, hS⟩ := hr i s hs
    simp only [Option.some.injEq, Addr.mk.injEq] at e
    obtain ⟨rfl, rfl, _⟩ := e
    exact ⟨c0, c1, c2, c3, c4, c5, c6, h0, h1, h2, h3, h4, h5, h6, hS⟩
  have one7 : ∀ {c0 c1 c2 c3 c4 c5 c6 : Value} {s : Stm}, SRep lo B w 13 n (.agg #[c0, c1, c2, c3, c4, c5, c6]) s → c0.oneCell' = true ∧ c1.oneCell' = true ∧ c2.oneCell' = true ∧ c3.oneCell' = true ∧ c4.oneCell' = true ∧ c5.oneCell' = true ∧ c6.oneCell' = true := fun {c0 c1 c2 c3 c4 c5 c6 s} hS => by
    cases n with
    | zero => exact hS.elim
    | succ n =>
      obtain ⟨_, _, _, _, _, _, _, _, _, hv, _⟩ := hS
      simp only [Value.agg.injEq, Array.mk.injEq, List.cons.injEq, and_true] at hv
      obtain ⟨rfl, rfl, rfl, rfl, rfl, rfl, rfl⟩ := hv
      simp [Value.oneCell']
  have cellAt : ∀ j, j < ss.length * 7 → ∃ u, w.cell? ⟨g, off + j, none⟩ = some u ∧ u.oneCell' = true := fun j hj => by
    have hi : j / 7 < ss.length := by omega
    obtain ⟨c0, c1, c2, c3, c4, c5, c6, h0, h1, h2, h3, h4, h5, h6, hS⟩ := at7 (j / 7) ss[j / 7] (by simp [hi])
    obtain ⟨o0, o1, o2, o3, o4, o5, o6⟩ := one7 hS
    have hr7 : j % 7 < 7 := Nat.mod_lt _ (by decide)
    have hj7 : j = j / 7 * 7 + j % 7 := by omega
    generalize j % 7 = r at hr7 hj7
    generalize j / 7 = q at hj7 h0 h1 h2 h3 h4 h5 h6
    subst hj7
    rw [← Nat.add_assoc]
    match r, hr7 with
    | 0, _ => exact ⟨c0, h0, o0⟩
    | 1, _ => exact ⟨c1, h1, o1⟩
    | 2, _ => exact ⟨c2, h2, o2⟩
    | 3, _ => exact ⟨c3, h3, o3⟩
    | 4, _ => exact ⟨c4, h4, o4⟩
    | 5, _ => exact ⟨c5, h5, o5⟩
    | 6, _ => exact ⟨c6, h6, o6⟩
  refine ⟨g, off, cap, (List.range (ss.length * 7)).map fun j => (w.cell? ⟨g, off + j, none⟩).getD undef, rfl, by simp, ?_, ?_, ?_⟩
  · intro j u hu
    by_cases hj : j < ss.length * 7
    · rw [List.getElem?_map, List.getElem?_range hj, Option.map_some] at hu
      obtain ⟨x, hx, _⟩ := cellAt j hj
      rw [Lib.add_plain, hx]
      rw [hx] at hu
      simpa using hu
    · rw [List.getElem?_eq_none (by simp; omega)] at hu
      cases hu
  · intro u hu
    obtain ⟨j, hj, rfl⟩ := List.mem_map.1 hu
    obtain ⟨x, hx, hx1⟩ := cellAt j (List.mem_range.1 hj)
    rw [hx]
    exact hx1
  · intro i s hs
    obtain ⟨c0, c1, c2, c3, c4, c5, c6, h0, h1, h2, h3, h4, h5, h6, hS⟩ := at7 i s hs
    have hi : i < ss.length := (List.getElem?_eq_some_iff.1 hs).1
    refine ⟨_, ⟨c0, c1, c2, c3, c4, c5, c6, ?_, ?_, ?_, ?_, ?_, ?_, ?_, rfl⟩, hS⟩
    all_goals
      rw [List.getElem?_map, List.getElem?_range (by omega), Option.map_some]
      try rw [← Nat.add_assoc]
      first | rw [h0] | rw [h1] | rw [h2] | rw [h3] | rw [h4] | rw [h5] | rw [h6]
      rfl

theorem infoStmt : (Tryz.prog.info? 60).map (fun i => (i.zero, i.size, i.bytes)) = some (some (.agg #[.int .i64 0, .string ⟨#[]⟩, .slice none 0 0, .int .i64 0, .slice none 0 0, .slice none 0 0, .int .i64 0]), 7, 112) := by kernel_rfl
theorem cells7_left {xs ys : List Value} {i : Nat} {u : Value} (h : Cells7 xs i u) : Cells7 (xs ++ ys) i u := by
  obtain ⟨c0, c1, c2, c3, c4, c5, c6, e0, e1, e2, e3, e4, e5, e6, rfl⟩ := h
  have key : ∀ {j : Nat} {c : Value}, xs[j]? = some c → (xs ++ ys)[j]? = some c := fun {j c} h => by
    rw [List.getElem?_append_left (List.getElem?_eq_some_iff.1 h).1]; exact h
  exact ⟨c0, c1, c2, c3, c4, c5, c6, key e0, key e1, key e2, key e3, key e4, key e5, key e6, rfl⟩
theorem cells7_right {xs ys : List Value} {n i : Nat} {u : Value} (hl : xs.length = n * 7) (h : Cells7 ys i u) : Cells7 (xs ++ ys) (n + i) u := by
  obtain ⟨c0, c1, c2, c3, c4, c5, c6, e0, e1, e2, e3, e4, e5, e6, rfl⟩ := h
  have key : ∀ {j k : Nat} {c : Value}, ys[j]? = some c → k = n * 7 + j → (xs ++ ys)[k]? = some c := fun {j k c} h e => by
    rw [List.getElem?_append_right (by omega), show k - xs.length = j by omega]; exact h
  exact ⟨c0, c1, c2, c3, c4, c5, c6, key e0 (by omega), key e1 (by omega), key e2 (by omega), key e3 (by omega), key e4 (by omega), key e5 (by omega), key e6 (by omega), rfl⟩
/-- Statements more: 'append(out, more...)'. -/
theorem wpList_append_st {ops : Array Oper} {rest : List Oper} {o : Oper} {act : Act} {Q : Exit → Act → World → Prop} (w : World) (hgd : o.guard = none) (s x : Operand)
    (ho : o.op = .call { callee := .builtin .append, args := #[s, x], argTypes := #[52, 52] }) (lo a b n : Nat) (v v2 : Value) (ss ss2 : List Stm) (hs : act.eval s = v) (hx : act.eval x = v2)
    (hR : StRow lo n w v ss) (hS : Stms a b w (fun v' s' => SRep a b w 13 n v' s') v2 ss2) (hlo : lo ≤ a) (hbw : b ≤ w.heap.size) (hga : ∀ g, v.ownBlock = some g → g < a ∨ b ≤ g) (hne : 0 < ss2.length) (hlen : ss.length + ss2.length ≤ 1000000)
    (h : ∀ g cap w', StRow lo n w' (.slice (some ⟨g, 0, none⟩) (ss ++ ss2).length cap) (ss ++ ss2) → w.grownBy w' v.ownBlock → wpList Tryz.prog ops Q rest (act.put o.dst (.slice (some ⟨g, 0, none⟩) (ss ++ ss2).length cap)) w') : wpList Tryz.prog ops Q (o :: rest) act w := by
  obtain ⟨xs, hown, hl, hr⟩ := hR
  obtain ⟨g2, off, cap2, news, rfl, hnl, hnews, hn1, hnr⟩ := stms_cells hS hne
  obtain ⟨i0, hi, hz0, hz1, hz2⟩ := info_parts infoStmt
  refine wpList_append_lies w hgd s x 52 ho lo 60 i0 _ 7 112 Tryz.underlying52 hi hz0 hz1 hz2 rfl (by decide) v ss.length xs hs hown ⟨g2, off, none⟩ ss2.length cap2 news hx hnl hnews hn1 hne (by unfold maxLen; omega) (by omega) hl w.heap.size rfl ?_
  intro g cap w' hown' hgrow hat hlt
  have hz := hgrow.size
  have e : ss.length + ss2.length = (ss ++ ss2).length := by simp
  rw [e] at hown' ⊢
  refine h g cap w' ⟨_, hown', by omega, fun i s hs => ?_⟩ hgrow
  have same : ∀ {p q : Nat}, q ≤ w.heap.size → (∀ g, v.ownBlock = some g → g < p ∨ q ≤ g) → ∀ k, p ≤ k → k < q → w'.heap[k]? = w.heap[k]? := fun {p q} hq hg k hp hk => hgrow.block k (by omega) (fun e => by rcases hg k e.symm with h | h <;> omega)
  have far : ∀ {p q : Nat}, q ≤ w.heap.size → (∀ g, v.ownBlock = some g → g < p ∨ q ≤ g) → ∀ g', (Value.slice (some ⟨g, 0, none⟩) (ss ++ ss2).length cap).ownBlock = some g' → g' < p ∨ q ≤ g' := fun {p q} hq hg g' e' => by
    have : g = g' := by simpa [Value.ownBlock] using e'
    subst this
    rcases hat with h | h
    · exact hg g h
    · right; omega
  by_cases hlt : i < ss.length
  · rw [List.getElem?_append_left hlt] at hs
    obtain ⟨p, q, u, hc, hp, hq, hg, hS'⟩ := hr i s hs
    exact ⟨p, q, u, cells7_left hc, hp, by omega, far hq hg, hS'.carry (Nat.le_refl _) (Nat.le_refl _) (fun k cs fr hk1 hk2 hc => (same hq hg k hk1 hk2).trans hc) (fun k cs fr hk1 hk2 hc => (same hq hg k hk1 hk2).trans hc)⟩
  · rw [List.getElem?_append_right (by omega)] at hs
    obtain ⟨u, hc, hS'⟩ := hnr _ s hs
    have hc' := cells7_right hown.1 hc
    rw [show ss.length + (i - ss.length) = i by omega] at hc'
    exact ⟨a, b, u, hc', hlo, by omega, far hbw hga, hS'.carry (Nat.le_refl _) (Nat.le_refl _) (fun k cs fr hk1 hk2 hc => (same hbw hga k hk1 hk2).trans hc) (fun k cs fr hk1 hk2 hc => (same hbw hga k hk1 hk2).trans hc)⟩
/-- The maker stands while a list of statements grows. -/
theorem MakerAt.grow {B bm lo n : Nat} {E : Env} {ns : List UInt8} {w w' : World} {v : Value} {ss : List Stm} (h : MakerAt B bm E ns w) (hR : StRow lo n w v ss) (hlo : B ≤ lo) (hg : w.grownBy w' v.ownBlock) : MakerAt B bm E ns w' := by
  have hB := h.base
  obtain ⟨xs, ho, _, _⟩ := hR
  obtain ⟨h1, nv, lv, sv, cv, h2, h3, h4, h5, h6, h7⟩ := h
  have hne : ∀ k, v.ownBlock = some k → B ≤ k := fun k hk => by have := (ho.lt k hk).1; omega
  have old : ∀ {k : Nat} {cs : Array Value} {t : TypeId} {fr : Nat × Nat}, w.heap[k]? = some (.cells cs t fr) → t ≠ 60 → w'.heap[k]? = some (.cells cs t fr) := fun {k cs t fr} hk ht => (hg.block k (heap_lt hk) (fun e => by
    rcases ho.2 with ⟨rfl, _⟩ | ⟨g, cap, cur, rfl, _, hgg, _⟩
    · cases e
    · cases e; rw [hgg] at hk; cases hk; exact ht rfl)).trans hk
  have kept : ∀ {e : TypeId} {u : Value} {m : Nat} {ys : List Value}, w.ownsRow B e 1 u m ys → e ≠ 60 → w'.ownsRow B e 1 u m ys := fun {e u m ys} hu ht => by
    refine ⟨hu.1, ?_⟩
    rcases hu.2 with hn | ⟨g, cap, cur, rfl, hb, hgg, rest⟩
    · exact .inl hn
    · exact .inr ⟨g, cap, cur, rfl, hb, old hgg ht, rest⟩
  exact ⟨h1, nv, lv, sv, cv, old h2 (by decide), h3.on (fun k hk => hg.block k (by omega) (fun e => by have := hne k e.symm; omega)), kept h4 (by decide), kept h5 (by decide), kept h6 (by decide), h7⟩
end Go.Proofs.YtfginegegaokbaaGreatDoor
