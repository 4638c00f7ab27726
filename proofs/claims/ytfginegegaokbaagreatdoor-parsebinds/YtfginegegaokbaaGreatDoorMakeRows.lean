/- Lists of declarations and of threads that a call owns, and how they grow. Conditions: none. -/
import Derived.Test.YtfginegegaokbaaGreatDoorMakeStmAll
import Derived.Test.YtfginegegaokbaaGreatDoorTextAll
namespace Go.Proofs.YtfginegegaokbaaGreatDoor
open Go.ChangeShapes Go.WideShapes Go.ChangeAt Go.RowKit
set_option linter.unusedVariables false
set_option linter.unusedSimpArgs false

/-- Blocks of a type stand as they stood. -/
def TSame (t : TypeId) (w w' : World) : Prop := ∀ (k : Nat) (cs : Array Value) (fr : Nat × Nat), w.heap[k]? = some (.cells cs t fr) → w'.heap[k]? = some (.cells cs t fr)
theorem TSame.trans {t : TypeId} {a b c : World} (h : TSame t a b) (k : TSame t b c) : TSame t a c := fun i cs fr hi => k i cs fr (h i cs fr hi)
theorem TSame.of_keep {t : TypeId} {B : Nat} {w w' : World} (h : KeepM B w w') (h1 : t ≠ 73) (h2 : t ≠ 9) (h3 : t ≠ 4) (h4 : t ≠ 3) : TSame t w w' := fun k cs fr hk => h.2 k cs t fr hk h1 h2 h3 h4
theorem TSame.alloc (t : TypeId) (w : World) (o : Obj) : TSame t w (w.alloc o) := fun k cs fr hk => alloc_keep hk o
theorem TSame.of_row {t u : TypeId} {w w' : World} {lo sz n : Nat} {v : Value} {xs : List Value} (ho : w.ownsRow lo u sz v n xs) (hg : w.grownBy w' v.ownBlock) (hne : t ≠ u) : TSame t w w' := fun k cs fr hk => (hg.block k (heap_lt hk) (fun e => by
  rcases ho.2 with ⟨rfl, _⟩ | ⟨g, cap, cur, rfl, _, hgg, _⟩
  · cases e
  · cases e; rw [hgg] at hk; cases hk; exact hne rfl)).trans hk
theorem TSame.of_set {t u : TypeId} {w : World} {r : Nat} {cs : Array Value} {fr : Nat × Nat} (hr : w.heap[r]? = some (.cells cs u fr)) (hne : t ≠ u) (j : Nat) (x : Value) : TSame t w (w.setCell ⟨r, j, none⟩ x) := fun k c f hk => (Below.heap_setCell _ _ _ _ (show k ≠ r from fun e => by subst e; rw [hr] at hk; cases hk; exact hne rfl)).trans hk
theorem own_same {w w' : World} {lo sz n : Nat} {t : TypeId} {v : Value} {xs : List Value} (h : w.ownsRow lo t sz v n xs) (hs : TSame t w w') : w'.ownsRow lo t sz v n xs := by
  refine ⟨h.1, ?_⟩
  rcases h.2 with hn | ⟨g, cap, cur, rfl, hb, hgg, rest⟩
  · exact .inl hn
  · exact .inr ⟨g, cap, cur, rfl, hb, hs _ _ _ hgg, rest⟩
theorem TSame.s35 {w w' : World} (h : TSame 57 w w') (lo hi : Nat) : Same35 lo hi w w' := fun k cs fr _ _ hk => h k cs fr hk
theorem TSame.s45 {w w' : World} (h : TSame 60 w w') (lo hi : Nat) : Same45 lo hi w w' := fun k cs fr _ _ hk => h k cs fr hk

def dcells (d : Dcl) : List Value := [.bool d.lock, .int .i64 d.label, .string d.name, .int .i64 d.size, .string d.by_, .int .i64 d.at_]
theorem dcells_len (ds : List Dcl) : ((ds.map dcells).flatten).length = ds.length * 6 := by
  induction ds with
  | nil => rfl
  | cons d ds ih => simp only [List.map_cons, List.flatten_cons, List.length_append, ih, List.length_cons]; simp [dcells]; omega
theorem dcells_at : ∀ (ds : List Dcl) (i : Nat) (d : Dcl) (r : Nat), ds[i]? = some d → r < 6 → ((ds.map dcells).flatten)[i * 6 + r]? = (dcells d)[r]?
  | [], i, d, r, h, _ => by simp at h
  | x :: ds, 0, d, r, h, hr => by
    simp at h; subst h
    simp only [List.map_cons, List.flatten_cons]
    rw [List.getElem?_append_left (by simp [dcells]; omega)]
    simp
  | x :: ds, i + 1, d, r, h, hr => by
    have ih := dcells_at ds i d r (by simpa using h) hr
    simp only [List.map_cons, List.flatten_cons]
    rw [List.getElem?_append_right (by simp [dcells]; omega), ← ih]
    congr 1
    simp [dcells]; omega
/-- A list of declarations that the call owns. -/
def DlRow (lo : Nat) (w : World) (v : Value) (ds : List Dcl) : Prop := w.ownsRow lo 68 6 v ds.length ((ds.map dcells).flatten)
theorem DlRow.dcls {lo : Nat} {w : World} {v : Value} {ds : List Dcl} (h : DlRow lo w v ds) (hlen : ds.length ≤ 4294967296) (hf : ∀ d ∈ ds, dfit d) : Dcls lo w.heap.size w v ds := by
  rcases h.2 with ⟨rfl, h0⟩ | ⟨g, cap, cur, rfl, hb, hgg, rest⟩
  · rw [List.length_eq_zero_iff.1 h0]; exact ⟨none, 0, rfl, by simp, fun i d hd => by simp at hd⟩
  · refine ⟨_, cap, rfl, hlen, fun i d hd => ⟨hf d (List.mem_of_getElem? hd), g, 0, rfl, hb, heap_lt hgg, ⟨_, _, hgg, rfl⟩, ?_⟩⟩
    have key : ∀ r u, r < 6 → (dcells d)[r]? = some u → w.cell? ⟨g, 0 + i * 6 + r, none⟩ = some u := fun r u hr hu => by
      have := World.ownsRow.cells h (g := g) rfl (i * 6 + r) u (by rw [dcells_at ds i d r hd hr]; exact hu)
      rw [Lib.add_plain] at this
      rw [Nat.add_assoc]; exact this
    exact ⟨key 0 _ (by omega) rfl, key 1 _ (by omega) rfl, key 2 _ (by omega) rfl, key 3 _ (by omega) rfl, key 4 _ (by omega) rfl, key 5 _ (by omega) rfl⟩
/-- A list of threads that the call owns. -/
def ThRow (lo n : Nat) (w : World) (v : Value) (ts : List (List Stm)) : Prop :=
  ∃ xs : List Value, w.ownsRow lo 52 1 v ts.length xs ∧ ∀ (i : Nat) (ss : List Stm), ts[i]? = some ss → ∃ a b ao cap, xs[i]? = some (Value.slice ao ss.length cap) ∧ lo ≤ a ∧ b ≤ w.heap.size ∧ Stms a b w (fun v' s' => SRep a b w 13 n v' s') (.slice ao ss.length cap) ss
theorem ThRow.nil {lo n : Nat} {w : World} : ThRow lo n w (.slice none 0 0) [] := ⟨[], World.ownsRow_nil _ _ _ _, fun i s hs => by simp at hs⟩
theorem Stms.same {a b n : Nat} {w w' : World} {v : Value} {ss : List Stm} (h : Stms a b w (fun v' s' => SRep a b w 13 n v' s') v ss) (h45 : TSame 60 w w') (h35 : TSame 57 w w') : Stms a b w' (fun v' s' => SRep a b w' 13 n v' s') v ss :=
  h.carry (Nat.le_refl _) (Nat.le_refl _) (h45.s45 a b) fun _ _ hr => hr.carry (Nat.le_refl _) (Nat.le_refl _) (h35.s35 a b) (h45.s45 a b)
theorem ThRow.same {lo n : Nat} {w w' : World} {v : Value} {ts : List (List Stm)} (h : ThRow lo n w v ts) (hz : w.heap.size ≤ w'.heap.size) (h1 : TSame 52 w w') (h45 : TSame 60 w w') (h35 : TSame 57 w w') : ThRow lo n w' v ts := by
  obtain ⟨xs, ho, hr⟩ := h
  refine ⟨xs, own_same ho h1, fun i ss hs => ?_⟩
  obtain ⟨a, b, ao, cap, hx, ha, hb, hS⟩ := hr i ss hs
  exact ⟨a, b, ao, cap, hx, ha, by omega, hS.same h45 h35⟩
theorem ThRow.thrs {lo n : Nat} {w : World} {v : Value} {ts : List (List Stm)} (h : ThRow lo n w v ts) (hlen : ts.length ≤ 4294967296) : Thrs lo w.heap.size 13 n w v ts := by
  obtain ⟨xs, ho, hr⟩ := h
  rcases ho.2 with ⟨rfl, h0⟩ | ⟨g, cap, cur, rfl, hb, hgg, rest⟩
  · rw [List.length_eq_zero_iff.1 h0]; exact ⟨none, 0, rfl, by simp, fun i d hd => by simp at hd⟩
  · refine ⟨_, cap, rfl, hlen, fun i ss hs => ?_⟩
    obtain ⟨a, b, ao, cap', hx, ha, hb', hS⟩ := hr i ss hs
    have hc := ho.cells (g := g) rfl i _ hx
    rw [Lib.add_plain] at hc
    exact ⟨g, 0, ao, cap', rfl, hb, heap_lt hgg, ⟨_, _, hgg⟩, hc, hS.carry ha hb' (fun _ _ _ _ _ h => h) fun _ _ hr => hr.carry ha hb' (Same35.refl _ _ _) (fun _ _ _ _ _ h => h)⟩
theorem infoDecl : (Tryz.prog.info? 68).map (fun i => (i.zero, i.size, i.bytes)) = some (some (.agg #[.bool false, .int .i64 0, .string ⟨#[]⟩, .int .i64 0, .string ⟨#[]⟩, .int .i64 0]), 6, 64) := by kernel_rfl
theorem infoStmts : (Tryz.prog.info? 52).map (fun i => (i.zero, i.size, i.bytes)) = some (some (.slice none 0 0), 1, 24) := by kernel_rfl
/-- Four declarations more. -/
theorem wpList_append_dl {ops : Array Oper} {rest : List Oper} {o : Oper} {act : Act} {Q : Exit → Act → World → Prop} (W : World) (d0 d1 d2 d3 : Dcl) (hgd : o.guard = none) (s x : Operand)
    (ho : o.op = .call { callee := .builtin .append, args := #[s, x], argTypes := #[24, 24] }) (lo : Nat) (v : Value) (ds : List Dcl) (hs : act.eval s = v) (hx : act.eval x = .slice (some ⟨W.heap.size, 0, none⟩) 4 4)
    (hR : DlRow lo W v ds) (hlo : lo ≤ W.heap.size) (hlen : ds.length ≤ 1000)
    (h : ∀ g cap w', DlRow lo w' (.slice (some ⟨g, 0, none⟩) (ds.length + 4) cap) (ds ++ [d0, d1, d2, d3]) → (W.alloc (.cells #[.bool d0.lock, .int .i64 d0.label, .string d0.name, .int .i64 d0.size, .string d0.by_, .int .i64 d0.at_, .bool d1.lock, .int .i64 d1.label, .string d1.name, .int .i64 d1.size, .string d1.by_, .int .i64 d1.at_, .bool d2.lock, .int .i64 d2.label, .string d2.name, .int .i64 d2.size, .string d2.by_, .int .i64 d2.at_, .bool d3.lock, .int .i64 d3.label, .string d3.name, .int .i64 d3.size, .string d3.by_, .int .i64 d3.at_] 68)).grownBy w' v.ownBlock →
      wpList Tryz.prog ops Q rest (act.put o.dst (.slice (some ⟨g, 0, none⟩) (ds.length + 4) cap)) w') :
    wpList Tryz.prog ops Q (o :: rest) act (W.alloc (.cells #[.bool d0.lock, .int .i64 d0.label, .string d0.name, .int .i64 d0.size, .string d0.by_, .int .i64 d0.at_, .bool d1.lock, .int .i64 d1.label, .string d1.name, .int .i64 d1.size, .string d1.by_, .int .i64 d1.at_, .bool d2.lock, .int .i64 d2.label, .string d2.name, .int .i64 d2.size, .string d2.by_, .int .i64 d2.at_, .bool d3.lock, .int .i64 d3.label, .string d3.name, .int .i64 d3.size, .string d3.by_, .int .i64 d3.at_] 68)) := by
  obtain ⟨i0, hi, hz0, hz1, hz2⟩ := info_parts infoDecl
  refine wpList_append_lies _ hgd s x 24 ho lo 68 i0 _ 6 64 Tryz.underlying24 hi hz0 hz1 hz2 rfl (by decide) v ds.length _ hs (own_same hR (TSame.alloc _ _ _)) ⟨W.heap.size, 0, none⟩ 4 4 (([d0, d1, d2, d3].map dcells).flatten) hx (by simp [dcells]) (fun j u hu => World.news_of_block (heap_alloc_new W _) j u (by simpa [dcells] using hu)) (by simp [dcells, Value.oneCell']) (by omega) (by unfold maxLen; omega) (by omega) (by rw [alloc_size]; omega) _ rfl ?_
  intro g cap w' hown hgrow hat hlt
  refine h g cap w' ?_ hgrow
  show w'.ownsRow lo 68 6 _ _ _
  rw [List.map_append, List.flatten_append, List.length_append]
  exact hown
end Go.Proofs.YtfginegegaokbaaGreatDoor
