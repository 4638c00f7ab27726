/- A scope as it lies in memory: what names stand for is a map's, the locals a list's. Conditions: none. -/
import Derived.Test.YtnpennclgenppaaDoorRows
import Derived.WalkKit
import Derived.ProofKit
import Derived.OpenShut
import Derived.RegionTactic
import Derived.Laws.Externs
import Derived.Maps.OwnSet
import Derived.Maps.AppendAt
import Derived.BigCall
import Derived.BigQuiet
import Derived.BigRegion
import Derived.BigGuard
import Derived.Lib.ConvBytes
import Derived.RegionCalls
import Derived.Handy
import Derived.Deep.RegionWith
import Derived.Lib.Hide
import Derived.Lib.Builder
namespace Go.Proofs.YtnpennclgenppaaDoor
open Go.ChangeShapes Go.WideShapes Go.RowKit Go.Maps
set_option linter.unusedVariables false
set_option linter.unusedSimpArgs false

/-- What a name stands for. -/
structure Mng where
  kind : Int
  label : Int
  count : Int
  by_ : ByteArray
def mnone : Mng := ⟨0, 0, 0, ⟨#[]⟩⟩
@[reducible] def mval (m : Mng) : Value := .agg #[.int .i64 m.kind, .int .i64 m.label, .int .i64 m.count, .string m.by_]
def mread : Value → Option (DataW Mng × List MemPlace)
  | .agg cs => match cs.toList with | [.int .i64 k, .int .i64 l, .int .i64 c, .string s] => some (.held ⟨k, l, c, s⟩, []) | _ => none
  | _ => none
theorem mread_mk (m : Mng) : mread (mval m) = some (.held m, []) := rfl
theorem mread_inv {v : Value} {m : Mng} {ps : List MemPlace} (h : mread v = some (.held m, ps)) : v = mval m := by
  unfold mread at h
  split at h
  · rename_i cs
    split at h
    · rename_i k l c s e
      simp only [Option.some.injEq, Prod.mk.injEq, DataW.held.injEq] at h
      obtain ⟨rfl, _⟩ := h
      have : cs = #[.int .i64 k, .int .i64 l, .int .i64 c, .string s] := by rw [← Array.toList_inj, e]
      rw [this]
    · cases h
  · cases h
theorem law : Keyed Tryd.prog 9 := string_keyed Tryd.underlying9
theorem zeroM (w : World) : (zeroValue 55).run Tryd.prog w = .ok (mval mnone) w := by kernel_rfl
def klit (s : ByteArray) : Lit := .string s.data.toList
theorem klit_key (s : ByteArray) (h : s.size ≤ maxLen) : keyOf Tryd.prog 9 (.string s) = some (klit s) := WideMaps.keyOf_string_mk Tryd.underlying9 h
theorem klit_is (s : ByteArray) : WideAt.IsKeyLit (klit s) := by simp [klit, WideAt.IsKeyLit]
theorem klit_ne {s t : ByteArray} (h : s ≠ t) : klit s ≠ klit t := fun e => h (by
  unfold klit at e
  have e1 : s.data.toList = t.data.toList := by injection e
  have e2 : s.data = t.data := by rw [← Array.toList_inj]; exact e1
  exact ByteArray.ext e2)

/-- The datum says what the names stand for. -/
def Says (D : DataW Mng) (f : ByteArray → Mng) : Prop := ∀ s, D.atKey (klit s) (.held mnone) = .held (f s)
def put (f : ByteArray → Mng) (s : ByteArray) (m : Mng) : ByteArray → Mng := fun t => if t = s then m else f t
theorem put_same (f : ByteArray → Mng) (s : ByteArray) (m : Mng) : put f s m s = m := by simp [put]
theorem put_ne (f : ByteArray → Mng) (s t : ByteArray) (m : Mng) (h : t ≠ s) : put f s m t = f t := by simp [put, h]
theorem Says.put {D : DataW Mng} {f : ByteArray → Mng} (h : Says D f) (hD : IsMap D) (s : ByteArray) (m : Mng) : Says (D.put (klit s) (.held m)) (put f s m) := fun t => by
  by_cases e : t = s
  · subst e; rw [put_same]; exact atKey_put_same hD (klit_is _) _ _
  · rw [put_ne _ _ _ _ e, atKey_put_other (klit_ne e)]; exact h t
theorem Says.del {D : DataW Mng} {f : ByteArray → Mng} (h : Says D f) (s : ByteArray) : Says (D.del (klit s)) (YtnpennclgenppaaDoor.put f s mnone) := fun t => by
  by_cases e : t = s
  · subst e; rw [put_same]; exact atKey_del_same _
  · rw [put_ne _ _ _ _ e, atKey_del_other (klit_ne e)]; exact h t

/-- All blocks of X stand. -/
structure KeepX (X : Nat → Prop) (w w' : World) : Prop where
  os : w'.os = w.os
  tape : w'.tape = w.tape
  output : w'.output = w.output
  size : w.heap.size ≤ w'.heap.size
  block : ∀ k, X k → k < w.heap.size → w'.heap[k]? = w.heap[k]?
theorem KeepX.refl (X : Nat → Prop) (w : World) : KeepX X w w := ⟨rfl, rfl, rfl, Nat.le_refl _, fun _ _ _ => rfl⟩
theorem KeepX.trans {X : Nat → Prop} {a b c : World} (h : KeepX X a b) (k : KeepX X b c) : KeepX X a c :=
  ⟨k.os.trans h.os, k.tape.trans h.tape, k.output.trans h.output, Nat.le_trans h.size k.size, fun i hi hl => (k.block i hi (Nat.lt_of_lt_of_le hl h.size)).trans (h.block i hi hl)⟩
theorem KeepX.mono {X Y : Nat → Prop} {a b : World} (h : KeepX X a b) (hs : ∀ k, k < a.heap.size → Y k → X k) : KeepX Y a b := ⟨h.os, h.tape, h.output, h.size, fun k hk hl => h.block k (hs k hl hk) hl⟩
theorem KeepX.of_below {X : Nat → Prop} {w w' : World} (h : Below w.heap.size w w') : KeepX X w w' := ⟨h.os, h.tape, h.output, h.size, fun k _ hl => h.block k hl⟩
theorem KeepX.below {B : Nat} {w w' : World} (h : KeepX (· < B) w w') (hB : B ≤ w.heap.size) : Below B w w' := ⟨h.os, h.tape, h.output, h.size, fun k hk => h.block k hk (Nat.lt_of_lt_of_le hk hB)⟩
theorem KeepX.grown {X : Nat → Prop} {w w' : World} {row : Option Nat} (h : w.grownBy w' row) (hx : ∀ k, row = some k → ¬ X k) : KeepX X w w' :=
  ⟨h.os, h.tape, h.output, h.size, fun k hk hl => h.block k hl (fun e => hx k e.symm hk)⟩
theorem KeepX.setCell {X : Nat → Prop} {w w' : World} (h : KeepX X w w') {g o : Nat} (hg : ¬ X g ∨ w.heap.size ≤ g) (v : Value) : KeepX X w (w'.setCell ⟨g, o, none⟩ v) :=
  ⟨h.os, h.tape, h.output, by rw [show (w'.setCell ⟨g, o, none⟩ v).heap.size = w'.heap.size by simp [World.setCell]]; exact h.size, fun k hk hl => (Below.heap_setCell _ _ _ _ (show k ≠ g from fun e => by subst e; exact hg.elim (fun hg => hg hk) (fun hg => by omega))).trans (h.block k hk hl)⟩

/-- The scope at block bs: what names stand for, and its locals, all in blocks outside X. -/
def ScAt (X : Nat → Prop) (bs n : Nat) (f : ByteArray → Mng) (ls : List ByteArray) (w : World) : Prop :=
  ¬ X bs ∧ ∃ bm D lv, ¬ X bm ∧ w.heap[bs]? = some (.cells #[.map (some bm), lv] 52 (0, 0)) ∧ w.ownsMap Tryd.prog 9 mread bm n D ∧ Says D f ∧
    w.ownsRow 0 9 1 lv ls.length (ls.map Value.string) ∧ (∀ g, lv.ownBlock = some g → ¬ X g) ∧ ∀ s ∈ ls, s.size ≤ maxLen
theorem heap_lt {w : World} {k : Nat} {o : Obj} (h : w.heap[k]? = some o) : k < w.heap.size := (Array.getElem?_eq_some_iff.1 h).1
theorem own_keep {w w' : World} {e : TypeId} {sz n : Nat} {v : Value} {xs : List Value} (h : w.ownsRow 0 e sz v n xs) (hb : ∀ g, v.ownBlock = some g → w'.heap[g]? = w.heap[g]?) : w'.ownsRow 0 e sz v n xs := by
  refine ⟨h.1, ?_⟩
  rcases h.2 with hn | ⟨g, cap, cur, rfl, h0, hgg, rest⟩
  · exact .inl hn
  · exact .inr ⟨g, cap, cur, rfl, h0, (hb g rfl).trans hgg, rest⟩
theorem own_lt {w : World} {e : TypeId} {sz n : Nat} {v : Value} {xs : List Value} (h : w.ownsRow 0 e sz v n xs) {g : Nat} (hg : v.ownBlock = some g) : ∃ cur, w.heap[g]? = some (.cells cur e (0, 0)) := by
  rcases h.2 with ⟨rfl, _⟩ | ⟨g', cap, cur, rfl, h0, hgg, rest⟩
  · cases hg
  · cases hg; exact ⟨_, hgg⟩
theorem ScAt.below {X : Nat → Prop} {bs n : Nat} {f : ByteArray → Mng} {ls : List ByteArray} {w w' : World} (h : ScAt X bs n f ls w) (hb : Below w.heap.size w w') : ScAt X bs n f ls w' := by
  obtain ⟨hX, bm, D, lv, hm, hs, ho, hS, hr, hg, hl⟩ := h
  refine ⟨hX, bm, D, lv, hm, (hb.block _ (heap_lt hs)).trans hs, ho.kept (row := none) ⟨hb.os, hb.tape, hb.output, hb.size, fun k hk _ => hb.block k hk⟩ (by simp), hS, own_keep hr fun g e => ?_, hg, hl⟩
  obtain ⟨cur, hc⟩ := own_lt hr e
  exact hb.block _ (heap_lt hc)
theorem ScAt.more {X Y : Nat → Prop} {bs n : Nat} {f : ByteArray → Mng} {ls : List ByteArray} {w : World} (h : ScAt X bs n f ls w) (hs : ∀ k, k < w.heap.size → Y k → X k) : ScAt Y bs n f ls w := by
  obtain ⟨hX, bm, D, lv, hm, hb, ho, hS, hr, hg, hl⟩ := h
  refine ⟨fun y => hX (hs _ (heap_lt hb) y), bm, D, lv, fun y => hm (hs _ ho.lt y), hb, ho, hS, hr, fun g e y => hg g e (hs _ ?_ y), hl⟩
  obtain ⟨cur, hc⟩ := own_lt hr e
  exact heap_lt hc
theorem ScAt.lt {X : Nat → Prop} {bs n : Nat} {f : ByteArray → Mng} {ls : List ByteArray} {w : World} (h : ScAt X bs n f ls w) : bs < w.heap.size := by
  obtain ⟨hX, bm, D, lv, hm, hb, _⟩ := h
  exact heap_lt hb
theorem ScAt.drew {X : Nat → Prop} {bs n : Nat} {f : ByteArray → Mng} {ls : List ByteArray} {w : World} (h : ScAt X bs n f ls w) : ScAt X bs n f ls w.drew := h
theorem ScAt.mono {X : Nat → Prop} {bs n m : Nat} {f : ByteArray → Mng} {ls : List ByteArray} {w : World} (h : ScAt X bs n f ls w) (hn : n ≤ m) : ScAt X bs m f ls w := by
  obtain ⟨hX, bm, D, lv, hm, hb, ho, r⟩ := h
  exact ⟨hX, bm, D, lv, hm, hb, ho.mono hn, r⟩

/-- 'm[k]' at the operation. -/
theorem wpList_lookup_sc (w : World) {ops : Array Oper} {rest : List Oper} {o : Oper} {a : Act} {Q : Exit → Act → World → Prop}
    (hg : o.guard = none) (m x : Operand) (hop : o.op = Op.lookup 50 m x false) (b n : Nat) (D : DataW Mng) (f : ByteArray → Mng)
    (hm : a.eval m = .map (some b)) (hown : w.ownsMap Tryd.prog 9 mread b n D) (hS : Says D f) (s : ByteArray) (hx : a.eval x = .string s) (hs : s.size ≤ maxLen)
    (hK : wpList Tryd.prog ops Q rest (a.put o.dst (.agg #[.int .i64 (f s).kind, .int .i64 (f s).label, .int .i64 (f s).count, .string (f s).by_])) w) :
    wpList Tryd.prog ops Q (o :: rest) a w := by
  refine wpList_plain hg fun K' hK' => ?_
  obtain ⟨v, ps, hrun, hv⟩ := hown.lookup law Tryd.underlying50 (zeroM w) (mread_mk mnone) (klit_key s hs)
  rw [hS s] at hv
  obtain rfl := mread_inv hv
  unfold Oper.wp
  simp [execOp, hop, hm, hx, hrun, Result.andThen]
  exact hK' _ _ hK
theorem look_run {w : World} {b n : Nat} {D : DataW Mng} {f : ByteArray → Mng} (hown : w.ownsMap Tryd.prog 9 mread b n D) (hS : Says D f) (s : ByteArray) (hs : s.size ≤ maxLen) :
    (Instr.lookup 50 (.map (some b)) (.string s) false).run Tryd.prog w = .ok (.agg #[.int .i64 (f s).kind, .int .i64 (f s).label, .int .i64 (f s).count, .string (f s).by_]) w := by
  obtain ⟨v, ps, hrun, hv⟩ := hown.lookup law Tryd.underlying50 (zeroM w) (mread_mk mnone) (klit_key s hs)
  rw [hS s] at hv
  obtain rfl := mread_inv hv
  exact hrun
theorem field_kind (k l c : Int) (s : ByteArray) (w : World) : (Instr.field 55 (.agg #[.int .i64 k, .int .i64 l, .int .i64 c, .string s]) 0).run Tryd.prog w = .ok (.int .i64 k) w := by kernel_rfl
theorem sc_cells {w : World} {bs : Nat} {x y : Value} (h : w.heap[bs]? = some (.cells #[x, y] 52 (0, 0))) : w.cell? ⟨bs, 0, none⟩ = some x ∧ w.cell? ⟨bs, 1, none⟩ = some y ∧ w.frozen? ⟨bs, 0, none⟩ = false ∧ w.frozen? ⟨bs, 1, none⟩ = false := by
  refine ⟨by simp [World.cell?, h], by simp [World.cell?, h], ?_, ?_⟩ <;> simp [World.frozen?, h]
end Go.Proofs.YtnpennclgenppaaDoor
