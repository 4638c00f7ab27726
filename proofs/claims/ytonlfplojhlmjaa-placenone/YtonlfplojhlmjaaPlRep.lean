/- Layer 10 in memory: a map of places, lists of declarations; what Start, Size, cells and label answer. Conditions: as each theorem says. -/
import Derived.Test.YtonlfplojhlmjaaPlPlain
import Derived.WalkKit
import Derived.ProofKit
import Derived.OpenShut
import Derived.RegionTactic
import Derived.Laws.Externs
import Derived.Laws.Runes
import Derived.Maps.OwnSet
import Derived.Maps.AppendAt
import Derived.BigCall
import Derived.BigQuiet
import Derived.BigRegion
import Derived.BigGuard
import Derived.Lib.ConvBytes
import Derived.RegionCalls
import Derived.Handy
import Derived.Deep.RegionWith
import Derived.Lib.Hide
import Derived.Lib.Builder
import Derived.Lib.MinMax
namespace Go.Proofs.Ytonlfplojhlmjaa.Pl
open Go.ChangeShapes Go.WideShapes Go.RowKit Go.Maps
set_option linter.unusedVariables false
set_option linter.unusedSimpArgs false

def pread : Value → Option (DataW Int × List MemPlace)
  | .int .i64 n => some (.held n, [])
  | _ => none
theorem pread_mk (n : Int) : pread (.int .i64 n) = some (.held n, []) := rfl
theorem pread_inv {v : Value} {n : Int} {ps : List MemPlace} (h : pread v = some (.held n, ps)) : v = .int .i64 n := by
  unfold pread at h
  split at h
  · simp only [Option.some.injEq, Prod.mk.injEq, DataW.held.injEq] at h
    rw [h.1]
  · cases h
theorem law : Keyed Try.prog 9 := string_keyed Try.underlying9
theorem zeroI (w : World) : (zeroValue 3).run Try.prog w = .ok (.int .i64 0) w := by kernel_rfl
def klit (s : ByteArray) : Lit := .string s.data.toList
theorem klit_key (s : ByteArray) (h : s.size ≤ maxLen) : keyOf Try.prog 9 (.string s) = some (klit s) := WideMaps.keyOf_string_mk Try.underlying9 h
theorem klit_is (s : ByteArray) : WideAt.IsKeyLit (klit s) := by simp [klit, WideAt.IsKeyLit]
theorem klit_ne {s t : ByteArray} (h : s ≠ t) : klit s ≠ klit t := fun e => h (by
  unfold klit at e
  have e1 : s.data.toList = t.data.toList := by injection e
  have e2 : s.data = t.data := by rw [← Array.toList_inj]; exact e1
  exact ByteArray.ext e2)
def Says (D : DataW Int) (f : ByteArray → Option Int) : Prop := ∀ s, Maps.has D (klit s) = (f s).isSome ∧ D.atKey (klit s) (.held 0) = .held ((f s).getD 0)
theorem says0 : Says (.map []) none0 := fun s => ⟨rfl, rfl⟩
theorem Says.put {D : DataW Int} {f : ByteArray → Option Int} (h : Says D f) (hD : IsMap D) (s : ByteArray) (m : Int) : Says (D.put (klit s) (.held m)) (putP f s m) := fun t => by
  by_cases e : t = s
  · subst e; rw [put_same]; exact ⟨has_put_same hD (klit_is _) _, atKey_put_same hD (klit_is _) _ _⟩
  · rw [put_ne _ _ _ _ e, atKey_put_other (klit_ne e), has_put_other (klit_ne e)]; exact h t
theorem heap_lt {w : World} {k : Nat} {o : Obj} (h : w.heap[k]? = some o) : k < w.heap.size := (Array.getElem?_eq_some_iff.1 h).1
theorem alloc_at (w : World) (o : Obj) (k : Nat) : (w.alloc o).heap[k]? = if k = w.heap.size then some o else w.heap[k]? := by
  show (w.heap.push o)[k]? = _
  rw [Array.getElem?_push]
theorem alloc_size (w : World) (o : Obj) : (w.alloc o).heap.size = w.heap.size + 1 := by simp
/-- The map at block b. -/
def MpAt (b n : Nat) (f : ByteArray → Option Int) (w : World) : Prop := ∃ D, w.ownsMap Try.prog 9 pread b n D ∧ Says D f
theorem MpAt.below {b n : Nat} {f : ByteArray → Option Int} {w w' : World} (h : MpAt b n f w) (hb : Below w.heap.size w w') : MpAt b n f w' := by
  obtain ⟨D, ho, hS⟩ := h
  exact ⟨D, ho.kept (row := none) ⟨hb.os, hb.tape, hb.output, hb.size, fun k hk _ => hb.block k hk⟩ (by simp), hS⟩
theorem MpAt.lt {b n : Nat} {f : ByteArray → Option Int} {w : World} (h : MpAt b n f w) : b < w.heap.size := by
  obtain ⟨D, ho, _⟩ := h
  exact ho.lt
theorem MpAt.map {b n : Nat} {f : ByteArray → Option Int} {w : World} (h : MpAt b n f w) : ∃ es ck, w.heap[b]? = some (.map es ck) := by
  obtain ⟨D, ⟨es, ck, hq, _⟩, _⟩ := h
  exact ⟨es, ck, hq⟩
theorem MpAt.setCell {b n : Nat} {f : ByteArray → Option Int} {w : World} (h : MpAt b n f w) {g j : Nat} (hg : b ≠ g) (u : Value) : MpAt b n f (w.setCell ⟨g, j, none⟩ u) := by
  obtain ⟨D, ho, hS⟩ := h
  exact ⟨D, ho.setCell hg u, hS⟩
theorem MpAt.look {b n : Nat} {f : ByteArray → Option Int} {w : World} (h : MpAt b n f w) (s : ByteArray) (hs : s.size ≤ maxLen) :
    (Instr.lookup 27 (.map (some b)) (.string s) true).run Try.prog w = .ok (.tuple #[.int .i64 ((f s).getD 0), .bool (f s).isSome]) w := by
  obtain ⟨D, ho, hS⟩ := h
  obtain ⟨v, ps, hrun, hv⟩ := ho.look_ok law Try.underlying27 (zeroI w) (pread_mk 0) (klit_key s hs)
  obtain ⟨h1, h2⟩ := hS s
  rw [h2] at hv
  rw [h1] at hrun
  obtain rfl := pread_inv hv
  exact hrun
theorem MpAt.store {b n : Nat} {f : ByteArray → Option Int} {w : World} (h : MpAt b n f w) (hn : n < maxLen) (s : ByteArray) (hs : s.size ≤ maxLen) (m : Int) :
    ∃ w2, (Instr.mapUpdate 27 (.map (some b)) (.string s) (.int .i64 m)).run Try.prog w = .ok () w2 ∧ MpAt b (n + 1) (putP f s m) w2 ∧ w.grownBy w2 (some b) := by
  obtain ⟨D, ho, hS⟩ := h
  obtain ⟨w2, hrun, ho2, hg2⟩ := ho.update law Try.underlying27 hn (klit_key s hs) (pread_mk m)
  exact ⟨w2, hrun, ⟨_, ho2, hS.put ho.isMap s m⟩, hg2⟩
theorem MpAt.mono {b n m : Nat} {f : ByteArray → Option Int} {w : World} (h : MpAt b n f w) (hn : n ≤ m) : MpAt b m f w := by
  obtain ⟨D, ho, hS⟩ := h
  exact ⟨D, ho.mono hn, hS⟩
@[reducible] def dval (d : Pd) : Value := .agg #[.bool d.lock, .int .i64 d.label, .string d.name, .int .i64 d.size, .string d.by_, .int .i64 d.at_]
@[reducible] def dobj (d : Pd) : Obj := .cells #[.bool d.lock, .int .i64 d.label, .string d.name, .int .i64 d.size, .string d.by_, .int .i64 d.at_] 35
@[reducible] def dcell (d : Pd) : List Value := [.bool d.lock, .int .i64 d.label, .string d.name, .int .i64 d.size, .string d.by_, .int .i64 d.at_]
def dflat (ds : List Pd) : List Value := (ds.map dcell).flatten
theorem dflat_len (ds : List Pd) : (dflat ds).length = ds.length * 6 := by
  induction ds with
  | nil => rfl
  | cons d ds ih =>
    have : dflat (d :: ds) = dcell d ++ dflat ds := rfl
    rw [this, List.length_append, ih, List.length_cons]; simp; omega
theorem dflat_at : ∀ (ds : List Pd) (i : Nat) (d : Pd) (r : Nat), ds[i]? = some d → r < 6 → (dflat ds)[i * 6 + r]? = (dcell d)[r]?
  | [], i, d, r, h, _ => by simp at h
  | x :: ds, 0, d, r, h, hr => by
    simp at h; subst h
    rw [show dflat (x :: ds) = dcell x ++ dflat ds from rfl, List.getElem?_append_left (by simp; omega)]
    simp
  | x :: ds, i + 1, d, r, h, hr => by
    have ih := dflat_at ds i d r (by simpa using h) hr
    rw [show dflat (x :: ds) = dcell x ++ dflat ds from rfl, List.getElem?_append_right (by simp; omega), ← ih]
    congr 1
    simp; omega
theorem dflat_one (ds : List Pd) : ∀ u ∈ dflat ds, u.oneCell' = true := fun u hu => by
  obtain ⟨l, hl, hul⟩ := List.mem_flatten.1 hu
  obtain ⟨d, _, rfl⟩ := List.mem_map.1 hl
  simp at hul
  rcases hul with rfl | rfl | rfl | rfl | rfl | rfl <;> rfl
theorem dflat_snoc (ds : List Pd) (d : Pd) : dflat (ds ++ [d]) = dflat ds ++ dcell d := by simp [dflat]
/-- A list of declarations in memory. -/
def PsAt (w : World) (v : Value) (ds : List Pd) : Prop :=
  ∃ ao cap, v = .slice ao ds.length cap ∧ ds.length ≤ 1000 ∧ ∀ i d, ds[i]? = some d → d.name.size ≤ maxLen ∧ ∃ g off, ao = some ⟨g, off, none⟩ ∧ g < w.heap.size ∧
    w.cell? ⟨g, off + i * 6, none⟩ = some (.bool d.lock) ∧ w.cell? ⟨g, off + i * 6 + 1, none⟩ = some (.int .i64 d.label) ∧ w.cell? ⟨g, off + i * 6 + 2, none⟩ = some (.string d.name) ∧ w.cell? ⟨g, off + i * 6 + 3, none⟩ = some (.int .i64 d.size) ∧ w.cell? ⟨g, off + i * 6 + 4, none⟩ = some (.string d.by_) ∧ w.cell? ⟨g, off + i * 6 + 5, none⟩ = some (.int .i64 d.at_)
theorem PsAt.below {w w' : World} {v : Value} {ds : List Pd} (h : PsAt w v ds) (hb : Below w.heap.size w w') : PsAt w' v ds := by
  obtain ⟨ao, cap, hv, hl, hr⟩ := h
  refine ⟨ao, cap, hv, hl, fun i d hd => ?_⟩
  obtain ⟨n1, g, off, e, hg, h0, h1, h2, h3, h4, h5⟩ := hr i d hd
  have key : ∀ k u, w.cell? ⟨g, k, none⟩ = some u → w'.cell? ⟨g, k, none⟩ = some u := fun k u hu => (World.cell?_of_block (hb.block g hg)).trans hu
  exact ⟨n1, g, off, e, Nat.lt_of_lt_of_le hg hb.size, key _ _ h0, key _ _ h1, key _ _ h2, key _ _ h3, key _ _ h4, key _ _ h5⟩
/-- A list of declarations that the call owns. -/
def PRow (lo : Nat) (w : World) (v : Value) (ds : List Pd) : Prop := w.ownsRow lo 35 6 v ds.length (dflat ds)
theorem PRow.at {lo : Nat} {w : World} {v : Value} {ds : List Pd} (h : PRow lo w v ds) (hl : ds.length ≤ 1000) (hn : ∀ d ∈ ds, d.name.size ≤ maxLen) : PsAt w v ds := by
  rcases h.2 with ⟨rfl, h0⟩ | ⟨g, cap, cur, rfl, hb, hgg, rest⟩
  · rw [List.length_eq_zero_iff.1 h0]; exact ⟨none, 0, rfl, by simp, fun i d hd => by simp at hd⟩
  · refine ⟨_, cap, rfl, hl, fun i d hd => ⟨hn d (List.mem_of_getElem? hd), g, 0, rfl, heap_lt hgg, ?_⟩⟩
    have key : ∀ r u, r < 6 → (dcell d)[r]? = some u → w.cell? ⟨g, 0 + i * 6 + r, none⟩ = some u := fun r u hr hu => by
      have := World.ownsRow.cells h (g := g) rfl (i * 6 + r) u (by rw [dflat_at ds i d r hd hr]; exact hu)
      rw [Nat.add_assoc]; first | (rw [Addr.add_lit] at this; exact this) | (rw [add_plain] at this; exact this)
    exact ⟨key 0 _ (by omega) rfl, key 1 _ (by omega) rfl, key 2 _ (by omega) rfl, key 3 _ (by omega) rfl, key 4 _ (by omega) rfl, key 5 _ (by omega) rfl⟩
theorem own_keepB {w w' : World} {B : Nat} {e : TypeId} {sz n : Nat} {v : Value} {xs : List Value} (h : w.ownsRow B e sz v n xs) (hb : Below w.heap.size w w') : w'.ownsRow B e sz v n xs := by
  refine ⟨h.1, ?_⟩
  rcases h.2 with hn | ⟨g, cap, cur, rfl, h0, hgg, rest⟩
  · exact .inl hn
  · exact .inr ⟨g, cap, cur, rfl, h0, (hb.block g (heap_lt hgg)).trans hgg, rest⟩
theorem infoD : (Try.prog.info? 35).map (fun i => (i.zero, i.size, i.bytes)) = some (some (.agg #[.bool false, .int .i64 0, .string ⟨#[]⟩, .int .i64 0, .string ⟨#[]⟩, .int .i64 0]), 6, 64) := by kernel_rfl
theorem infoL : (Try.prog.info? 33).map (fun i => (i.zero, i.size, i.bytes)) = some (some (.int .i64 0), 1, 8) := by kernel_rfl
theorem map_cells {w : World} {b : Nat} {x y : Value} (h : w.heap[b]? = some (.cells #[x, y] 29 (0, 0))) : w.cell? ⟨b, 0, none⟩ = some x ∧ w.cell? ⟨b, 1, none⟩ = some y ∧ w.frozen? ⟨b, 0, none⟩ = false ∧ w.frozen? ⟨b, 1, none⟩ = false := by
  refine ⟨by simp [World.cell?, h], by simp [World.cell?, h], ?_, ?_⟩ <;> simp [World.frozen?, h]
theorem dobj_cells {w : World} {b : Nat} {d : Pd} (h : w.heap[b]? = some (dobj d)) :
    w.cell? ⟨b, 0, none⟩ = some (.bool d.lock) ∧ w.cell? ⟨b, 1, none⟩ = some (.int .i64 d.label) ∧ w.cell? ⟨b, 2, none⟩ = some (.string d.name) ∧ w.cell? ⟨b, 3, none⟩ = some (.int .i64 d.size) ∧ w.cell? ⟨b, 4, none⟩ = some (.string d.by_) ∧ w.cell? ⟨b, 5, none⟩ = some (.int .i64 d.at_) := by
  refine ⟨?_, ?_, ?_, ?_, ?_, ?_⟩ <;> (rw [Lib.cell_of_heap h]; rfl)

set_option maxHeartbeats 1000000 in
set_option maxRecDepth 100000 in
theorem start_any {b n : Nat} {f : ByteArray → Option Int} {w : World} (h : MpAt b n f w) (m : Int) (s : ByteArray) (hs : s.size ≤ maxLen) :
    Calls Try.prog 12 #[.agg #[.map (some b), .int .i64 m], .string s] w fun e w' => e = .returned (.tuple #[.int .i64 ((f s).getD 0), .bool (f s).isSome]) ∧ Below w.heap.size w w' := by
  have hb : Below w.heap.size w (w.alloc (.cells #[.map (some b), .int .i64 m] 29)) := (Below.refl _ _).alloc (Nat.le_refl _) _
  have hlk := (h.below hb).look s hs
  go_enter Try.func12, Try.ntmps12
  go_wp2
  go_returns
  exact ⟨rfl, hb⟩
set_option maxHeartbeats 1000000 in
set_option maxRecDepth 100000 in
theorem size_any (v : Option Nat) (m : Int) (w : World) :
    Calls Try.prog 13 #[.agg #[.map v, .int .i64 m]] w fun e w' => e = .returned (.int .i64 m) ∧ Below w.heap.size w w' := by
  have hb : Below w.heap.size w (w.alloc (.cells #[.map v, .int .i64 m] 29)) := (Below.refl _ _).alloc (Nat.le_refl _) _
  go_enter Try.func13, Try.ntmps13
  go_wp2
  go_returns
  exact ⟨rfl, hb⟩
set_option maxHeartbeats 1000000 in
set_option maxRecDepth 100000 in
theorem cells_any (d : Pd) (w : World) :
    Calls Try.prog 14 #[dval d] w fun e w' => e = .returned (.int .i64 (cellsP d)) ∧ Below w.heap.size w w' := by
  obtain ⟨lock, label, name, size, by_, at_⟩ := d
  have hb : Below w.heap.size w (w.alloc (dobj ⟨lock, label, name, size, by_, at_⟩)) := (Below.refl _ _).alloc (Nat.le_refl _) _
  cases lock with
  | true =>
    go_enter Try.func14, Try.ntmps14
    go_wp2
    go_returns
    exact ⟨rfl, hb⟩
  | false =>
    go_enter Try.func14, Try.ntmps14
    go_wp2
    go_returns
    exact ⟨rfl, hb⟩
set_option maxHeartbeats 1000000 in
set_option maxRecDepth 100000 in
theorem label_any (d : Pd) (w : World) :
    Calls Try.prog 15 #[dval d] w fun e w' => e = .returned (.int .i64 (labelP d)) ∧ Below w.heap.size w w' := by
  obtain ⟨lock, label, name, size, by_, at_⟩ := d
  have hb : Below w.heap.size w (w.alloc (dobj ⟨lock, label, name, size, by_, at_⟩)) := (Below.refl _ _).alloc (Nat.le_refl _) _
  cases lock with
  | true =>
    go_enter Try.func15, Try.ntmps15
    go_wp2
    go_returns
    exact ⟨rfl, hb⟩
  | false =>
    go_enter Try.func15, Try.ntmps15
    go_wp2
    go_returns
    exact ⟨rfl, hb⟩
end Go.Proofs.Ytonlfplojhlmjaa.Pl
