/- What Of of package scope answers. Conditions: the declarations lie in memory as a list. -/
import Derived.Test.YtnpennclgenppaaDoorScEnter
namespace Go.Proofs.YtnpennclgenppaaDoor
open Go.ChangeShapes Go.WideShapes Go.RowKit Go.Maps
set_option linter.unusedVariables false
set_option linter.unusedSimpArgs false

/-- A declaration. -/
structure Dc where
  lock : Bool
  label : Int
  name : ByteArray
  size : Int
  by_ : ByteArray
  at_ : Int
@[reducible] def dval (d : Dc) : Value := .agg #[.bool d.lock, .int .i64 d.label, .string d.name, .int .i64 d.size, .string d.by_, .int .i64 d.at_]
@[reducible] def dobj (d : Dc) : Obj := .cells #[.bool d.lock, .int .i64 d.label, .string d.name, .int .i64 d.size, .string d.by_, .int .i64 d.at_] 29
def declM (d : Dc) : Mng := if d.lock = true then ⟨1, 0, 0, ⟨#[]⟩⟩ else if 0 < d.size then ⟨3, d.label, d.size, d.by_⟩ else ⟨2, d.label, 0, d.by_⟩
def bad (f : ByteArray → Mng) (d : Dc) : Bool := (f d.name).kind != 0 || (!d.by_.data.toList.isEmpty && (f d.by_).kind != 1)
def meansOf (f : ByteArray → Mng) (ds : List Dc) : ByteArray → Mng := ds.foldl (fun g d => put g d.name (declM d)) f
def firstBad : (ByteArray → Mng) → List Dc → Option Dc
  | _, [] => none
  | f, d :: ds => if bad f d = true then some d else firstBad (put f d.name (declM d)) ds
def none0 : ByteArray → Mng := fun _ => mnone
theorem firstBad_append (f : ByteArray → Mng) : ∀ (a b : List Dc), firstBad f a = none → firstBad f (a ++ b) = firstBad (meansOf f a) b := by
  intro a
  induction a generalizing f with
  | nil => intro b _; rfl
  | cons d a ih =>
    intro b h
    simp only [firstBad] at h
    by_cases hb : bad f d = true
    · rw [if_pos hb] at h; cases h
    · rw [if_neg hb] at h
      simp only [List.cons_append, firstBad, if_neg hb]
      exact ih _ b h
theorem firstBad_at {f : ByteArray → Mng} {ds : List Dc} {k : Nat} {d : Dc} (h : firstBad f (ds.take k) = none) (hd : ds[k]? = some d) (hb : bad (meansOf f (ds.take k)) d = true) : firstBad f ds = some d := by
  have hs : ds = ds.take k ++ (d :: ds.drop (k + 1)) := by
    have hlt : k < ds.length := (List.getElem?_eq_some_iff.1 hd).1
    have e : ds[k] = d := (List.getElem?_eq_some_iff.1 hd).2
    rw [← e, ← List.drop_eq_getElem_cons hlt, List.take_append_drop]
  rw [hs, firstBad_append f _ _ h]
  simp only [firstBad, hb, if_true]
theorem firstBad_step {f : ByteArray → Mng} {ds : List Dc} {k : Nat} {d : Dc} (h : firstBad f (ds.take k) = none) (hd : ds[k]? = some d) (hb : bad (meansOf f (ds.take k)) d = false) : firstBad f (ds.take (k + 1)) = none ∧ meansOf f (ds.take (k + 1)) = put (meansOf f (ds.take k)) d.name (declM d) := by
  have e : ds.take (k + 1) = ds.take k ++ [d] := by rw [List.take_add_one, hd]; rfl
  rw [e]
  refine ⟨?_, by simp [meansOf]⟩
  rw [firstBad_append f _ _ h]
  simp [firstBad, hb]

/-- A store into the map of a scope. -/
theorem ScAt.store {X : Nat → Prop} {bs n : Nat} {f : ByteArray → Mng} {ls : List ByteArray} {w : World} (h : ScAt X bs n f ls w) (hn : n < maxLen) (s : ByteArray) (hs : s.size ≤ maxLen) (m : Mng) (bm : Nat) (hc : w.cell? ⟨bs, 0, none⟩ = some (.map (some bm))) :
    ∃ w2, (Instr.mapUpdate 50 (.map (some bm)) (.string s) (mval m)).run Tryd.prog w = .ok () w2 ∧ ScAt X bs (n + 1) (put f s m) ls w2 ∧ KeepX X w w2 := by
  obtain ⟨hX, bm', D, lv, hm, hb, ho, hS, hr, hg, hl⟩ := h
  obtain ⟨c0, _, _, _⟩ := sc_cells hb
  rw [c0] at hc
  cases hc
  obtain ⟨w2, hrun, ho2, hg2⟩ := ho.update law Tryd.underlying50 hn (klit_key s hs) (mread_mk m)
  have hne : bs ≠ bm := fun e => by
    obtain ⟨es, ck, hq, _⟩ := ho
    rw [← e, hb] at hq; cases hq
  refine ⟨w2, hrun, ⟨hX, bm, _, lv, hm, (hg2.block bs (heap_lt hb) (by simpa using hne)).trans hb, ho2, hS.put ho.isMap s m, own_keep hr fun g e => ?_, hg, hl⟩, KeepX.grown hg2 (fun k e => by cases e; exact hm)⟩
  obtain ⟨cur, hcu⟩ := own_lt hr e
  refine hg2.block g (heap_lt hcu) ?_
  intro e2
  obtain ⟨es, ck, hq, _⟩ := ho
  simp only [Option.some.injEq] at e2
  rw [← e2, hcu] at hq; cases hq
/-- A list of declarations in memory. -/
def DsAt (w : World) (v : Value) (ds : List Dc) : Prop :=
  ∃ ao cap, v = .slice ao ds.length cap ∧ ds.length ≤ 70368744177664 ∧ ∀ i d, ds[i]? = some d → d.name.size ≤ maxLen ∧ d.by_.size ≤ maxLen ∧ ∃ g off, ao = some ⟨g, off, none⟩ ∧ g < w.heap.size ∧
    w.cell? ⟨g, off + i * 6, none⟩ = some (.bool d.lock) ∧ w.cell? ⟨g, off + i * 6 + 1, none⟩ = some (.int .i64 d.label) ∧ w.cell? ⟨g, off + i * 6 + 2, none⟩ = some (.string d.name) ∧ w.cell? ⟨g, off + i * 6 + 3, none⟩ = some (.int .i64 d.size) ∧ w.cell? ⟨g, off + i * 6 + 4, none⟩ = some (.string d.by_) ∧ w.cell? ⟨g, off + i * 6 + 5, none⟩ = some (.int .i64 d.at_)
theorem DsAt.below {w w' : World} {v : Value} {ds : List Dc} (h : DsAt w v ds) (hb : Below w.heap.size w w') : DsAt w' v ds := by
  obtain ⟨ao, cap, hv, hl, hr⟩ := h
  refine ⟨ao, cap, hv, hl, fun i d hd => ?_⟩
  obtain ⟨n1, n2, g, off, e, hg, h0, h1, h2, h3, h4, h5⟩ := hr i d hd
  have key : ∀ k u, w.cell? ⟨g, k, none⟩ = some u → w'.cell? ⟨g, k, none⟩ = some u := fun k u hu => (World.cell?_of_block (hb.block g hg)).trans hu
  exact ⟨n1, n2, g, off, e, Nat.lt_of_lt_of_le hg hb.size, key _ _ h0, key _ _ h1, key _ _ h2, key _ _ h3, key _ _ h4, key _ _ h5⟩
theorem DsAt.nil (w : World) : DsAt w (.slice none 0 0) [] := ⟨none, 0, rfl, by simp, fun i d hd => by simp at hd⟩

set_option maxHeartbeats 1000000 in
set_option maxRecDepth 100000 in
theorem declared_any (d : Dc) (w : World) :
    Calls Tryd.prog 15 #[dval d] w fun e w' => e = .returned (mval (declM d)) ∧ Below w.heap.size w w' := by
  obtain ⟨lock, label, name, size, by_, at_⟩ := d
  cases lock with
  | true =>
    go_enter Tryd.func15, Tryd.ntmps15
    go_wp2
    go_returns
    refine ⟨rfl, ?_⟩
    exact ((Below.refl _ _).alloc (Nat.le_refl _) _).alloc (by simp) _
  | false =>
    by_cases hs : 0 < size
    · have hd : decide (0 < size) = true := by simpa using hs
      go_enter Tryd.func15, Tryd.ntmps15
      go_wp2
      go_returns
      refine ⟨by simp [declM, hs], ?_⟩
      exact ((Below.refl _ _).alloc (Nat.le_refl _) _).alloc (by simp) _
    · have hd : decide (0 < size) = false := by simpa using hs
      go_enter Tryd.func15, Tryd.ntmps15
      go_wp2
      go_returns
      refine ⟨by unfold declM; rw [if_neg (by simp), if_neg (show ¬ 0 < size by omega)], ?_⟩
      exact ((Below.refl _ _).alloc (Nat.le_refl _) _).alloc (by simp) _

set_option maxHeartbeats 1000000 in
set_option maxRecDepth 100000 in
theorem wrap_any (ev : Value) (p : Int) (w : World) (hev : ∃ t x, ev = .iface t x) :
    Calls Tryd.prog 14 #[ev, .int .i64 p] w fun e w' => e = .returned (.iface 60 (.pointer (some ⟨w.heap.size, 0, none⟩))) ∧ w' = w.alloc (.cells #[.int .i64 p, ev] 63) := by
  obtain ⟨t, x, rfl⟩ := hev
  go_enter Tryd.func14, Tryd.ntmps14
  go_wp2
  go_returns
  exact ⟨rfl, rfl⟩
end Go.Proofs.YtnpennclgenppaaDoor
