/- What the maker's next, literal, name and digit answer, when they are called. Conditions: the maker lies in a block of its own. -/
import Derived.Test.YtfginegegaokbaaGreatDoorMakePlain
import Derived.Lib.ConvBytes
namespace Go.Proofs.YtfginegegaokbaaGreatDoor
open Go.ChangeShapes Go.WideShapes Go.ChangeAt Go.RowKit
set_option linter.unusedVariables false
set_option linter.unusedSimpArgs false

/-- The numbers that are left. -/
def NsAt (B : Nat) (w : World) (v : Value) (ns : List UInt8) : Prop :=
  ∃ ao cap, v = .slice ao ns.length cap ∧ ns.length ≤ cap ∧ cap ≤ 9223372036854775807 ∧ ∀ i x, ns[i]? = some x → ∃ g off, ao = some ⟨g, off, none⟩ ∧ g < B ∧ w.cell? ⟨g, off + i, none⟩ = some (.int .u8 x.toNat)
theorem NsAt.on {B : Nat} {w w' : World} {v : Value} {ns : List UInt8} (h : NsAt B w v ns) (hb : ∀ k, k < B → w'.heap[k]? = w.heap[k]?) : NsAt B w' v ns := by
  obtain ⟨ao, cap, rfl, h1, h2, h3⟩ := h
  refine ⟨ao, cap, rfl, h1, h2, fun i x hx => ?_⟩
  obtain ⟨g, off, e, hg, hc⟩ := h3 i x hx
  exact ⟨g, off, e, hg, (World.cell?_of_block (hb g hg)).trans hc⟩

/-- A maker in block bm. -/
def MakerAt (B bm : Nat) (E : Env) (ns : List UInt8) (w : World) : Prop :=
  B ≤ bm ∧ ∃ nv lv sv cv, w.heap[bm]? = some (.cells #[nv, lv, sv, cv, .bool E.held, .int .i64 E.thread, .int .i64 E.deep] 73 (0, 0)) ∧ NsAt B w nv ns ∧
    w.ownsRow B 9 1 lv E.loc.length (E.loc.map .string) ∧ w.ownsRow B 4 1 sv E.loc.length (E.sec.map .bool) ∧ w.ownsRow B 3 1 cv E.loc.length (E.cnt.map (.int .i64)) ∧ E.thread ≤ 9 ∧ E.deep ≤ 100 ∧ E.loc.length ≤ 100
theorem MakerAt.lt {B bm : Nat} {E : Env} {ns : List UInt8} {w : World} (h : MakerAt B bm E ns w) : bm < w.heap.size := by
  obtain ⟨_, nv, lv, sv, cv, hb, _⟩ := h
  exact heap_lt hb
theorem MakerAt.base {B bm : Nat} {E : Env} {ns : List UInt8} {w : World} (h : MakerAt B bm E ns w) : B ≤ w.heap.size := by have := h.lt; have := h.1; omega
/-- Old memory stands as it stood. -/
theorem MakerAt.below {B bm : Nat} {E : Env} {ns : List UInt8} {w w' : World} (h : MakerAt B bm E ns w) (hb : Below w.heap.size w w') : MakerAt B bm E ns w' := by
  have hB := h.base
  obtain ⟨h1, nv, lv, sv, cv, h2, h3, h4, h5, h6, h7⟩ := h
  have hg : w.grownBy w' none := ⟨hb.os, hb.tape, hb.output, hb.size, fun k hk _ => hb.block k hk⟩
  have hn : ∀ v : Value, v.ownBlock = none ∨ v.ownBlock ≠ none := fun v => by cases hv : v.ownBlock <;> simp
  exact ⟨h1, nv, lv, sv, cv, (hb.block bm (heap_lt h2)).trans h2, h3.on fun k hk => hb.block k (by omega), h4.kept hg (hn _), h5.kept hg (hn _), h6.kept hg (hn _), h7⟩
theorem MakerAt.alloc {B bm : Nat} {E : Env} {ns : List UInt8} {w : World} (h : MakerAt B bm E ns w) (o : Obj) : MakerAt B bm E ns (w.alloc o) := h.below ((Below.refl _ _).alloc (Nat.le_refl _) o)
/-- Another block than the maker's, of expressions, is written. -/
theorem MakerAt.set {B bm : Nat} {E : Env} {ns : List UInt8} {w : World} (h : MakerAt B bm E ns w) {r : Nat} {cs : Array Value} {fr : Nat × Nat} (hr : w.heap[r]? = some (.cells cs 57 fr)) (hB : B ≤ r) (off : Nat) (u : Value) : MakerAt B bm E ns (w.setCell ⟨r, off, none⟩ u) := by
  obtain ⟨h1, nv, lv, sv, cv, h2, h3, h4, h5, h6, h7⟩ := h
  have hne : bm ≠ r := fun e => by subst e; rw [hr] at h2; simp at h2
  have hg : w.grownBy (w.setCell ⟨r, off, none⟩ u) (some r) := ⟨rfl, rfl, rfl, by simp [World.setCell], fun k _ hk => Below.heap_setCell _ _ _ _ (fun e => hk (by simp [e]))⟩
  exact ⟨h1, nv, lv, sv, cv, (Below.heap_setCell _ _ _ _ hne).trans h2, h3.on fun k hk => Below.heap_setCell _ _ _ _ (show k ≠ r by omega), h4.kept hg (.inr (Lib.ownBlock_ne h4 hr (by decide))), h5.kept hg (.inr (Lib.ownBlock_ne h5 hr (by decide))), h6.kept hg (.inr (Lib.ownBlock_ne h6 hr (by decide))), h7⟩

theorem grownBy_refl (w : World) (r : Option Nat) : w.grownBy w r := ⟨rfl, rfl, rfl, Nat.le_refl _, fun _ _ _ => rfl⟩
theorem grownBy_trans {a b c : World} {r : Option Nat} (h : a.grownBy b r) (k : b.grownBy c r) : a.grownBy c r :=
  ⟨k.os.trans h.os, k.tape.trans h.tape, k.output.trans h.output, Nat.le_trans h.size k.size, fun i hi hr => (k.block i (Nat.lt_of_lt_of_le hi h.size) hr).trans (h.block i hi hr)⟩
theorem grownBy_below {w w' : World} {r : Option Nat} (hb : Below w.heap.size w w') : w.grownBy w' r := ⟨hb.os, hb.tape, hb.output, hb.size, fun k hk _ => hb.block k hk⟩

/-- The first number is taken. -/
theorem MakerAt.took {B bm : Nat} {E : Env} {ns : List UInt8} {w : World} {nv lv sv cv nv' : Value} (h1 : B ≤ bm) (h2 : w.heap[bm]? = some (.cells #[nv, lv, sv, cv, .bool E.held, .int .i64 E.thread, .int .i64 E.deep] 73 (0, 0))) (h3 : NsAt B w nv' ns)
    (h4 : w.ownsRow B 9 1 lv E.loc.length (E.loc.map .string)) (h5 : w.ownsRow B 4 1 sv E.loc.length (E.sec.map .bool)) (h6 : w.ownsRow B 3 1 cv E.loc.length (E.cnt.map (.int .i64))) (h7 : E.thread ≤ 9 ∧ E.deep ≤ 100 ∧ E.loc.length ≤ 100) :
    MakerAt B bm E ns (w.setCell ⟨bm, 0, none⟩ nv') ∧ w.grownBy (w.setCell ⟨bm, 0, none⟩ nv') (some bm) := by
  have hg : w.grownBy (w.setCell ⟨bm, 0, none⟩ nv') (some bm) := ⟨rfl, rfl, rfl, by simp [World.setCell], fun k _ hk => Below.heap_setCell _ _ _ _ (fun e => hk (by simp [e]))⟩
  refine ⟨⟨h1, nv', lv, sv, cv, ?_, h3.on fun k hk => Below.heap_setCell _ _ _ _ (show k ≠ bm by omega), h4.kept hg (.inr (Lib.ownBlock_ne h4 h2 (by decide))), h5.kept hg (.inr (Lib.ownBlock_ne h5 h2 (by decide))), h6.kept hg (.inr (Lib.ownBlock_ne h6 h2 (by decide))), h7⟩, hg⟩
  simp [World.setCell, Array.getElem?_modify, h2]

theorem seven_cells {w : World} {k : Nat} {x0 x1 x2 x3 x4 x5 x6 : Value} (h : w.heap[k]? = some (.cells #[x0, x1, x2, x3, x4, x5, x6] 73 (0, 0))) :
    w.cell? ⟨k, 0, none⟩ = some x0 ∧ w.cell? ⟨k, 1, none⟩ = some x1 ∧ w.cell? ⟨k, 2, none⟩ = some x2 ∧ w.cell? ⟨k, 3, none⟩ = some x3 ∧ w.cell? ⟨k, 4, none⟩ = some x4 ∧ w.cell? ⟨k, 5, none⟩ = some x5 ∧ w.cell? ⟨k, 6, none⟩ = some x6 := by
  refine ⟨?_, ?_, ?_, ?_, ?_, ?_, ?_⟩ <;> (rw [Lib.cell_of_heap h]; rfl)

set_option maxHeartbeats 2000000 in
set_option maxRecDepth 100000 in
theorem next_keep (B bm : Nat) (E : Env) (ns : List UInt8) (k : Nat) (w : World) (h : MakerAt B bm E ns w) (hk : 0 < k) (hk1 : k ≤ 1000) :
    Calls Tryz.prog 21 #[.pointer (some ⟨bm, 0, none⟩), .int .i64 k] w fun e w' => e = .returned (.int .i64 (nxV ns k : Int)) ∧ MakerAt B bm E ns.tail w' ∧ w.grownBy w' (some bm) ∧ ∀ j, j ≠ 0 → w'.cell? ⟨bm, j, none⟩ = w.cell? ⟨bm, j, none⟩ := by
  have h0 := h
  obtain ⟨h1, nv, lv, sv, cv, h2, ⟨ao, cap, rfl, hl, hc, hN⟩, h4, h5, h6, h7⟩ := h
  obtain ⟨a0, a1, a2, a3, a4, a5, a6⟩ := seven_cells h2
  have f0 : w.frozen? ⟨bm, 0, none⟩ = false := Lib.frozen_of_heap h2 0
  cases ns with
  | nil =>
    clear hN
    simp only [List.length_nil] at a0
    go_enter Tryz.func21, Tryz.ntmps21
    go_wp2
    go_ret
    exact ⟨rfl, h0, grownBy_refl _ _, fun _ _ => rfl⟩
  | cons x r =>
    obtain ⟨g, off, rfl, hg, hcell⟩ := hN 0 x rfl
    simp only [Nat.add_zero] at hcell
    have hx := x.toNat_lt
    simp only [List.length_cons] at a0 hl
    have HN := Lib.hid hN
    clear hN
    go_enter Tryz.func21, Tryz.ntmps21
    go_wp2
    case inl h =>
      go_ret
      have hr : r = [] := by
        have hl' : r.length = 0 := by omega
        exact List.length_eq_zero_iff.1 hl'
      subst hr
      have T := MakerAt.took (ns := []) h1 h2 (nv' := .slice (some ⟨g, off, none⟩) 0 0) ⟨_, 0, rfl, by simp, by omega, fun i y hy => by simp at hy⟩ h4 h5 h6 h7
      exact ⟨rfl, T.1, T.2, fun j hj => World.cell?_setCell_other _ _ _ _ (by simp [hj])⟩
    case inr h =>
      go_ret
      have T := MakerAt.took (ns := r) h1 h2 (nv' := .slice (some ⟨g, off + 1, none⟩) r.length (cap - 1)) ⟨_, cap - 1, rfl, by omega, by omega, fun i y hy => by
        obtain ⟨g', off', e, hg', hc'⟩ := HN.out (i + 1) y (by simpa using hy)
        simp only [Option.some.injEq, Addr.mk.injEq] at e
        obtain ⟨rfl, rfl, _⟩ := e
        exact ⟨g, off + 1, rfl, hg', by rw [show off + 1 + i = off + (i + 1) by omega]; exact hc'⟩⟩ h4 h5 h6 h7
      exact ⟨rfl, T.1, T.2, fun j hj => World.cell?_setCell_other _ _ _ _ (by simp [hj])⟩

theorem next_any (B bm : Nat) (E : Env) (ns : List UInt8) (k : Nat) (w : World) (h : MakerAt B bm E ns w) (hk : 0 < k) (hk1 : k ≤ 1000) :
    Calls Tryz.prog 21 #[.pointer (some ⟨bm, 0, none⟩), .int .i64 k] w fun e w' => e = .returned (.int .i64 (nxV ns k : Int)) ∧ MakerAt B bm E ns.tail w' ∧ w.grownBy w' (some bm) :=
  (next_keep B bm E ns k w h hk hk1).mono fun _ _ ⟨h1, h2, h3, _⟩ => ⟨h1, h2, h3⟩

theorem literal_any (bm : Nat) (k : Nat) (hk : k ≤ 1000) (w : World) :
    Calls Tryz.prog 94 #[.pointer (some ⟨bm, 0, none⟩), .int .i64 k] w fun e w' => e = .returned (.agg #[.int .i64 0, .int .i64 0, .string ⟨#[]⟩, .int .u64 (k : Int), .slice none 0 0, .int .i64 0]) ∧ Below w.heap.size w w' := by
  go_enter Tryz.func94, Tryz.ntmps94
  go_wp2
  exact bodyPost_ret (v := .agg #[.int .i64 0, .int .i64 0, .string ⟨#[]⟩, .int .u64 (k : Int), .slice none 0 0, .int .i64 0]) (by simp [results, Tryz.results94, go_sem]) rfl ⟨rfl, (Below.refl _ _).alloc (Nat.le_refl _) _⟩

theorem name_any (s : ByteArray) (w : World) :
    Calls Tryz.prog 93 #[.string s] w fun e w' => e = .returned (.agg #[.int .i64 1, .int .i64 0, .string s, .int .u64 0, .slice none 0 0, .int .i64 0]) ∧ Below w.heap.size w w' := by
  go_enter Tryz.func93, Tryz.ntmps93
  go_wp2
  exact bodyPost_ret (v := .agg #[.int .i64 1, .int .i64 0, .string s, .int .u64 0, .slice none 0 0, .int .i64 0]) (by simp [results, Tryz.results93, go_sem]) rfl ⟨rfl, (Below.refl _ _).alloc (Nat.le_refl _) _⟩

theorem enc_digit : ∀ m : Fin 10, Utf8.encode (48 + (m.val : Int)) = ⟨#[UInt8.ofNat (48 + m.val)]⟩ := by decide
theorem enc_digit' (n : Nat) : Utf8.encode (48 + (n : Int) % 10) = ⟨#[digitB n]⟩ := enc_digit ⟨n % 10, Nat.mod_lt _ (by decide)⟩
set_option maxHeartbeats 2000000 in
theorem digit_any (n : Nat) (hn : n ≤ 1000) (w : World) :
    Calls Tryz.prog 22 #[.int .i64 n] w fun e w' => e = .returned (.string ⟨#[digitB n]⟩) ∧ w' = w := by
  go_enter Tryz.func22, Tryz.ntmps22
  go_wp2
  go_ret
  exact ⟨by rw [enc_digit' n]; rfl, rfl⟩
end Go.Proofs.YtfginegegaokbaaGreatDoor
