/- What the reader's decl does. Conditions: as in PRead. -/
import Derived.Test.YtfginegegaokbaaGreatDoorPDecl
namespace Go.Proofs.YtfginegegaokbaaGreatDoor.Pr
open Go.ChangeShapes Go.WideShapes Go.ChangeAt Go.RowKit
open Lx (Tok)
set_option linter.unusedVariables false
set_option linter.unusedSimpArgs false

@[reducible] def zeroD : Obj := .cells #[.bool false, .int .i64 0, .string ⟨#[]⟩, .int .i64 0, .string ⟨#[]⟩, .int .i64 0] 68
@[reducible] def dagg (d : Dcl) : Value := .agg #[.bool d.lock, .int .i64 d.label, .string d.name, .int .i64 d.size, .string d.by_, .int .i64 d.at_]
theorem put6D {w : World} {r : Nat} {x0 x1 x2 x3 x4 x5 : Value} (h : w.heap[r]? = some (.cells #[x0, x1, x2, x3, x4, x5] 68 (0, 0))) (u0 u1 u2 u3 u4 u5 : Value) :
    (put6 w r u0 u1 u2 u3 u4 u5).heap[r]? = some (.cells #[u0, u1, u2, u3, u4, u5] 68 (0, 0)) := by
  have h1 : (w.setCell ⟨r, 0, none⟩ u0).heap[r]? = some (.cells #[u0, x1, x2, x3, x4, x5] 68 (0, 0)) := set_heap h 0 u0
  have h2 : ((w.setCell ⟨r, 0, none⟩ u0).setCell ⟨r, 1, none⟩ u1).heap[r]? = some (.cells #[u0, u1, x2, x3, x4, x5] 68 (0, 0)) := set_heap h1 1 u1
  have h3 : (((w.setCell ⟨r, 0, none⟩ u0).setCell ⟨r, 1, none⟩ u1).setCell ⟨r, 2, none⟩ u2).heap[r]? = some (.cells #[u0, u1, u2, x3, x4, x5] 68 (0, 0)) := set_heap h2 2 u2
  have h4 : ((((w.setCell ⟨r, 0, none⟩ u0).setCell ⟨r, 1, none⟩ u1).setCell ⟨r, 2, none⟩ u2).setCell ⟨r, 3, none⟩ u3).heap[r]? = some (.cells #[u0, u1, u2, u3, x4, x5] 68 (0, 0)) := set_heap h3 3 u3
  have h5 : (((((w.setCell ⟨r, 0, none⟩ u0).setCell ⟨r, 1, none⟩ u1).setCell ⟨r, 2, none⟩ u2).setCell ⟨r, 3, none⟩ u3).setCell ⟨r, 4, none⟩ u4).heap[r]? = some (.cells #[u0, u1, u2, u3, u4, x5] 68 (0, 0)) := set_heap h4 4 u4
  exact set_heap h5 5 u5
theorem boxD_free {w : World} {k : Nat} {cs : Array Value} (h : w.heap[k]? = some (.cells cs 68 (0, 0))) :
    w.frozen? ⟨k, 0, none⟩ = false ∧ w.frozen? ⟨k, 1, none⟩ = false ∧ w.frozen? ⟨k, 2, none⟩ = false ∧ w.frozen? ⟨k, 3, none⟩ = false ∧ w.frozen? ⟨k, 4, none⟩ = false ∧ w.frozen? ⟨k, 5, none⟩ = false :=
  ⟨Lib.frozen_of_heap h 0, Lib.frozen_of_heap h 1, Lib.frozen_of_heap h 2, Lib.frozen_of_heap h 3, Lib.frozen_of_heap h 4, Lib.frozen_of_heap h 5⟩
/-- What a function of the reader's that answers a declaration leaves. -/
def Dde (B br : Nat) (w : World) (dr : Dcl × Rd) (e : Ending) (w' : World) : Prop := e = .returned (dagg dr.1) ∧ RdAt B br dr.2 w' ∧ w.grownBy w' (some br)
theorem dc_start {B br : Nat} {r : Rd} {w : World} (h : RdAt B br r w) : DcV B br (w.alloc zeroD) (w.heap.size + 2) ⟨false, 0, ⟨#[]⟩, 0, ⟨#[]⟩, (r.here.at_ : Int)⟩ r (((w.alloc zeroD).alloc (tokO r.here)).alloc (.cells #[.bool false, .int .i64 0, .string ⟨#[]⟩, .int .i64 0, .string ⟨#[]⟩, .int .i64 (r.here.at_ : Int)] 68)) :=
  ⟨((h.alloc _).alloc _).alloc _, grown_alloc (World.grownBy_alloc _ _ _) _, by rw [alloc_at, if_pos (by simp)]⟩
theorem dc_zero {B br db : Nat} {w w' : World} {d : Dcl} {rr : Rd} (hb : br < w.heap.size) (h : DcV B br (w.alloc zeroD) db d rr w') : w'.heap[w.heap.size]? = some zeroD := by
  rw [h.2.1.block w.heap.size (by rw [alloc_size]; omega) (by simp; omega), alloc_at, if_pos rfl]
theorem dc_end {B br db : Nat} {w w' : World} {d : Dcl} {rr : Rd} (hb : br < w.heap.size) (h : DcV B br (w.alloc zeroD) db d rr w') (x0 x1 x2 x3 x4 x5 : Value) : Dde B br w (d, rr) (.returned (dagg d)) (put6 w' w.heap.size x0 x1 x2 x3 x4 x5) :=
  ⟨rfl, h.1.step (put6_grown _ _ _ _ _ _ _ _) (dc_zero hb h) notRdD, grown_put6 (grownBy_trans (World.grownBy_alloc w _ _) h.2.1) (Nat.le_refl _) _ _ _ _ _ _⟩
set_option maxHeartbeats 4000000 in
set_option maxRecDepth 100000 in
theorem decl_lock (B br : Nat) (r : Rd) (w : World) (h : RdAt B br r w) (hi : r.is kLock = true) :
    Calls Tryz.prog 44 #[.pointer (some ⟨br, 0, none⟩)] w (Dde B br w (⟨true, 0, bstr r.next.name.1, 0, ⟨#[]⟩, (r.here.at_ : Int)⟩, (r.next.name.2).want [59])) := by
  have hh := here_any B br r _ (h.alloc zeroD)
  have hf := tok_at
  have ST1 := Lib.hid (dc_start h)
  have HLB := Lib.hid h.lt
  have hlt := h.lt
  have hdb : Hid ((w.alloc zeroD).heap.size ≤ w.heap.size + 2) := by show _ ≤ _; rw [alloc_size]; omega
  have HDB := hdb
  clear hdb
  have NN := fun w' h' => rname_any B br r.next w' h'
  obtain ⟨n4, r4, e4⟩ : ∃ x y, r.next.name = (x, y) := ⟨_, _, rfl⟩
  rw [e4] at NN ⊢
  simp only at NN ⊢
  clear e4
  clear h
  generalize r.here = T at *
  go_enter Tryz.func44, Tryz.ntmps44
  go_wp2_with (first
    | (go_at_call 46; refine (want_any B br r4 ⟨#[59]⟩ [59] rfl _ st5.out.1).mono ?_; rintro e w6 ⟨rfl, h6, g6⟩; have st9 := Lib.hid (st5.out.on h6 g6); have hlb := HLB.out; have z9 := dc_zero hlb st9.out; have hz9 := heap_lt z9; obtain ⟨c0, c1, c2, c3, c4, c5, cf, hl9⟩ := st9.out.cells; clear cf; obtain ⟨f0, f1, f2, f3, f4, f5⟩ := boxD_free z9; obtain ⟨i0, i1, i2, i3, i4, i5⟩ := decl_cells z9)
    | (go_at_call 74; refine (NN _ st3.out.1).mono ?_; rintro e w4 ⟨rfl, h4, g4⟩; have st4 := st3.out.on h4 g4; obtain ⟨c0, c1, c2, c3, c4, c5, cf, hl4⟩ := st4.cells; have cf2 := cf 2; clear cf; have st5 := Lib.hid (st4.name HDB.out (bstr n4)))
    | (go_at_call 73; refine (take_yes B br r ⟨#[108, 111, 99, 107]⟩ kLock rfl _ ST1.out.1 hi).mono ?_; rintro e w2 ⟨rfl, h2, g2⟩; have st2 := ST1.out.on h2 g2; obtain ⟨c0, c1, c2, c3, c4, c5, cf, hl2⟩ := st2.cells; have cf0 := cf 0; clear cf; have st3 := Lib.hid (st2.lock HDB.out true))
    | (go_at_call 45; refine hh.mono ?_; rintro e w' ⟨rfl, rfl⟩))
  have hP := put6D z9 (.bool true) (.int .i64 0) (.string (bstr n4)) (.int .i64 0) (.string ⟨#[]⟩) (.int .i64 (T.at_ : Int))
  obtain ⟨q0, q1, q2, q3, q4, q5⟩ := decl_cells hP
  exact bodyPost_ret (v := dagg ⟨true, 0, bstr n4, 0, ⟨#[]⟩, (T.at_ : Int)⟩) (by simp [results, Tryz.results44, go_sem, q0, q1, q2, q3, q4, q5]) rfl (dc_end HLB.out st9.out _ _ _ _ _ _)
set_option maxHeartbeats 4000000 in
set_option maxRecDepth 100000 in
theorem decl_pub (B br : Nat) (r : Rd) (w : World) (h : RdAt B br r w) (hi : r.is kLock = false) (hj : r.is kPublic = true) :
    Calls Tryz.prog 44 #[.pointer (some ⟨br, 0, none⟩)] w (Dde B br w ((cellsP ⟨false, 0, ⟨#[]⟩, 0, ⟨#[]⟩, (r.here.at_ : Int)⟩ r.next).1, ((cellsP ⟨false, 0, ⟨#[]⟩, 0, ⟨#[]⟩, (r.here.at_ : Int)⟩ r.next).2).want [59])) := by
  have hh := here_any B br r _ (h.alloc zeroD)
  have hf := tok_at
  have ST1 := Lib.hid (dc_start h)
  have HLB := Lib.hid h.lt
  have hlt := h.lt
  have hdb : Hid ((w.alloc zeroD).heap.size ≤ w.heap.size + 2) := by show _ ≤ _; rw [alloc_size]; omega
  have HDB := hdb
  clear hdb
  have CC := fun w0 db w' h' hs' => cells_any B br w0 db false 0 (r.here.at_ : Int) r.next w' h' hs'
  obtain ⟨D, r4, e4⟩ : ∃ x y, cellsP ⟨false, 0, ⟨#[]⟩, 0, ⟨#[]⟩, (r.here.at_ : Int)⟩ r.next = (x, y) := ⟨_, _, rfl⟩
  rw [e4] at CC ⊢
  simp only at CC ⊢
  clear e4
  clear h
  generalize r.here = T at *
  go_enter Tryz.func44, Tryz.ntmps44
  go_wp2_with (first
    | (go_at_call 46; refine (want_any B br r4 ⟨#[59]⟩ [59] rfl _ st5.out.1).mono ?_; rintro e w6 ⟨rfl, h6, g6⟩; have st9 := Lib.hid (st5.out.on h6 g6); have hlb := HLB.out; have z9 := dc_zero hlb st9.out; have hz9 := heap_lt z9; obtain ⟨c0, c1, c2, c3, c4, c5, cf, hl9⟩ := st9.out.cells; clear cf; obtain ⟨f0, f1, f2, f3, f4, f5⟩ := boxD_free z9; obtain ⟨i0, i1, i2, i3, i4, i5⟩ := decl_cells z9)
    | (go_at_call 75; refine (CC _ _ _ st3.out HDB.out).mono ?_; rintro e w5 ⟨rfl, st5'⟩; have st5 := Lib.hid st5')
    | (go_at_call 73; refine (take_yes B br r ⟨#[112, 117, 98, 108, 105, 99]⟩ kPublic rfl _ st2.out.1 hj).mono ?_; rintro e w3 ⟨rfl, h3, g3⟩; have st3 := Lib.hid (st2.out.on h3 g3))
    | (go_at_call 73; refine (take_no B br r ⟨#[108, 111, 99, 107]⟩ kLock rfl _ ST1.out.1 hi).mono ?_; rintro e w2 ⟨rfl, h2, g2⟩; have st2 := Lib.hid (ST1.out.on h2 g2))
    | (go_at_call 45; refine hh.mono ?_; rintro e w' ⟨rfl, rfl⟩))
  have hP := put6D z9 (.bool D.lock) (.int .i64 D.label) (.string D.name) (.int .i64 D.size) (.string D.by_) (.int .i64 D.at_)
  obtain ⟨q0, q1, q2, q3, q4, q5⟩ := decl_cells hP
  exact bodyPost_ret (v := dagg D) (by simp [results, Tryz.results44, go_sem, q0, q1, q2, q3, q4, q5]) rfl (dc_end HLB.out st9.out _ _ _ _ _ _)
set_option maxHeartbeats 4000000 in
set_option maxRecDepth 100000 in
theorem decl_sec (B br : Nat) (r : Rd) (w : World) (h : RdAt B br r w) (hi : r.is kLock = false) (hj : r.is kPublic = false) (hk : r.is kSecret = true) :
    Calls Tryz.prog 44 #[.pointer (some ⟨br, 0, none⟩)] w (Dde B br w ((cellsP ⟨false, 1, ⟨#[]⟩, 0, ⟨#[]⟩, (r.here.at_ : Int)⟩ r.next).1, ((cellsP ⟨false, 1, ⟨#[]⟩, 0, ⟨#[]⟩, (r.here.at_ : Int)⟩ r.next).2).want [59])) := by
  have hh := here_any B br r _ (h.alloc zeroD)
  have hf := tok_at
  have ST1 := Lib.hid (dc_start h)
  have HLB := Lib.hid h.lt
  have hlt := h.lt
  have hdb : Hid ((w.alloc zeroD).heap.size ≤ w.heap.size + 2) := by show _ ≤ _; rw [alloc_size]; omega
  have HDB := hdb
  clear hdb
  have CC := fun w0 db w' h' hs' => cells_any B br w0 db false 1 (r.here.at_ : Int) r.next w' h' hs'
  obtain ⟨D, r4, e4⟩ : ∃ x y, cellsP ⟨false, 1, ⟨#[]⟩, 0, ⟨#[]⟩, (r.here.at_ : Int)⟩ r.next = (x, y) := ⟨_, _, rfl⟩
  rw [e4] at CC ⊢
  simp only at CC ⊢
  clear e4
  clear h
  generalize r.here = T at *
  go_enter Tryz.func44, Tryz.ntmps44
  go_wp2_with (first
    | (go_at_call 46; refine (want_any B br r4 ⟨#[59]⟩ [59] rfl _ st5.out.1).mono ?_; rintro e w6 ⟨rfl, h6, g6⟩; have st9 := Lib.hid (st5.out.on h6 g6); have hlb := HLB.out; have z9 := dc_zero hlb st9.out; have hz9 := heap_lt z9; obtain ⟨c0, c1, c2, c3, c4, c5, cf, hl9⟩ := st9.out.cells; clear cf; obtain ⟨f0, f1, f2, f3, f4, f5⟩ := boxD_free z9; obtain ⟨i0, i1, i2, i3, i4, i5⟩ := decl_cells z9)
    | (go_at_call 75; refine (CC _ _ _ st44.out HDB.out).mono ?_; rintro e w5 ⟨rfl, st5'⟩; have st5 := Lib.hid st5')
    | (go_at_call 73; refine (take_yes B br r ⟨#[115, 101, 99, 114, 101, 116]⟩ kSecret rfl _ st3.out.1 hk).mono ?_; rintro e w4 ⟨rfl, h4, g4⟩; have st4 := st3.out.on h4 g4; obtain ⟨c0, c1, c2, c3, c4, c5, cf, hl4⟩ := st4.cells; have cf1 := cf 1; clear cf; have st44 := Lib.hid (st4.label HDB.out 1))
    | (go_at_call 73; refine (take_no B br r ⟨#[112, 117, 98, 108, 105, 99]⟩ kPublic rfl _ st2.out.1 hj).mono ?_; rintro e w3 ⟨rfl, h3, g3⟩; have st3 := Lib.hid (st2.out.on h3 g3))
    | (go_at_call 73; refine (take_no B br r ⟨#[108, 111, 99, 107]⟩ kLock rfl _ ST1.out.1 hi).mono ?_; rintro e w2 ⟨rfl, h2, g2⟩; have st2 := Lib.hid (ST1.out.on h2 g2))
    | (go_at_call 45; refine hh.mono ?_; rintro e w' ⟨rfl, rfl⟩))
  have hP := put6D z9 (.bool D.lock) (.int .i64 D.label) (.string D.name) (.int .i64 D.size) (.string D.by_) (.int .i64 D.at_)
  obtain ⟨q0, q1, q2, q3, q4, q5⟩ := decl_cells hP
  exact bodyPost_ret (v := dagg D) (by simp [results, Tryz.results44, go_sem, q0, q1, q2, q3, q4, q5]) rfl (dc_end HLB.out st9.out _ _ _ _ _ _)
set_option maxHeartbeats 4000000 in
set_option maxRecDepth 100000 in
theorem decl_none (B br : Nat) (r : Rd) (w : World) (h : RdAt B br r w) (hi : r.is kLock = false) (hj : r.is kPublic = false) (hk : r.is kSecret = false) :
    Calls Tryz.prog 44 #[.pointer (some ⟨br, 0, none⟩)] w (Dde B br w (⟨false, 0, ⟨#[]⟩, 0, ⟨#[]⟩, (r.here.at_ : Int)⟩, (r.fail 2).want [59])) := by
  have hh := here_any B br r _ (h.alloc zeroD)
  have hf := tok_at
  have ST1 := Lib.hid (dc_start h)
  have HLB := Lib.hid h.lt
  have hlt := h.lt
  have hdb : Hid ((w.alloc zeroD).heap.size ≤ w.heap.size + 2) := by show _ ≤ _; rw [alloc_size]; omega
  have HDB := hdb
  clear hdb
  have FF := fun w' h' => fail_any B br 2 r w' h' (by omega)
  obtain ⟨r5, e5⟩ : ∃ x, r.fail 2 = x := ⟨_, rfl⟩
  rw [e5] at FF ⊢
  clear e5
  clear h
  generalize r.here = T at *
  go_enter Tryz.func44, Tryz.ntmps44
  go_wp2_with (first
    | (go_at_call 46; refine (want_any B br r5 ⟨#[59]⟩ [59] rfl _ st5.out.1).mono ?_; rintro e w6 ⟨rfl, h6, g6⟩; have st9 := Lib.hid (st5.out.on h6 g6); have hlb := HLB.out; have z9 := dc_zero hlb st9.out; have hz9 := heap_lt z9; obtain ⟨c0, c1, c2, c3, c4, c5, cf, hl9⟩ := st9.out.cells; clear cf; obtain ⟨f0, f1, f2, f3, f4, f5⟩ := boxD_free z9; obtain ⟨i0, i1, i2, i3, i4, i5⟩ := decl_cells z9)
    | (go_at_call 43; refine (FF _ st4.out.1).mono ?_; rintro e w5 ⟨rfl, h5, g5⟩; have st5 := Lib.hid (st4.out.on h5 g5))
    | (go_at_call 73; refine (take_no B br r ⟨#[115, 101, 99, 114, 101, 116]⟩ kSecret rfl _ st3.out.1 hk).mono ?_; rintro e w4 ⟨rfl, h4, g4⟩; have st4 := Lib.hid (st3.out.on h4 g4))
    | (go_at_call 73; refine (take_no B br r ⟨#[112, 117, 98, 108, 105, 99]⟩ kPublic rfl _ st2.out.1 hj).mono ?_; rintro e w3 ⟨rfl, h3, g3⟩; have st3 := Lib.hid (st2.out.on h3 g3))
    | (go_at_call 73; refine (take_no B br r ⟨#[108, 111, 99, 107]⟩ kLock rfl _ ST1.out.1 hi).mono ?_; rintro e w2 ⟨rfl, h2, g2⟩; have st2 := Lib.hid (ST1.out.on h2 g2))
    | (go_at_call 45; refine hh.mono ?_; rintro e w' ⟨rfl, rfl⟩))
  have hP := put6D z9 (.bool false) (.int .i64 0) (.string ⟨#[]⟩) (.int .i64 0) (.string ⟨#[]⟩) (.int .i64 (T.at_ : Int))
  obtain ⟨q0, q1, q2, q3, q4, q5⟩ := decl_cells hP
  exact bodyPost_ret (v := dagg ⟨false, 0, ⟨#[]⟩, 0, ⟨#[]⟩, (T.at_ : Int)⟩) (by simp [results, Tryz.results44, go_sem, q0, q1, q2, q3, q4, q5]) rfl (dc_end HLB.out st9.out _ _ _ _ _ _)
/-- reader.decl -/
theorem decl_any (B br : Nat) (r : Rd) (w : World) (h : RdAt B br r w) : Calls Tryz.prog 44 #[.pointer (some ⟨br, 0, none⟩)] w (Dde B br w (declP r)) := by
  cases hi : r.is kLock with
  | true => have := decl_lock B br r w h hi; unfold declP; simp only [hi, if_true]; exact this
  | false =>
    cases hj : r.is kPublic with
    | true => have := decl_pub B br r w h hi hj; unfold declP; simp only [hi, hj, if_true, Bool.false_eq_true, if_false]; exact this
    | false =>
      cases hk : r.is kSecret with
      | true => have := decl_sec B br r w h hi hj hk; unfold declP; simp only [hi, hj, hk, if_true, Bool.false_eq_true, if_false]; exact this
      | false => have := decl_none B br r w h hi hj hk; unfold declP; simp only [hi, hj, hk, if_true, Bool.false_eq_true, if_false]; exact this
end Go.Proofs.YtfginegegaokbaaGreatDoor.Pr
