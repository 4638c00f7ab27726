/- What the reader's cells and decl do. Conditions: as in PRead. -/
import Derived.Test.YtfginegegaokbaaGreatDoorPBlock
namespace Go.Proofs.YtfginegegaokbaaGreatDoor.Pr
open Go.ChangeShapes Go.WideShapes Go.ChangeAt Go.RowKit
open Lx (Tok)
set_option linter.unusedVariables false
set_option linter.unusedSimpArgs false

theorem notRdD : ¬ rdType 68 := by unfold rdType; decide
/-- A declaration under way in block db. -/
def DcV (B br : Nat) (w0 : World) (db : Nat) (d : Dcl) (rr : Rd) (w : World) : Prop :=
  RdAt B br rr w ∧ w0.grownBy w (some br) ∧ w.heap[db]? = some (.cells #[.bool d.lock, .int .i64 d.label, .string d.name, .int .i64 d.size, .string d.by_, .int .i64 d.at_] 68 (0, 0))
theorem DcV.on {B br db : Nat} {w0 w w' : World} {d : Dcl} {rr rr' : Rd} (h : DcV B br w0 db d rr w) (h' : RdAt B br rr' w') (hg : w.grownBy w' (some br)) : DcV B br w0 db d rr' w' :=
  ⟨h', grownBy_trans h.2.1 hg, h.1.heap hg h.2.2 (by decide)⟩
theorem DcV.cells {B br db : Nat} {w0 w : World} {d : Dcl} {rr : Rd} (h : DcV B br w0 db d rr w) : w.cell? ⟨db, 0, none⟩ = some (.bool d.lock) ∧ w.cell? ⟨db, 1, none⟩ = some (.int .i64 d.label) ∧ w.cell? ⟨db, 2, none⟩ = some (.string d.name) ∧ w.cell? ⟨db, 3, none⟩ = some (.int .i64 d.size) ∧ w.cell? ⟨db, 4, none⟩ = some (.string d.by_) ∧ w.cell? ⟨db, 5, none⟩ = some (.int .i64 d.at_) ∧ (∀ j, w.frozen? ⟨db, j, none⟩ = false) ∧ db < w.heap.size := by
  obtain ⟨h1, h2, h3⟩ := h
  obtain ⟨c0, c1, c2, c3, c4, c5⟩ := decl_cells h3
  exact ⟨c0, c1, c2, c3, c4, c5, fun j => Lib.frozen_of_heap h3 j, heap_lt h3⟩
theorem DcV.set {B br db : Nat} {w0 w : World} {d : Dcl} {rr : Rd} (h : DcV B br w0 db d rr w) (hdb : w0.heap.size ≤ db) (j : Nat) (u : Value) (d' : Dcl)
    (hc : (#[.bool d.lock, .int .i64 d.label, .string d.name, .int .i64 d.size, .string d.by_, .int .i64 d.at_] : Array Value).setIfInBounds j u = #[.bool d'.lock, .int .i64 d'.label, .string d'.name, .int .i64 d'.size, .string d'.by_, .int .i64 d'.at_]) : DcV B br w0 db d' rr (w.setCell ⟨db, j, none⟩ u) := by
  obtain ⟨h1, h2, h3⟩ := h
  refine ⟨h1.set h3 notRdD _ _, grown_set h2 hdb _ _, ?_⟩
  rw [← hc]; exact set_heap h3 j u
theorem DcV.name {B br db : Nat} {w0 w : World} {d : Dcl} {rr : Rd} (h : DcV B br w0 db d rr w) (hdb : w0.heap.size ≤ db) (x : ByteArray) : DcV B br w0 db { d with name := x } rr (w.setCell ⟨db, 2, none⟩ (.string x)) := h.set hdb 2 _ _ rfl
theorem DcV.size {B br db : Nat} {w0 w : World} {d : Dcl} {rr : Rd} (h : DcV B br w0 db d rr w) (hdb : w0.heap.size ≤ db) (x : Int) : DcV B br w0 db { d with size := x } rr (w.setCell ⟨db, 3, none⟩ (.int .i64 x)) := h.set hdb 3 _ _ rfl
theorem DcV.byL {B br db : Nat} {w0 w : World} {d : Dcl} {rr : Rd} (h : DcV B br w0 db d rr w) (hdb : w0.heap.size ≤ db) (x : ByteArray) : DcV B br w0 db { d with by_ := x } rr (w.setCell ⟨db, 4, none⟩ (.string x)) := h.set hdb 4 _ _ rfl
theorem DcV.lock {B br db : Nat} {w0 w : World} {d : Dcl} {rr : Rd} (h : DcV B br w0 db d rr w) (hdb : w0.heap.size ≤ db) (x : Bool) : DcV B br w0 db { d with lock := x } rr (w.setCell ⟨db, 0, none⟩ (.bool x)) := h.set hdb 0 _ _ rfl
theorem DcV.label {B br db : Nat} {w0 w : World} {d : Dcl} {rr : Rd} (h : DcV B br w0 db d rr w) (hdb : w0.heap.size ≤ db) (x : Int) : DcV B br w0 db { d with label := x } rr (w.setCell ⟨db, 1, none⟩ (.int .i64 x)) := h.set hdb 1 _ _ rfl
theorem cells_00 (d : Dcl) (r : Rd) (hd : d.size = 0) (h1 : r.name.2.is [91] = false) (h2 : r.name.2.is kBy = false) : cellsP d r = ({ d with name := bstr r.name.1 }, r.name.2) := by
  unfold cellsP; simp only [h1, h2, Bool.false_eq_true, if_false]; rw [← hd]
theorem cells_01 (d : Dcl) (r : Rd) (hd : d.size = 0) (h1 : r.name.2.is [91] = false) (h2 : r.name.2.is kBy = true) : cellsP d r = ({ d with name := bstr r.name.1, by_ := bstr r.name.2.next.name.1 }, r.name.2.next.name.2) := by
  unfold cellsP; simp only [h1, h2, Bool.false_eq_true, if_false, if_true]; rw [← hd]
theorem cells_10 (d : Dcl) (r : Rd) (h1 : r.name.2.is [91] = true) (h2 : ((r.name.2.next.number 64).2.want [93]).is kBy = false) : cellsP d r = ({ d with name := bstr r.name.1, size := ((r.name.2.next.number 64).1 : Int) }, (r.name.2.next.number 64).2.want [93]) := by
  unfold cellsP; simp only [h1, h2, Bool.false_eq_true, if_false, if_true]
theorem cells_11 (d : Dcl) (r : Rd) (h1 : r.name.2.is [91] = true) (h2 : ((r.name.2.next.number 64).2.want [93]).is kBy = true) : cellsP d r = ({ d with name := bstr r.name.1, size := ((r.name.2.next.number 64).1 : Int), by_ := bstr ((r.name.2.next.number 64).2.want [93]).next.name.1 }, ((r.name.2.next.number 64).2.want [93]).next.name.2) := by
  unfold cellsP; simp only [h1, h2, Bool.false_eq_true, if_false, if_true]
set_option maxHeartbeats 4000000 in
set_option maxRecDepth 100000 in
/-- reader.cells -/
theorem cells_any (B br : Nat) (w0 : World) (db : Nat) (k : Bool) (l a : Int) (rr : Rd) (w : World) (h : DcV B br w0 db ⟨k, l, ⟨#[]⟩, 0, ⟨#[]⟩, a⟩ rr w) (hdb : w0.heap.size ≤ db) :
    Calls Tryz.prog 75 #[.pointer (some ⟨br, 0, none⟩), .pointer (some ⟨db, 0, none⟩)] w fun e w' => e = .returned (.tuple #[]) ∧ DcV B br w0 db (cellsP ⟨k, l, ⟨#[]⟩, 0, ⟨#[]⟩, a⟩ rr).1 (cellsP ⟨k, l, ⟨#[]⟩, 0, ⟨#[]⟩, a⟩ rr).2 w' := by
  have N1 := rname_any B br rr w h.1
  have H := Lib.hid h
  cases hi1 : rr.name.2.is [91] with
  | false =>
    cases hi2 : rr.name.2.is kBy with
    | false =>
      rw [cells_00 _ _ rfl hi1 hi2]
      obtain ⟨n1, r1, e1⟩ : ∃ x y, rr.name = (x, y) := ⟨_, _, rfl⟩
      rw [e1] at N1 hi1 hi2 ⊢
      simp only at N1 hi1 hi2 ⊢
      clear h e1
      go_enter Tryz.func75, Tryz.ntmps75
      go_wp2_with (first
        | (go_at_call 73; refine (take_no B br r1 ⟨#[98, 121]⟩ kBy rfl _ st2.out.1 hi2).mono ?_; rintro e w3 ⟨rfl, h3, g3⟩; have st3 := Lib.hid (st2.out.on h3 g3))
        | (go_at_call 73; refine (take_no B br r1 ⟨#[91]⟩ [91] rfl _ st1.out.1 hi1).mono ?_; rintro e w2 ⟨rfl, h2, g2⟩; have st2 := Lib.hid (st1.out.on h2 g2))
        | (go_at_call 74; refine N1.mono ?_; rintro e w1 ⟨rfl, h1, g1⟩; have st0 := H.out.on h1 g1; obtain ⟨c0, c1, c2, c3, c4, c5, cf, hl1⟩ := st0.cells; have cf2 := cf 2; clear cf; have st1 := Lib.hid (st0.name hdb (bstr n1))))
      go_end0
      exact ⟨rfl, st3.out⟩
    | true =>
      rw [cells_01 _ _ rfl hi1 hi2]
      obtain ⟨n1, r1, e1⟩ : ∃ x y, rr.name = (x, y) := ⟨_, _, rfl⟩
      rw [e1] at N1 hi1 hi2 ⊢
      simp only at N1 hi1 hi2 ⊢
      clear h e1
      go_enter Tryz.func75, Tryz.ntmps75
      go_wp2_with (first
        | (go_at_call 74; refine (rname_any B br r1.next _ st3.out.1).mono ?_; rintro e w4 ⟨rfl, h4, g4⟩; have st4 := st3.out.on h4 g4; obtain ⟨c0, c1, c2, c3, c4, c5, cf, hl4⟩ := st4.cells; have cf4 := cf 4; clear cf; have st5 := Lib.hid (st4.byL hdb (bstr r1.next.name.1)))
        | (go_at_call 73; refine (take_yes B br r1 ⟨#[98, 121]⟩ kBy rfl _ st2.out.1 hi2).mono ?_; rintro e w3 ⟨rfl, h3, g3⟩; have st3 := Lib.hid (st2.out.on h3 g3))
        | (go_at_call 73; refine (take_no B br r1 ⟨#[91]⟩ [91] rfl _ st1.out.1 hi1).mono ?_; rintro e w2 ⟨rfl, h2, g2⟩; have st2 := Lib.hid (st1.out.on h2 g2))
        | (go_at_call 74; refine N1.mono ?_; rintro e w1 ⟨rfl, h1, g1⟩; have st0 := H.out.on h1 g1; obtain ⟨c0, c1, c2, c3, c4, c5, cf, hl1⟩ := st0.cells; have cf2 := cf 2; clear cf; have st1 := Lib.hid (st0.name hdb (bstr n1))))
      go_end0
      exact ⟨rfl, st5.out⟩
  | true =>
    cases hi2 : ((rr.name.2.next.number 64).2.want [93]).is kBy with
    | false =>
      rw [cells_10 _ _ hi1 hi2]
      obtain ⟨n1, r1, e1⟩ : ∃ x y, rr.name = (x, y) := ⟨_, _, rfl⟩
      rw [e1] at N1 hi1 hi2 ⊢
      simp only at N1 hi1 hi2 ⊢
      have N2 := fun w' h' => rnumber_any B br 64 (by omega) r1.next w' h'
      obtain ⟨n2, r2, e2⟩ : ∃ x y, r1.next.number 64 = (x, y) := ⟨_, _, rfl⟩
      rw [e2] at N2 hi2 ⊢
      simp only at N2 hi2 ⊢
      clear h e1 e2
      go_enter Tryz.func75, Tryz.ntmps75
      go_wp2_with (first
        | (go_at_call 73; refine (take_no B br (r2.want [93]) ⟨#[98, 121]⟩ kBy rfl _ st5.out.1 hi2).mono ?_; rintro e w6 ⟨rfl, h6, g6⟩; have st6 := Lib.hid (st5.out.on h6 g6))
        | (go_at_call 46; refine (want_any B br r2 ⟨#[93]⟩ [93] rfl _ st4.out.1).mono ?_; rintro e w5 ⟨rfl, h5, g5⟩; have st5 := Lib.hid (st4.out.on h5 g5))
        | (go_at_call 96; refine (N2 _ st2.out.1).mono ?_; rintro e w3 ⟨rfl, h3, g3⟩; have st3 := st2.out.on h3 g3; obtain ⟨c0, c1, c2, c3, c4, c5, cf, hl3⟩ := st3.cells; have cf3 := cf 3; clear cf; have st4 := Lib.hid (st3.size hdb (n2 : Int)))
        | (go_at_call 73; refine (take_yes B br r1 ⟨#[91]⟩ [91] rfl _ st1.out.1 hi1).mono ?_; rintro e w2 ⟨rfl, h2, g2⟩; have st2 := Lib.hid (st1.out.on h2 g2))
        | (go_at_call 74; refine N1.mono ?_; rintro e w1 ⟨rfl, h1, g1⟩; have st0 := H.out.on h1 g1; obtain ⟨c0, c1, c2, c3, c4, c5, cf, hl1⟩ := st0.cells; have cf2 := cf 2; clear cf; have st1 := Lib.hid (st0.name hdb (bstr n1))))
      go_end0
      exact ⟨rfl, st6.out⟩
    | true =>
      rw [cells_11 _ _ hi1 hi2]
      obtain ⟨n1, r1, e1⟩ : ∃ x y, rr.name = (x, y) := ⟨_, _, rfl⟩
      rw [e1] at N1 hi1 hi2 ⊢
      simp only at N1 hi1 hi2 ⊢
      have N2 := fun w' h' => rnumber_any B br 64 (by omega) r1.next w' h'
      obtain ⟨n2, r2, e2⟩ : ∃ x y, r1.next.number 64 = (x, y) := ⟨_, _, rfl⟩
      rw [e2] at N2 hi2 ⊢
      simp only at N2 hi2 ⊢
      clear h e1 e2
      go_enter Tryz.func75, Tryz.ntmps75
      go_wp2_with (first
        | (go_at_call 74; refine (rname_any B br (r2.want [93]).next _ st6.out.1).mono ?_; rintro e w7 ⟨rfl, h7, g7⟩; have st7 := st6.out.on h7 g7; obtain ⟨c0, c1, c2, c3, c4, c5, cf, hl7⟩ := st7.cells; have cf7 := cf 4; clear cf; have st8 := Lib.hid (st7.byL hdb (bstr (r2.want [93]).next.name.1)))
        | (go_at_call 73; refine (take_yes B br (r2.want [93]) ⟨#[98, 121]⟩ kBy rfl _ st5.out.1 hi2).mono ?_; rintro e w6 ⟨rfl, h6, g6⟩; have st6 := Lib.hid (st5.out.on h6 g6))
        | (go_at_call 46; refine (want_any B br r2 ⟨#[93]⟩ [93] rfl _ st4.out.1).mono ?_; rintro e w5 ⟨rfl, h5, g5⟩; have st5 := Lib.hid (st4.out.on h5 g5))
        | (go_at_call 96; refine (N2 _ st2.out.1).mono ?_; rintro e w3 ⟨rfl, h3, g3⟩; have st3 := st2.out.on h3 g3; obtain ⟨c0, c1, c2, c3, c4, c5, cf, hl3⟩ := st3.cells; have cf3 := cf 3; clear cf; have st4 := Lib.hid (st3.size hdb (n2 : Int)))
        | (go_at_call 73; refine (take_yes B br r1 ⟨#[91]⟩ [91] rfl _ st1.out.1 hi1).mono ?_; rintro e w2 ⟨rfl, h2, g2⟩; have st2 := Lib.hid (st1.out.on h2 g2))
        | (go_at_call 74; refine N1.mono ?_; rintro e w1 ⟨rfl, h1, g1⟩; have st0 := H.out.on h1 g1; obtain ⟨c0, c1, c2, c3, c4, c5, cf, hl1⟩ := st0.cells; have cf2 := cf 2; clear cf; have st1 := Lib.hid (st0.name hdb (bstr n1))))
      go_end0
      exact ⟨rfl, st8.out⟩
end Go.Proofs.YtfginegegaokbaaGreatDoor.Pr
