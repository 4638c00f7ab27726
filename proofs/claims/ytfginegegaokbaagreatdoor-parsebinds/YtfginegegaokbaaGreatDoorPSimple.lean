/- What the reader's simple does. Conditions: as in PRead. -/
import Derived.Test.YtfginegegaokbaaGreatDoorPStmtA
namespace Go.Proofs.YtfginegegaokbaaGreatDoor.Pr
open Go.ChangeShapes Go.WideShapes Go.ChangeAt Go.RowKit
open Lx (Tok)
set_option linter.unusedVariables false
set_option linter.unusedSimpArgs false

set_option maxHeartbeats 4000000 in
set_option maxRecDepth 100000 in
theorem simple0_any (B br : Nat) (w0 : World) (sb deep : Nat) (T : Tok) (a : Int) (rr : Rd) (w : World) (h : StV B br w0 sb ⟨0, ⟨#[]⟩, [], 0, [], [], a⟩ rr w) (hsb : w0.heap.size ≤ sb) (hd : deep ≤ 40) :
    Calls Tryz.prog 99 #[.pointer (some ⟨br, 0, none⟩), .pointer (some ⟨sb, 0, none⟩), .agg #[.int .i64 (T.kind : Int), .string (bstr T.text), .int .u64 (T.value : Int), .int .i64 (T.at_ : Int)], .int .i64 (deep : Int)] w fun e w' => e = .returned (.tuple #[]) ∧ StV B br w0 sb (simpleP T deep ⟨0, ⟨#[]⟩, [], 0, [], [], a⟩ rr).1 (simpleP T deep ⟨0, ⟨#[]⟩, [], 0, [], [], a⟩ rr).2 w' := by
  rw [simple_0 _ _ _ _ rfl]
  have H0 := Lib.hid (h.alloc (tokO T))
  obtain ⟨c0, c1, f0, f1, hlt⟩ := h.cells
  clear h
  go_enter Tryz.func99, Tryz.ntmps99
  go_wp2_with (first
    | (go_at_call 110; refine (value_any B br w0 sb deep _ _ _ st3.out hsb (by simp) hd).mono ?_; rintro e w4 ⟨rfl, st4⟩)
    | (go_at_call 46; refine (want_any B br rr.name.2 ⟨#[61]⟩ [61] rfl _ st2.out.1).mono ?_; rintro e w3 ⟨rfl, h3, g3⟩; have st3 := Lib.hid (st2.out.on h3 g3))
    | (go_at_call 74; refine (rname_any B br rr _ H0.out.1).mono ?_; rintro e w1 ⟨rfl, h1, g1⟩; have st1 := H0.out.on h1 g1; obtain ⟨d0, d1, e0, e1, hl1⟩ := st1.cells; have st2 := Lib.hid (st1.name hsb (bstr rr.name.1))))
  go_end0
  exact ⟨rfl, st4⟩
set_option maxHeartbeats 4000000 in
set_option maxRecDepth 100000 in
theorem simple5_any (B br : Nat) (w0 : World) (sb deep : Nat) (T : Tok) (a : Int) (rr : Rd) (w : World) (h : StV B br w0 sb ⟨5, ⟨#[]⟩, [], 0, [], [], a⟩ rr w) (hsb : w0.heap.size ≤ sb) (hd : deep ≤ 40) :
    Calls Tryz.prog 99 #[.pointer (some ⟨br, 0, none⟩), .pointer (some ⟨sb, 0, none⟩), .agg #[.int .i64 (T.kind : Int), .string (bstr T.text), .int .u64 (T.value : Int), .int .i64 (T.at_ : Int)], .int .i64 (deep : Int)] w fun e w' => e = .returned (.tuple #[]) ∧ StV B br w0 sb (simpleP T deep ⟨5, ⟨#[]⟩, [], 0, [], [], a⟩ rr).1 (simpleP T deep ⟨5, ⟨#[]⟩, [], 0, [], [], a⟩ rr).2 w' := by
  rw [simple_5 _ _ _ _ rfl]
  have H0 := Lib.hid (h.alloc (tokO T))
  obtain ⟨c0, c1, f0, f1, hlt⟩ := h.cells
  clear h
  go_enter Tryz.func99, Tryz.ntmps99
  go_wp2_with (go_at_call 74; refine (rname_any B br rr _ H0.out.1).mono ?_; rintro e w1 ⟨rfl, h1, g1⟩; have st1 := H0.out.on h1 g1; obtain ⟨d0, d1, e0, e1, hl1⟩ := st1.cells; have st2 := Lib.hid (st1.name hsb (bstr rr.name.1)))
  go_end0
  exact ⟨rfl, st2.out⟩
set_option maxHeartbeats 4000000 in
set_option maxRecDepth 100000 in
theorem simple6_any (B br : Nat) (w0 : World) (sb deep : Nat) (T : Tok) (a : Int) (rr : Rd) (w : World) (h : StV B br w0 sb ⟨6, ⟨#[]⟩, [], 0, [], [], a⟩ rr w) (hsb : w0.heap.size ≤ sb) (hd : deep ≤ 40) :
    Calls Tryz.prog 99 #[.pointer (some ⟨br, 0, none⟩), .pointer (some ⟨sb, 0, none⟩), .agg #[.int .i64 (T.kind : Int), .string (bstr T.text), .int .u64 (T.value : Int), .int .i64 (T.at_ : Int)], .int .i64 (deep : Int)] w fun e w' => e = .returned (.tuple #[]) ∧ StV B br w0 sb (simpleP T deep ⟨6, ⟨#[]⟩, [], 0, [], [], a⟩ rr).1 (simpleP T deep ⟨6, ⟨#[]⟩, [], 0, [], [], a⟩ rr).2 w' := by
  rw [simple_6 _ _ _ _ rfl]
  have H0 := Lib.hid (h.alloc (tokO T))
  obtain ⟨c0, c1, f0, f1, hlt⟩ := h.cells
  clear h
  go_enter Tryz.func99, Tryz.ntmps99
  go_wp2_with (go_at_call 74; refine (rname_any B br rr _ H0.out.1).mono ?_; rintro e w1 ⟨rfl, h1, g1⟩; have st1 := H0.out.on h1 g1; obtain ⟨d0, d1, e0, e1, hl1⟩ := st1.cells; have st2 := Lib.hid (st1.name hsb (bstr rr.name.1)))
  go_end0
  exact ⟨rfl, st2.out⟩
set_option maxHeartbeats 4000000 in
set_option maxRecDepth 100000 in
theorem simple7_any (B br : Nat) (w0 : World) (sb deep : Nat) (T : Tok) (a : Int) (rr : Rd) (w : World) (h : StV B br w0 sb ⟨7, ⟨#[]⟩, [], 0, [], [], a⟩ rr w) (hsb : w0.heap.size ≤ sb) (hd : deep ≤ 40) :
    Calls Tryz.prog 99 #[.pointer (some ⟨br, 0, none⟩), .pointer (some ⟨sb, 0, none⟩), .agg #[.int .i64 (T.kind : Int), .string (bstr T.text), .int .u64 (T.value : Int), .int .i64 (T.at_ : Int)], .int .i64 (deep : Int)] w fun e w' => e = .returned (.tuple #[]) ∧ StV B br w0 sb (simpleP T deep ⟨7, ⟨#[]⟩, [], 0, [], [], a⟩ rr).1 (simpleP T deep ⟨7, ⟨#[]⟩, [], 0, [], [], a⟩ rr).2 w' := by
  rw [simple_7 _ _ _ _ rfl]
  have H0 := Lib.hid (h.alloc (tokO T))
  obtain ⟨c0, c1, f0, f1, hlt⟩ := h.cells
  clear h
  go_enter Tryz.func99, Tryz.ntmps99
  go_wp2_with (first
    | (go_at_call 110; refine (value_any B br w0 sb deep _ _ _ st2.out hsb (by simp) hd).mono ?_; rintro e w4 ⟨rfl, st4⟩)
    | (go_at_call 74; refine (rname_any B br rr _ H0.out.1).mono ?_; rintro e w1 ⟨rfl, h1, g1⟩; have st1 := H0.out.on h1 g1; obtain ⟨d0, d1, e0, e1, hl1⟩ := st1.cells; have st2 := Lib.hid (st1.name hsb (bstr rr.name.1))))
  go_end0
  exact ⟨rfl, st4⟩
set_option maxHeartbeats 4000000 in
set_option maxRecDepth 100000 in
theorem simple8_any (B br : Nat) (w0 : World) (sb deep : Nat) (T : Tok) (a : Int) (rr : Rd) (w : World) (h : StV B br w0 sb ⟨8, ⟨#[]⟩, [], 0, [], [], a⟩ rr w) (hsb : w0.heap.size ≤ sb) (hd : deep ≤ 40) :
    Calls Tryz.prog 99 #[.pointer (some ⟨br, 0, none⟩), .pointer (some ⟨sb, 0, none⟩), .agg #[.int .i64 (T.kind : Int), .string (bstr T.text), .int .u64 (T.value : Int), .int .i64 (T.at_ : Int)], .int .i64 (deep : Int)] w fun e w' => e = .returned (.tuple #[]) ∧ StV B br w0 sb (simpleP T deep ⟨8, ⟨#[]⟩, [], 0, [], [], a⟩ rr).1 (simpleP T deep ⟨8, ⟨#[]⟩, [], 0, [], [], a⟩ rr).2 w' := by
  rw [simple_8 _ _ _ _ rfl]
  have H0 := Lib.hid (h.alloc (tokO T))
  obtain ⟨c0, c1, f0, f1, hlt⟩ := h.cells
  clear h
  go_enter Tryz.func99, Tryz.ntmps99
  go_wp2
  go_end0
  exact ⟨rfl, H0.out⟩
set_option maxHeartbeats 4000000 in
set_option maxRecDepth 100000 in
theorem simple9_any (B br : Nat) (w0 : World) (sb deep : Nat) (T : Tok) (a : Int) (rr : Rd) (w : World) (h : StV B br w0 sb ⟨9, ⟨#[]⟩, [], 0, [], [], a⟩ rr w) (hsb : w0.heap.size ≤ sb) (hd : deep ≤ 40) :
    Calls Tryz.prog 99 #[.pointer (some ⟨br, 0, none⟩), .pointer (some ⟨sb, 0, none⟩), .agg #[.int .i64 (T.kind : Int), .string (bstr T.text), .int .u64 (T.value : Int), .int .i64 (T.at_ : Int)], .int .i64 (deep : Int)] w fun e w' => e = .returned (.tuple #[]) ∧ StV B br w0 sb (simpleP T deep ⟨9, ⟨#[]⟩, [], 0, [], [], a⟩ rr).1 (simpleP T deep ⟨9, ⟨#[]⟩, [], 0, [], [], a⟩ rr).2 w' := by
  rw [simple_9 _ _ _ _ rfl]
  have H0 := Lib.hid (h.alloc (tokO T))
  obtain ⟨c0, c1, f0, f1, hlt⟩ := h.cells
  clear h
  go_enter Tryz.func99, Tryz.ntmps99
  go_wp2_with (go_at_call 110; refine (value_any B br w0 sb deep _ _ _ H0.out hsb (by simp) hd).mono ?_; rintro e w4 ⟨rfl, st4⟩)
  go_end0
  exact ⟨rfl, st4⟩
set_option maxHeartbeats 4000000 in
set_option maxRecDepth 100000 in
theorem simple1_no (B br : Nat) (w0 : World) (sb deep : Nat) (T : Tok) (a : Int) (rr : Rd) (w : World) (h : StV B br w0 sb ⟨1, ⟨#[]⟩, [], 0, [], [], a⟩ rr w) (hsb : w0.heap.size ≤ sb) (hd : deep ≤ 40) (hi : rr.is [91] = false) :
    Calls Tryz.prog 99 #[.pointer (some ⟨br, 0, none⟩), .pointer (some ⟨sb, 0, none⟩), .agg #[.int .i64 (T.kind : Int), .string (bstr T.text), .int .u64 (T.value : Int), .int .i64 (T.at_ : Int)], .int .i64 (deep : Int)] w fun e w' => e = .returned (.tuple #[]) ∧ StV B br w0 sb (simpleP T deep ⟨1, ⟨#[]⟩, [], 0, [], [], a⟩ rr).1 (simpleP T deep ⟨1, ⟨#[]⟩, [], 0, [], [], a⟩ rr).2 w' := by
  rw [simple_1 _ _ _ _ rfl hi]
  have H1 := Lib.hid ((h.name hsb (bstr T.text)).alloc (tokO T))
  have H0 := Lib.hid (h.alloc (tokO T))
  obtain ⟨c0, c1, f0, f1, hlt⟩ := h.cells
  clear h
  go_enter Tryz.func99, Tryz.ntmps99
  go_wp2_with (first
    | (go_at_call 110; refine (value_any B br w0 sb deep _ _ _ st3.out hsb (by simp) hd).mono ?_; rintro e w4 ⟨rfl, st4⟩)
    | (go_at_call 46; refine (want_any B br rr ⟨#[61]⟩ [61] rfl _ st2.out.1).mono ?_; rintro e w3 ⟨rfl, h3, g3⟩; have st3 := Lib.hid (st2.out.on h3 g3))
    | (go_at_call 73; refine (take_no B br rr ⟨#[91]⟩ [91] rfl _ (H1.out).1 hi).mono ?_; rintro e w2 ⟨rfl, h2, g2⟩; have st2 := Lib.hid (H1.out.on h2 g2)))
  go_end0
  exact ⟨rfl, st4⟩
set_option maxHeartbeats 4000000 in
set_option maxRecDepth 100000 in
theorem simple1_yes (B br : Nat) (w0 : World) (sb deep : Nat) (T : Tok) (a : Int) (rr : Rd) (w : World) (h : StV B br w0 sb ⟨1, ⟨#[]⟩, [], 0, [], [], a⟩ rr w) (hsb : w0.heap.size ≤ sb) (hd : deep ≤ 40) (hi : rr.is [91] = true) :
    Calls Tryz.prog 99 #[.pointer (some ⟨br, 0, none⟩), .pointer (some ⟨sb, 0, none⟩), .agg #[.int .i64 (T.kind : Int), .string (bstr T.text), .int .u64 (T.value : Int), .int .i64 (T.at_ : Int)], .int .i64 (deep : Int)] w fun e w' => e = .returned (.tuple #[]) ∧ StV B br w0 sb (simpleP T deep ⟨1, ⟨#[]⟩, [], 0, [], [], a⟩ rr).1 (simpleP T deep ⟨1, ⟨#[]⟩, [], 0, [], [], a⟩ rr).2 w' := by
  rw [simple_2 _ _ _ _ rfl hi]
  have H1 := Lib.hid ((h.name hsb (bstr T.text)).alloc (tokO T))
  have H0 := Lib.hid (h.alloc (tokO T))
  obtain ⟨c0, c1, f0, f1, hlt⟩ := h.cells
  clear h
  go_enter Tryz.func99, Tryz.ntmps99
  go_wp2_with (first
    | (go_at_call 110; refine (value_any B br w0 sb deep _ _ _ st6.out hsb hl3.out hd).mono ?_; rintro e w7 ⟨rfl, st7⟩)
    | (go_at_call 46; refine (want_any B br _ ⟨#[61]⟩ [61] rfl _ st5.out.1).mono ?_; rintro e w6 ⟨rfl, h6, g6⟩; have st6 := Lib.hid (st5.out.on h6 g6))
    | (go_at_call 46; refine (want_any B br _ ⟨#[93]⟩ [93] rfl _ st4.out.1).mono ?_; rintro e w5 ⟨rfl, h5, g5⟩; have st5 := Lib.hid (st4.out.on h5 g5))
    | (go_at_call 110; refine (value_any B br w0 sb deep _ _ _ st3.out hsb (by simp) hd).mono ?_; rintro e w4 ⟨rfl, st4'⟩; have st4 := Lib.hid st4'; have hl3 : Hid ((valueP deep ⟨2, bstr T.text, [], 0, [], [], a⟩ rr.next).1.exprs.length ≤ 10) := by (show _ ≤ 10); simp [valueP])
    | (go_at_call 73; refine (take_yes B br rr ⟨#[91]⟩ [91] rfl _ (H1.out).1 hi).mono ?_; rintro e w2 ⟨rfl, h2, g2⟩; have st2 := H1.out.on h2 g2; obtain ⟨d0, d1, e0, e1, hl1⟩ := st2.cells; have st3 := Lib.hid (st2.kind hsb 2)))
  go_end0
  exact ⟨rfl, st7⟩
end Go.Proofs.YtfginegegaokbaaGreatDoor.Pr
