/- What the reader's is, take, want, name and number do. Conditions: as in PRead. -/
import Derived.Test.YtfginegegaokbaaGreatDoorPRead
namespace Go.Proofs.YtfginegegaokbaaGreatDoor.Pr
open Go.ChangeShapes Go.WideShapes Go.ChangeAt Go.RowKit
open Lx (Tok)
set_option linter.unusedVariables false
set_option linter.unusedSimpArgs false

theorem bstr_toList (l : List UInt8) : (bstr l).toList = l := by rw [Lib.toList_data]; rfl
theorem beq_text (l : List UInt8) (s : ByteArray) : ((bstr l).toList == s.toList) = (l == bys s) := by rw [bstr_toList, Lib.toList_data]; rfl
set_option maxHeartbeats 2000000 in
set_option maxRecDepth 100000 in
/-- reader.is -/
theorem is_any (B br : Nat) (r : Rd) (s : ByteArray) (x : List UInt8) (hx : bys s = x) (w : World) (h : RdAt B br r w) :
    Calls Tryz.prog 42 #[.pointer (some ⟨br, 0, none⟩), .string s] w fun e w' => e = .returned (.bool (r.is x)) ∧ Below w.heap.size w w' := by
  have hh := here_any B br r w h
  have hf := tok_text
  have HX : Hid (((bstr r.here.text).toList == s.toList) = r.is x) := by rw [← hx]; exact beq_text _ _
  clear hx h
  go_enter Tryz.func42, Tryz.ntmps42
  go_wp2_with (go_at_call 45; refine hh.mono ?_; rintro e w' ⟨rfl, rfl⟩)
  go_ret
  exact ⟨Lx.ret_bool HX.out, (Below.refl _ _).alloc (Nat.le_refl _) _⟩
set_option maxHeartbeats 2000000 in
set_option maxRecDepth 100000 in
/-- reader.take, at another token -/
theorem take_no (B br : Nat) (r : Rd) (s : ByteArray) (x : List UInt8) (hx : bys s = x) (w : World) (h : RdAt B br r w) (hi : r.is x = false) :
    Calls Tryz.prog 73 #[.pointer (some ⟨br, 0, none⟩), .string s] w fun e w' => e = .returned (.bool false) ∧ RdAt B br r w' ∧ w.grownBy w' (some br) := by
  have hh := is_any B br r s x hx w h
  rw [hi] at hh
  have H := Lib.hid h
  clear h hi hx
  go_enter Tryz.func73, Tryz.ntmps73
  go_wp2_with (go_at_call 42; refine hh.mono ?_; rintro e w1 ⟨rfl, hb1⟩)
  go_ret
  exact ⟨rfl, H.out.below hb1, grownBy_below hb1⟩
set_option maxHeartbeats 2000000 in
set_option maxRecDepth 100000 in
/-- reader.take, at this token -/
theorem take_yes (B br : Nat) (r : Rd) (s : ByteArray) (x : List UInt8) (hx : bys s = x) (w : World) (h : RdAt B br r w) (hi : r.is x = true) :
    Calls Tryz.prog 73 #[.pointer (some ⟨br, 0, none⟩), .string s] w fun e w' => e = .returned (.bool true) ∧ RdAt B br r.next w' ∧ w.grownBy w' (some br) := by
  have hh := is_any B br r s x hx w h
  rw [hi] at hh
  have H := Lib.hid h
  clear h hi hx
  go_enter Tryz.func73, Tryz.ntmps73
  go_wp2_with (first | (go_at_call 42; refine hh.mono ?_; rintro e w1 ⟨rfl, hb1⟩; have h1 := H.out.below hb1) | (go_at_call 95; refine (rnext_any B br r _ h1).mono ?_; rintro e w2 ⟨rfl, h2, hg2⟩))
  go_ret
  exact ⟨rfl, h2, grownBy_trans (grownBy_below hb1) hg2⟩
set_option maxHeartbeats 2000000 in
set_option maxRecDepth 100000 in
/-- reader.want -/
theorem want_any (B br : Nat) (r : Rd) (s : ByteArray) (x : List UInt8) (hx : bys s = x) (w : World) (h : RdAt B br r w) : Calls Tryz.prog 46 #[.pointer (some ⟨br, 0, none⟩), .string s] w (Stepped B br w (r.want x)) := by
  cases hi : r.is x with
  | true =>
    have e : r.want x = r.next := by unfold Rd.want; rw [hi, if_pos rfl]
    have hh := take_yes B br r s x hx w h hi
    rw [e]
    clear h hi hx e
    go_enter Tryz.func46, Tryz.ntmps46
    go_wp2_with (go_at_call 73; refine hh.mono ?_; rintro e w1 ⟨rfl, h1, hg1⟩)
    go_end0
    exact ⟨rfl, h1, hg1⟩
  | false =>
    have e : r.want x = r.fail 2 := by unfold Rd.want; rw [hi]; rfl
    have hh := take_no B br r s x hx w h hi
    rw [e]
    clear h hi hx e
    go_enter Tryz.func46, Tryz.ntmps46
    go_wp2_with (first | (go_at_call 73; refine hh.mono ?_; rintro e w1 ⟨rfl, h1, hg1⟩) | (go_at_call 43; refine (fail_any B br 2 r _ h1 (by omega)).mono ?_; rintro e w2 ⟨rfl, h2, hg2⟩))
    go_end0
    exact ⟨rfl, h2, grownBy_trans hg1 hg2⟩
theorem four_tok {w : World} {k : Nat} {x0 x1 x2 x3 : Value} (h : w.heap[k]? = some (.cells #[x0, x1, x2, x3] 48 (0, 0))) :
    w.cell? ⟨k, 0, none⟩ = some x0 ∧ w.cell? ⟨k, 1, none⟩ = some x1 ∧ w.cell? ⟨k, 2, none⟩ = some x2 ∧ w.cell? ⟨k, 3, none⟩ = some x3 := by
  refine ⟨?_, ?_, ?_, ?_⟩ <;> (rw [Lib.cell_of_heap h]; rfl)
/-- A token's own block. -/
@[reducible] def tokO (t : Tok) : Obj := .cells #[.int .i64 (t.kind : Int), .string (bstr t.text), .int .u64 (t.value : Int), .int .i64 (t.at_ : Int)] 48
set_option maxHeartbeats 2000000 in
set_option maxRecDepth 100000 in
/-- reader.name -/
theorem rname_any (B br : Nat) (r : Rd) (w : World) (h : RdAt B br r w) :
    Calls Tryz.prog 74 #[.pointer (some ⟨br, 0, none⟩)] w fun e w' => e = .returned (.string (bstr r.name.1)) ∧ RdAt B br r.name.2 w' ∧ w.grownBy w' (some br) := by
  have hh := here_any B br r w h
  have hlt := h.lt
  have hA : RdAt B br r ((w.alloc (tokO r.here)).alloc (tokO r.here)) := (h.alloc _).alloc _
  have hG : w.grownBy ((w.alloc (tokO r.here)).alloc (tokO r.here)) (some br) := grownBy_trans (World.grownBy_alloc _ _ _) (World.grownBy_alloc _ _ _)
  have hbx : ((w.alloc (tokO r.here)).alloc (tokO r.here)).heap[w.heap.size + 1]? = some (tokO r.here) := by rw [alloc_at, if_pos (by simp)]
  have hbx2 : ∀ w2, ((w.alloc (tokO r.here)).alloc (tokO r.here)).grownBy w2 (some br) → w2.heap[w.heap.size + 1]? = some (tokO r.here) := fun w2 hg => (hg.block _ (heap_lt hbx) (fun e => by simp only [Option.some.injEq] at e; omega)).trans hbx
  have H := Lib.hid hA
  have HG := Lib.hid hG
  by_cases hk : r.here.kind = 1
  · have e : r.name = (r.here.text, r.next) := by unfold Rd.name; rw [if_pos hk]
    rw [e]
    have hk1 : 1 ≤ ((r.here.kind : Nat) : Int) := by omega
    have hk2 : ((r.here.kind : Nat) : Int) ≤ 1 := by omega
    have hx := rnext_any B br r _ hA
    have HBX := Lib.hid hbx2
    clear hA h e hk hG hbx hbx2
    generalize r.here = T at *
    go_enter Tryz.func74, Tryz.ntmps74
    go_wp2_with (first | (go_at_call 45; refine hh.mono ?_; rintro e w' ⟨rfl, rfl⟩) | (go_at_call 95; refine hx.mono ?_; rintro e w2 ⟨rfl, h2, hg2⟩; obtain ⟨c0, c1, c2, c3⟩ := four_tok (HBX.out _ hg2)))
    go_ret
    exact ⟨rfl, h2, grownBy_trans HG.out hg2⟩
  · have e : r.name = ([], r.fail 2) := by unfold Rd.name; rw [if_neg hk]
    rw [e]
    have hk' : ¬ ((r.here.kind : Nat) : Int) = 1 := by omega
    have hx := fail_any B br 2 r _ hA (by omega)
    clear hA h e hk hG hbx hbx2
    generalize r.here = T at *
    go_enter Tryz.func74, Tryz.ntmps74
    go_wp2_with (first | (go_at_call 45; refine hh.mono ?_; rintro e w' ⟨rfl, rfl⟩) | (go_at_call 43; refine hx.mono ?_; rintro e w2 ⟨rfl, h2, hg2⟩))
    go_ret
    exact ⟨rfl, h2, grownBy_trans HG.out hg2⟩
set_option maxHeartbeats 4000000 in
set_option maxRecDepth 100000 in
/-- reader.number -/
theorem rnumber_any (B br most : Nat) (hmost : most ≤ 1000) (r : Rd) (w : World) (h : RdAt B br r w) :
    Calls Tryz.prog 96 #[.pointer (some ⟨br, 0, none⟩), .int .u64 (most : Int)] w fun e w' => e = .returned (.int .i64 ((r.number most).1 : Int)) ∧ RdAt B br (r.number most).2 w' ∧ w.grownBy w' (some br) := by
  have hh := here_any B br r w h
  have hlt := h.lt
  have hA : RdAt B br r ((w.alloc (tokO r.here)).alloc (tokO r.here)) := (h.alloc _).alloc _
  have hG : w.grownBy ((w.alloc (tokO r.here)).alloc (tokO r.here)) (some br) := grownBy_trans (World.grownBy_alloc _ _ _) (World.grownBy_alloc _ _ _)
  have hbx : ((w.alloc (tokO r.here)).alloc (tokO r.here)).heap[w.heap.size + 1]? = some (tokO r.here) := by rw [alloc_at, if_pos (by simp)]
  have hbx2 : ∀ w2, ((w.alloc (tokO r.here)).alloc (tokO r.here)).grownBy w2 (some br) → w2.heap[w.heap.size + 1]? = some (tokO r.here) := fun w2 hg => (hg.block _ (heap_lt hbx) (fun e => by simp only [Option.some.injEq] at e; omega)).trans hbx
  have HG := Lib.hid hG
  have HBX := Lib.hid hbx2
  have hf2 := fail_any B br 2 r _ hA (by omega)
  have hf6 := fail_any B br 6 r _ hA (by omega)
  have hx := rnext_any B br r _ hA
  unfold Rd.number
  clear hA h hG hbx hbx2
  generalize r.here = T at *
  by_cases hk : T.kind = 3
  · have hk1 : 3 ≤ ((T.kind : Nat) : Int) := by omega
    have hk2 : ((T.kind : Nat) : Int) ≤ 3 := by omega
    rw [if_pos hk]
    clear hk
    by_cases h1 : T.value < 1
    · rw [if_pos (Or.inl h1)]
      have h1' : ((T.value : Nat) : Int) < 1 := by omega
      clear h1 hx hf2
      go_enter Tryz.func96, Tryz.ntmps96
      go_wp2_with (first | (go_at_call 45; refine hh.mono ?_; rintro e w' ⟨rfl, rfl⟩) | (go_at_call 43; refine hf6.mono ?_; rintro e w2 ⟨rfl, h2, hg2⟩))
      go_ret
      exact ⟨rfl, h2, grownBy_trans HG.out hg2⟩
    · by_cases h2 : most < T.value
      · rw [if_pos (Or.inr h2)]
        have h1' : ¬ ((T.value : Nat) : Int) < 1 := by omega
        have h2' : (most : Int) < ((T.value : Nat) : Int) := by omega
        clear h1 h2 hx hf2
        go_enter Tryz.func96, Tryz.ntmps96
        go_wp2_with (first | (go_at_call 45; refine hh.mono ?_; rintro e w' ⟨rfl, rfl⟩) | (go_at_call 43; refine hf6.mono ?_; rintro e w2 ⟨rfl, h2, hg2⟩))
        go_ret
        exact ⟨rfl, h2, grownBy_trans HG.out hg2⟩
      · rw [if_neg (by omega)]
        have h1' : ¬ ((T.value : Nat) : Int) < 1 := by omega
        have h2' : ¬ (most : Int) < ((T.value : Nat) : Int) := by omega
        have h3' : ((T.value : Nat) : Int) ≤ 1000 := by omega
        clear h1 h2 hf6 hf2
        go_enter Tryz.func96, Tryz.ntmps96
        go_wp2_with (first | (go_at_call 45; refine hh.mono ?_; rintro e w' ⟨rfl, rfl⟩) | (go_at_call 95; refine hx.mono ?_; rintro e w2 ⟨rfl, h2, hg2⟩; obtain ⟨c0, c1, c2, c3⟩ := four_tok (HBX.out _ hg2)))
        go_ret
        exact ⟨rfl, h2, grownBy_trans HG.out hg2⟩
  · have hk' : ¬ ((T.kind : Nat) : Int) = 3 := by omega
    rw [if_neg hk]
    clear hk hx hf6
    go_enter Tryz.func96, Tryz.ntmps96
    go_wp2_with (first | (go_at_call 45; refine hh.mono ?_; rintro e w' ⟨rfl, rfl⟩) | (go_at_call 43; refine hf2.mono ?_; rintro e w2 ⟨rfl, h2, hg2⟩))
    go_ret
    exact ⟨rfl, h2, grownBy_trans HG.out hg2⟩
end Go.Proofs.YtfginegegaokbaaGreatDoor.Pr
