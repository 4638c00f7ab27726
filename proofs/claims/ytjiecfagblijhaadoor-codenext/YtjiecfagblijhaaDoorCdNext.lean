/- What Next of package code answers. Conditions: none. -/
import Derived.Test.YtjiecfagblijhaaDoorCdUses
namespace Go.Proofs.YtjiecfagblijhaaDoor.Cd
open Go.ChangeShapes Go.WideShapes Go.ChangeAt Go.RowKit
set_option linter.unusedVariables false
set_option linter.unusedSimpArgs false

/-- The places behind an instruction: a jumps, b goes on, t the target. -/
def nextB (J G : Bool) (t p n : Int) : List Int :=
  if G = true ∧ p < n ∧ p + 1 < n then (if J = true ∧ 0 ≤ t ∧ t < n then (if t < p + 1 then [t, p + 1] else if p + 1 < t then [p + 1, t] else [p + 1]) else [p + 1]) else if J = true ∧ 0 ≤ t ∧ t < n then [t] else []
def nextP (x : Cd) (p n : Int) : List Int := nextB (jumpsB x.op) (goesB x.op) x.t p n

theorem next_end {w w2 : World} {o : Obj} (zs : List Int) (hm : zs.length ≤ 1000) (hb : Below (w.alloc o).heap.size (w.alloc o) w2) :
    Own (w2.alloc (.cells (zs.map (Value.int .i64)).toArray 3)) w.heap.size (.slice (some ⟨w2.heap.size, 0, none⟩) zs.length zs.length) zs ∧ Below w.heap.size w (w2.alloc (.cells (zs.map (Value.int .i64)).toArray 3)) := by
  have h1 := hb.size
  rw [alloc_size] at h1
  have h2 : Below w.heap.size w w2 := ((Below.refl w.heap.size w).alloc (Nat.le_refl _) o).trans (hb.mono (by simp))
  exact ⟨Own.new zs (by omega) hm, h2.alloc h2.size _⟩

set_option maxHeartbeats 4000000 in
set_option maxRecDepth 100000 in
theorem next_lt (op dop to fa fb fc fv t p n : Int) (J G : Bool) (w : World) (hp0 : -9223372036854775808 ≤ p) (hn1 : n ≤ 9223372036854775807) (PJ : ∀ w1, Calls Tryd.prog 10 #[.agg #[.int .i64 op, .int .i64 dop, .int .i64 to, .int .i64 fa, .int .i64 fb, .int .i64 fc, .int .u64 fv, .int .i64 t]] w1 fun e w' => e = .returned (.tuple #[.bool J, .bool G]) ∧ Below w1.heap.size w1 w') (hG : G = true) (a1 : p < n) (a2 : p + 1 < n) (hJ : J = true) (b1 : 0 ≤ t) (b2 : t < n) (c1 : t < p + 1) :
    Calls Tryd.prog 15 #[.agg #[.int .i64 op, .int .i64 dop, .int .i64 to, .int .i64 fa, .int .i64 fb, .int .i64 fc, .int .u64 fv, .int .i64 t], .int .i64 p, .int .i64 n] w fun e w' => ∃ v, e = .returned v ∧ Own w' w.heap.size v ([t, p + 1]) ∧ Below w.heap.size w w' := by
  have HB := Lib.hid (show (w.alloc (.cells #[.int .i64 op, .int .i64 dop, .int .i64 to, .int .i64 fa, .int .i64 fb, .int .i64 fc, .int .u64 fv, .int .i64 t] 26)).heap[w.heap.size]? = some (.cells #[.int .i64 op, .int .i64 dop, .int .i64 to, .int .i64 fa, .int .i64 fb, .int .i64 fc, .int .u64 fv, .int .i64 t] 26 (0, 0)) by rw [alloc_at, if_pos rfl])
  subst hG
  subst hJ
  go_enter Tryd.func15, Tryd.ntmps15
  go_wp2_with (go_at_call 10; refine (PJ _).mono ?_; rintro ed w2 ⟨rfl, hb2⟩; obtain ⟨x0, x1, x2, x3, x4, x5, x6, x7⟩ := code_cells (keepB hb2 HB.out))
  go_ret
  exact ⟨_, rfl, next_end [t, p + 1] (by simp) hb2⟩

set_option maxHeartbeats 4000000 in
set_option maxRecDepth 100000 in
theorem next_gt (op dop to fa fb fc fv t p n : Int) (J G : Bool) (w : World) (hp0 : -9223372036854775808 ≤ p) (hn1 : n ≤ 9223372036854775807) (PJ : ∀ w1, Calls Tryd.prog 10 #[.agg #[.int .i64 op, .int .i64 dop, .int .i64 to, .int .i64 fa, .int .i64 fb, .int .i64 fc, .int .u64 fv, .int .i64 t]] w1 fun e w' => e = .returned (.tuple #[.bool J, .bool G]) ∧ Below w1.heap.size w1 w') (hG : G = true) (a1 : p < n) (a2 : p + 1 < n) (hJ : J = true) (b1 : 0 ≤ t) (b2 : t < n) (c1 : ¬ t < p + 1) (c2 : p + 1 < t) :
    Calls Tryd.prog 15 #[.agg #[.int .i64 op, .int .i64 dop, .int .i64 to, .int .i64 fa, .int .i64 fb, .int .i64 fc, .int .u64 fv, .int .i64 t], .int .i64 p, .int .i64 n] w fun e w' => ∃ v, e = .returned v ∧ Own w' w.heap.size v ([p + 1, t]) ∧ Below w.heap.size w w' := by
  have HB := Lib.hid (show (w.alloc (.cells #[.int .i64 op, .int .i64 dop, .int .i64 to, .int .i64 fa, .int .i64 fb, .int .i64 fc, .int .u64 fv, .int .i64 t] 26)).heap[w.heap.size]? = some (.cells #[.int .i64 op, .int .i64 dop, .int .i64 to, .int .i64 fa, .int .i64 fb, .int .i64 fc, .int .u64 fv, .int .i64 t] 26 (0, 0)) by rw [alloc_at, if_pos rfl])
  subst hG
  subst hJ
  go_enter Tryd.func15, Tryd.ntmps15
  go_wp2_with (go_at_call 10; refine (PJ _).mono ?_; rintro ed w2 ⟨rfl, hb2⟩; obtain ⟨x0, x1, x2, x3, x4, x5, x6, x7⟩ := code_cells (keepB hb2 HB.out))
  go_ret
  exact ⟨_, rfl, next_end [p + 1, t] (by simp) hb2⟩

set_option maxHeartbeats 4000000 in
set_option maxRecDepth 100000 in
theorem next_eq (op dop to fa fb fc fv t p n : Int) (J G : Bool) (w : World) (hp0 : -9223372036854775808 ≤ p) (hn1 : n ≤ 9223372036854775807) (PJ : ∀ w1, Calls Tryd.prog 10 #[.agg #[.int .i64 op, .int .i64 dop, .int .i64 to, .int .i64 fa, .int .i64 fb, .int .i64 fc, .int .u64 fv, .int .i64 t]] w1 fun e w' => e = .returned (.tuple #[.bool J, .bool G]) ∧ Below w1.heap.size w1 w') (hG : G = true) (a1 : p < n) (a2 : p + 1 < n) (hJ : J = true) (b1 : 0 ≤ t) (b2 : t < n) (c1 : ¬ t < p + 1) (c2 : ¬ p + 1 < t) :
    Calls Tryd.prog 15 #[.agg #[.int .i64 op, .int .i64 dop, .int .i64 to, .int .i64 fa, .int .i64 fb, .int .i64 fc, .int .u64 fv, .int .i64 t], .int .i64 p, .int .i64 n] w fun e w' => ∃ v, e = .returned v ∧ Own w' w.heap.size v ([p + 1]) ∧ Below w.heap.size w w' := by
  have HB := Lib.hid (show (w.alloc (.cells #[.int .i64 op, .int .i64 dop, .int .i64 to, .int .i64 fa, .int .i64 fb, .int .i64 fc, .int .u64 fv, .int .i64 t] 26)).heap[w.heap.size]? = some (.cells #[.int .i64 op, .int .i64 dop, .int .i64 to, .int .i64 fa, .int .i64 fb, .int .i64 fc, .int .u64 fv, .int .i64 t] 26 (0, 0)) by rw [alloc_at, if_pos rfl])
  subst hG
  subst hJ
  go_enter Tryd.func15, Tryd.ntmps15
  go_wp2_with (go_at_call 10; refine (PJ _).mono ?_; rintro ed w2 ⟨rfl, hb2⟩; obtain ⟨x0, x1, x2, x3, x4, x5, x6, x7⟩ := code_cells (keepB hb2 HB.out))
  go_ret
  exact ⟨_, rfl, next_end [p + 1] (by simp) hb2⟩

set_option maxHeartbeats 4000000 in
set_option maxRecDepth 100000 in
theorem next_on_noJ (op dop to fa fb fc fv t p n : Int) (J G : Bool) (w : World) (hp0 : -9223372036854775808 ≤ p) (hn1 : n ≤ 9223372036854775807) (PJ : ∀ w1, Calls Tryd.prog 10 #[.agg #[.int .i64 op, .int .i64 dop, .int .i64 to, .int .i64 fa, .int .i64 fb, .int .i64 fc, .int .u64 fv, .int .i64 t]] w1 fun e w' => e = .returned (.tuple #[.bool J, .bool G]) ∧ Below w1.heap.size w1 w') (hG : G = true) (a1 : p < n) (a2 : p + 1 < n) (hJ : J = false) :
    Calls Tryd.prog 15 #[.agg #[.int .i64 op, .int .i64 dop, .int .i64 to, .int .i64 fa, .int .i64 fb, .int .i64 fc, .int .u64 fv, .int .i64 t], .int .i64 p, .int .i64 n] w fun e w' => ∃ v, e = .returned v ∧ Own w' w.heap.size v ([p + 1]) ∧ Below w.heap.size w w' := by
  have HB := Lib.hid (show (w.alloc (.cells #[.int .i64 op, .int .i64 dop, .int .i64 to, .int .i64 fa, .int .i64 fb, .int .i64 fc, .int .u64 fv, .int .i64 t] 26)).heap[w.heap.size]? = some (.cells #[.int .i64 op, .int .i64 dop, .int .i64 to, .int .i64 fa, .int .i64 fb, .int .i64 fc, .int .u64 fv, .int .i64 t] 26 (0, 0)) by rw [alloc_at, if_pos rfl])
  subst hG
  subst hJ
  go_enter Tryd.func15, Tryd.ntmps15
  go_wp2_with (go_at_call 10; refine (PJ _).mono ?_; rintro ed w2 ⟨rfl, hb2⟩; obtain ⟨x0, x1, x2, x3, x4, x5, x6, x7⟩ := code_cells (keepB hb2 HB.out))
  go_ret
  exact ⟨_, rfl, next_end [p + 1] (by simp) hb2⟩

set_option maxHeartbeats 4000000 in
set_option maxRecDepth 100000 in
theorem next_on_noL (op dop to fa fb fc fv t p n : Int) (J G : Bool) (w : World) (hp0 : -9223372036854775808 ≤ p) (hn1 : n ≤ 9223372036854775807) (PJ : ∀ w1, Calls Tryd.prog 10 #[.agg #[.int .i64 op, .int .i64 dop, .int .i64 to, .int .i64 fa, .int .i64 fb, .int .i64 fc, .int .u64 fv, .int .i64 t]] w1 fun e w' => e = .returned (.tuple #[.bool J, .bool G]) ∧ Below w1.heap.size w1 w') (hG : G = true) (a1 : p < n) (a2 : p + 1 < n) (hJ : J = true) (b1 : ¬ 0 ≤ t) :
    Calls Tryd.prog 15 #[.agg #[.int .i64 op, .int .i64 dop, .int .i64 to, .int .i64 fa, .int .i64 fb, .int .i64 fc, .int .u64 fv, .int .i64 t], .int .i64 p, .int .i64 n] w fun e w' => ∃ v, e = .returned v ∧ Own w' w.heap.size v ([p + 1]) ∧ Below w.heap.size w w' := by
  have HB := Lib.hid (show (w.alloc (.cells #[.int .i64 op, .int .i64 dop, .int .i64 to, .int .i64 fa, .int .i64 fb, .int .i64 fc, .int .u64 fv, .int .i64 t] 26)).heap[w.heap.size]? = some (.cells #[.int .i64 op, .int .i64 dop, .int .i64 to, .int .i64 fa, .int .i64 fb, .int .i64 fc, .int .u64 fv, .int .i64 t] 26 (0, 0)) by rw [alloc_at, if_pos rfl])
  subst hG
  subst hJ
  go_enter Tryd.func15, Tryd.ntmps15
  go_wp2_with (go_at_call 10; refine (PJ _).mono ?_; rintro ed w2 ⟨rfl, hb2⟩; obtain ⟨x0, x1, x2, x3, x4, x5, x6, x7⟩ := code_cells (keepB hb2 HB.out))
  go_ret
  exact ⟨_, rfl, next_end [p + 1] (by simp) hb2⟩

set_option maxHeartbeats 4000000 in
set_option maxRecDepth 100000 in
theorem next_on_noH (op dop to fa fb fc fv t p n : Int) (J G : Bool) (w : World) (hp0 : -9223372036854775808 ≤ p) (hn1 : n ≤ 9223372036854775807) (PJ : ∀ w1, Calls Tryd.prog 10 #[.agg #[.int .i64 op, .int .i64 dop, .int .i64 to, .int .i64 fa, .int .i64 fb, .int .i64 fc, .int .u64 fv, .int .i64 t]] w1 fun e w' => e = .returned (.tuple #[.bool J, .bool G]) ∧ Below w1.heap.size w1 w') (hG : G = true) (a1 : p < n) (a2 : p + 1 < n) (hJ : J = true) (b1 : 0 ≤ t) (b2 : ¬ t < n) :
    Calls Tryd.prog 15 #[.agg #[.int .i64 op, .int .i64 dop, .int .i64 to, .int .i64 fa, .int .i64 fb, .int .i64 fc, .int .u64 fv, .int .i64 t], .int .i64 p, .int .i64 n] w fun e w' => ∃ v, e = .returned v ∧ Own w' w.heap.size v ([p + 1]) ∧ Below w.heap.size w w' := by
  have HB := Lib.hid (show (w.alloc (.cells #[.int .i64 op, .int .i64 dop, .int .i64 to, .int .i64 fa, .int .i64 fb, .int .i64 fc, .int .u64 fv, .int .i64 t] 26)).heap[w.heap.size]? = some (.cells #[.int .i64 op, .int .i64 dop, .int .i64 to, .int .i64 fa, .int .i64 fb, .int .i64 fc, .int .u64 fv, .int .i64 t] 26 (0, 0)) by rw [alloc_at, if_pos rfl])
  subst hG
  subst hJ
  go_enter Tryd.func15, Tryd.ntmps15
  go_wp2_with (go_at_call 10; refine (PJ _).mono ?_; rintro ed w2 ⟨rfl, hb2⟩; obtain ⟨x0, x1, x2, x3, x4, x5, x6, x7⟩ := code_cells (keepB hb2 HB.out))
  go_ret
  exact ⟨_, rfl, next_end [p + 1] (by simp) hb2⟩

set_option maxHeartbeats 4000000 in
set_option maxRecDepth 100000 in
theorem next_noG_th (op dop to fa fb fc fv t p n : Int) (J G : Bool) (w : World) (hp0 : -9223372036854775808 ≤ p) (hn1 : n ≤ 9223372036854775807) (PJ : ∀ w1, Calls Tryd.prog 10 #[.agg #[.int .i64 op, .int .i64 dop, .int .i64 to, .int .i64 fa, .int .i64 fb, .int .i64 fc, .int .u64 fv, .int .i64 t]] w1 fun e w' => e = .returned (.tuple #[.bool J, .bool G]) ∧ Below w1.heap.size w1 w') (hG : G = false) (hJ : J = true) (b1 : 0 ≤ t) (b2 : t < n) :
    Calls Tryd.prog 15 #[.agg #[.int .i64 op, .int .i64 dop, .int .i64 to, .int .i64 fa, .int .i64 fb, .int .i64 fc, .int .u64 fv, .int .i64 t], .int .i64 p, .int .i64 n] w fun e w' => ∃ v, e = .returned v ∧ Own w' w.heap.size v ([t]) ∧ Below w.heap.size w w' := by
  have HB := Lib.hid (show (w.alloc (.cells #[.int .i64 op, .int .i64 dop, .int .i64 to, .int .i64 fa, .int .i64 fb, .int .i64 fc, .int .u64 fv, .int .i64 t] 26)).heap[w.heap.size]? = some (.cells #[.int .i64 op, .int .i64 dop, .int .i64 to, .int .i64 fa, .int .i64 fb, .int .i64 fc, .int .u64 fv, .int .i64 t] 26 (0, 0)) by rw [alloc_at, if_pos rfl])
  subst hG
  subst hJ
  go_enter Tryd.func15, Tryd.ntmps15
  go_wp2_with (go_at_call 10; refine (PJ _).mono ?_; rintro ed w2 ⟨rfl, hb2⟩; obtain ⟨x0, x1, x2, x3, x4, x5, x6, x7⟩ := code_cells (keepB hb2 HB.out))
  go_ret
  exact ⟨_, rfl, next_end [t] (by simp) hb2⟩

set_option maxHeartbeats 4000000 in
set_option maxRecDepth 100000 in
theorem next_noG_noJ (op dop to fa fb fc fv t p n : Int) (J G : Bool) (w : World) (hp0 : -9223372036854775808 ≤ p) (hn1 : n ≤ 9223372036854775807) (PJ : ∀ w1, Calls Tryd.prog 10 #[.agg #[.int .i64 op, .int .i64 dop, .int .i64 to, .int .i64 fa, .int .i64 fb, .int .i64 fc, .int .u64 fv, .int .i64 t]] w1 fun e w' => e = .returned (.tuple #[.bool J, .bool G]) ∧ Below w1.heap.size w1 w') (hG : G = false) (hJ : J = false) :
    Calls Tryd.prog 15 #[.agg #[.int .i64 op, .int .i64 dop, .int .i64 to, .int .i64 fa, .int .i64 fb, .int .i64 fc, .int .u64 fv, .int .i64 t], .int .i64 p, .int .i64 n] w fun e w' => ∃ v, e = .returned v ∧ Own w' w.heap.size v ([]) ∧ Below w.heap.size w w' := by
  have HB := Lib.hid (show (w.alloc (.cells #[.int .i64 op, .int .i64 dop, .int .i64 to, .int .i64 fa, .int .i64 fb, .int .i64 fc, .int .u64 fv, .int .i64 t] 26)).heap[w.heap.size]? = some (.cells #[.int .i64 op, .int .i64 dop, .int .i64 to, .int .i64 fa, .int .i64 fb, .int .i64 fc, .int .u64 fv, .int .i64 t] 26 (0, 0)) by rw [alloc_at, if_pos rfl])
  subst hG
  subst hJ
  go_enter Tryd.func15, Tryd.ntmps15
  go_wp2_with (go_at_call 10; refine (PJ _).mono ?_; rintro ed w2 ⟨rfl, hb2⟩; obtain ⟨x0, x1, x2, x3, x4, x5, x6, x7⟩ := code_cells (keepB hb2 HB.out))
  go_ret
  exact ⟨_, rfl, Own.nil _ _, ((Below.refl w.heap.size w).alloc (Nat.le_refl _) _).trans (hb2.mono (by simp))⟩

set_option maxHeartbeats 4000000 in
set_option maxRecDepth 100000 in
theorem next_noG_noL (op dop to fa fb fc fv t p n : Int) (J G : Bool) (w : World) (hp0 : -9223372036854775808 ≤ p) (hn1 : n ≤ 9223372036854775807) (PJ : ∀ w1, Calls Tryd.prog 10 #[.agg #[.int .i64 op, .int .i64 dop, .int .i64 to, .int .i64 fa, .int .i64 fb, .int .i64 fc, .int .u64 fv, .int .i64 t]] w1 fun e w' => e = .returned (.tuple #[.bool J, .bool G]) ∧ Below w1.heap.size w1 w') (hG : G = false) (hJ : J = true) (b1 : ¬ 0 ≤ t) :
    Calls Tryd.prog 15 #[.agg #[.int .i64 op, .int .i64 dop, .int .i64 to, .int .i64 fa, .int .i64 fb, .int .i64 fc, .int .u64 fv, .int .i64 t], .int .i64 p, .int .i64 n] w fun e w' => ∃ v, e = .returned v ∧ Own w' w.heap.size v ([]) ∧ Below w.heap.size w w' := by
  have HB := Lib.hid (show (w.alloc (.cells #[.int .i64 op, .int .i64 dop, .int .i64 to, .int .i64 fa, .int .i64 fb, .int .i64 fc, .int .u64 fv, .int .i64 t] 26)).heap[w.heap.size]? = some (.cells #[.int .i64 op, .int .i64 dop, .int .i64 to, .int .i64 fa, .int .i64 fb, .int .i64 fc, .int .u64 fv, .int .i64 t] 26 (0, 0)) by rw [alloc_at, if_pos rfl])
  subst hG
  subst hJ
  go_enter Tryd.func15, Tryd.ntmps15
  go_wp2_with (go_at_call 10; refine (PJ _).mono ?_; rintro ed w2 ⟨rfl, hb2⟩; obtain ⟨x0, x1, x2, x3, x4, x5, x6, x7⟩ := code_cells (keepB hb2 HB.out))
  go_ret
  exact ⟨_, rfl, Own.nil _ _, ((Below.refl w.heap.size w).alloc (Nat.le_refl _) _).trans (hb2.mono (by simp))⟩

set_option maxHeartbeats 4000000 in
set_option maxRecDepth 100000 in
theorem next_noG_noH (op dop to fa fb fc fv t p n : Int) (J G : Bool) (w : World) (hp0 : -9223372036854775808 ≤ p) (hn1 : n ≤ 9223372036854775807) (PJ : ∀ w1, Calls Tryd.prog 10 #[.agg #[.int .i64 op, .int .i64 dop, .int .i64 to, .int .i64 fa, .int .i64 fb, .int .i64 fc, .int .u64 fv, .int .i64 t]] w1 fun e w' => e = .returned (.tuple #[.bool J, .bool G]) ∧ Below w1.heap.size w1 w') (hG : G = false) (hJ : J = true) (b1 : 0 ≤ t) (b2 : ¬ t < n) :
    Calls Tryd.prog 15 #[.agg #[.int .i64 op, .int .i64 dop, .int .i64 to, .int .i64 fa, .int .i64 fb, .int .i64 fc, .int .u64 fv, .int .i64 t], .int .i64 p, .int .i64 n] w fun e w' => ∃ v, e = .returned v ∧ Own w' w.heap.size v ([]) ∧ Below w.heap.size w w' := by
  have HB := Lib.hid (show (w.alloc (.cells #[.int .i64 op, .int .i64 dop, .int .i64 to, .int .i64 fa, .int .i64 fb, .int .i64 fc, .int .u64 fv, .int .i64 t] 26)).heap[w.heap.size]? = some (.cells #[.int .i64 op, .int .i64 dop, .int .i64 to, .int .i64 fa, .int .i64 fb, .int .i64 fc, .int .u64 fv, .int .i64 t] 26 (0, 0)) by rw [alloc_at, if_pos rfl])
  subst hG
  subst hJ
  go_enter Tryd.func15, Tryd.ntmps15
  go_wp2_with (go_at_call 10; refine (PJ _).mono ?_; rintro ed w2 ⟨rfl, hb2⟩; obtain ⟨x0, x1, x2, x3, x4, x5, x6, x7⟩ := code_cells (keepB hb2 HB.out))
  go_ret
  exact ⟨_, rfl, Own.nil _ _, ((Below.refl w.heap.size w).alloc (Nat.le_refl _) _).trans (hb2.mono (by simp))⟩

set_option maxHeartbeats 4000000 in
set_option maxRecDepth 100000 in
theorem next_noA_th (op dop to fa fb fc fv t p n : Int) (J G : Bool) (w : World) (hp0 : -9223372036854775808 ≤ p) (hn1 : n ≤ 9223372036854775807) (PJ : ∀ w1, Calls Tryd.prog 10 #[.agg #[.int .i64 op, .int .i64 dop, .int .i64 to, .int .i64 fa, .int .i64 fb, .int .i64 fc, .int .u64 fv, .int .i64 t]] w1 fun e w' => e = .returned (.tuple #[.bool J, .bool G]) ∧ Below w1.heap.size w1 w') (hG : G = true) (a1 : ¬ p < n) (hJ : J = true) (b1 : 0 ≤ t) (b2 : t < n) :
    Calls Tryd.prog 15 #[.agg #[.int .i64 op, .int .i64 dop, .int .i64 to, .int .i64 fa, .int .i64 fb, .int .i64 fc, .int .u64 fv, .int .i64 t], .int .i64 p, .int .i64 n] w fun e w' => ∃ v, e = .returned v ∧ Own w' w.heap.size v ([t]) ∧ Below w.heap.size w w' := by
  have HB := Lib.hid (show (w.alloc (.cells #[.int .i64 op, .int .i64 dop, .int .i64 to, .int .i64 fa, .int .i64 fb, .int .i64 fc, .int .u64 fv, .int .i64 t] 26)).heap[w.heap.size]? = some (.cells #[.int .i64 op, .int .i64 dop, .int .i64 to, .int .i64 fa, .int .i64 fb, .int .i64 fc, .int .u64 fv, .int .i64 t] 26 (0, 0)) by rw [alloc_at, if_pos rfl])
  subst hG
  subst hJ
  go_enter Tryd.func15, Tryd.ntmps15
  go_wp2_with (go_at_call 10; refine (PJ _).mono ?_; rintro ed w2 ⟨rfl, hb2⟩; obtain ⟨x0, x1, x2, x3, x4, x5, x6, x7⟩ := code_cells (keepB hb2 HB.out))
  go_ret
  exact ⟨_, rfl, next_end [t] (by simp) hb2⟩

set_option maxHeartbeats 4000000 in
set_option maxRecDepth 100000 in
theorem next_noA_noJ (op dop to fa fb fc fv t p n : Int) (J G : Bool) (w : World) (hp0 : -9223372036854775808 ≤ p) (hn1 : n ≤ 9223372036854775807) (PJ : ∀ w1, Calls Tryd.prog 10 #[.agg #[.int .i64 op, .int .i64 dop, .int .i64 to, .int .i64 fa, .int .i64 fb, .int .i64 fc, .int .u64 fv, .int .i64 t]] w1 fun e w' => e = .returned (.tuple #[.bool J, .bool G]) ∧ Below w1.heap.size w1 w') (hG : G = true) (a1 : ¬ p < n) (hJ : J = false) :
    Calls Tryd.prog 15 #[.agg #[.int .i64 op, .int .i64 dop, .int .i64 to, .int .i64 fa, .int .i64 fb, .int .i64 fc, .int .u64 fv, .int .i64 t], .int .i64 p, .int .i64 n] w fun e w' => ∃ v, e = .returned v ∧ Own w' w.heap.size v ([]) ∧ Below w.heap.size w w' := by
  have HB := Lib.hid (show (w.alloc (.cells #[.int .i64 op, .int .i64 dop, .int .i64 to, .int .i64 fa, .int .i64 fb, .int .i64 fc, .int .u64 fv, .int .i64 t] 26)).heap[w.heap.size]? = some (.cells #[.int .i64 op, .int .i64 dop, .int .i64 to, .int .i64 fa, .int .i64 fb, .int .i64 fc, .int .u64 fv, .int .i64 t] 26 (0, 0)) by rw [alloc_at, if_pos rfl])
  subst hG
  subst hJ
  go_enter Tryd.func15, Tryd.ntmps15
  go_wp2_with (go_at_call 10; refine (PJ _).mono ?_; rintro ed w2 ⟨rfl, hb2⟩; obtain ⟨x0, x1, x2, x3, x4, x5, x6, x7⟩ := code_cells (keepB hb2 HB.out))
  go_ret
  exact ⟨_, rfl, Own.nil _ _, ((Below.refl w.heap.size w).alloc (Nat.le_refl _) _).trans (hb2.mono (by simp))⟩

set_option maxHeartbeats 4000000 in
set_option maxRecDepth 100000 in
theorem next_noA_noL (op dop to fa fb fc fv t p n : Int) (J G : Bool) (w : World) (hp0 : -9223372036854775808 ≤ p) (hn1 : n ≤ 9223372036854775807) (PJ : ∀ w1, Calls Tryd.prog 10 #[.agg #[.int .i64 op, .int .i64 dop, .int .i64 to, .int .i64 fa, .int .i64 fb, .int .i64 fc, .int .u64 fv, .int .i64 t]] w1 fun e w' => e = .returned (.tuple #[.bool J, .bool G]) ∧ Below w1.heap.size w1 w') (hG : G = true) (a1 : ¬ p < n) (hJ : J = true) (b1 : ¬ 0 ≤ t) :
    Calls Tryd.prog 15 #[.agg #[.int .i64 op, .int .i64 dop, .int .i64 to, .int .i64 fa, .int .i64 fb, .int .i64 fc, .int .u64 fv, .int .i64 t], .int .i64 p, .int .i64 n] w fun e w' => ∃ v, e = .returned v ∧ Own w' w.heap.size v ([]) ∧ Below w.heap.size w w' := by
  have HB := Lib.hid (show (w.alloc (.cells #[.int .i64 op, .int .i64 dop, .int .i64 to, .int .i64 fa, .int .i64 fb, .int .i64 fc, .int .u64 fv, .int .i64 t] 26)).heap[w.heap.size]? = some (.cells #[.int .i64 op, .int .i64 dop, .int .i64 to, .int .i64 fa, .int .i64 fb, .int .i64 fc, .int .u64 fv, .int .i64 t] 26 (0, 0)) by rw [alloc_at, if_pos rfl])
  subst hG
  subst hJ
  go_enter Tryd.func15, Tryd.ntmps15
  go_wp2_with (go_at_call 10; refine (PJ _).mono ?_; rintro ed w2 ⟨rfl, hb2⟩; obtain ⟨x0, x1, x2, x3, x4, x5, x6, x7⟩ := code_cells (keepB hb2 HB.out))
  go_ret
  exact ⟨_, rfl, Own.nil _ _, ((Below.refl w.heap.size w).alloc (Nat.le_refl _) _).trans (hb2.mono (by simp))⟩

set_option maxHeartbeats 4000000 in
set_option maxRecDepth 100000 in
theorem next_noA_noH (op dop to fa fb fc fv t p n : Int) (J G : Bool) (w : World) (hp0 : -9223372036854775808 ≤ p) (hn1 : n ≤ 9223372036854775807) (PJ : ∀ w1, Calls Tryd.prog 10 #[.agg #[.int .i64 op, .int .i64 dop, .int .i64 to, .int .i64 fa, .int .i64 fb, .int .i64 fc, .int .u64 fv, .int .i64 t]] w1 fun e w' => e = .returned (.tuple #[.bool J, .bool G]) ∧ Below w1.heap.size w1 w') (hG : G = true) (a1 : ¬ p < n) (hJ : J = true) (b1 : 0 ≤ t) (b2 : ¬ t < n) :
    Calls Tryd.prog 15 #[.agg #[.int .i64 op, .int .i64 dop, .int .i64 to, .int .i64 fa, .int .i64 fb, .int .i64 fc, .int .u64 fv, .int .i64 t], .int .i64 p, .int .i64 n] w fun e w' => ∃ v, e = .returned v ∧ Own w' w.heap.size v ([]) ∧ Below w.heap.size w w' := by
  have HB := Lib.hid (show (w.alloc (.cells #[.int .i64 op, .int .i64 dop, .int .i64 to, .int .i64 fa, .int .i64 fb, .int .i64 fc, .int .u64 fv, .int .i64 t] 26)).heap[w.heap.size]? = some (.cells #[.int .i64 op, .int .i64 dop, .int .i64 to, .int .i64 fa, .int .i64 fb, .int .i64 fc, .int .u64 fv, .int .i64 t] 26 (0, 0)) by rw [alloc_at, if_pos rfl])
  subst hG
  subst hJ
  go_enter Tryd.func15, Tryd.ntmps15
  go_wp2_with (go_at_call 10; refine (PJ _).mono ?_; rintro ed w2 ⟨rfl, hb2⟩; obtain ⟨x0, x1, x2, x3, x4, x5, x6, x7⟩ := code_cells (keepB hb2 HB.out))
  go_ret
  exact ⟨_, rfl, Own.nil _ _, ((Below.refl w.heap.size w).alloc (Nat.le_refl _) _).trans (hb2.mono (by simp))⟩

set_option maxHeartbeats 4000000 in
set_option maxRecDepth 100000 in
theorem next_noB_th (op dop to fa fb fc fv t p n : Int) (J G : Bool) (w : World) (hp0 : -9223372036854775808 ≤ p) (hn1 : n ≤ 9223372036854775807) (PJ : ∀ w1, Calls Tryd.prog 10 #[.agg #[.int .i64 op, .int .i64 dop, .int .i64 to, .int .i64 fa, .int .i64 fb, .int .i64 fc, .int .u64 fv, .int .i64 t]] w1 fun e w' => e = .returned (.tuple #[.bool J, .bool G]) ∧ Below w1.heap.size w1 w') (hG : G = true) (a1 : p < n) (a2 : ¬ p + 1 < n) (hJ : J = true) (b1 : 0 ≤ t) (b2 : t < n) :
    Calls Tryd.prog 15 #[.agg #[.int .i64 op, .int .i64 dop, .int .i64 to, .int .i64 fa, .int .i64 fb, .int .i64 fc, .int .u64 fv, .int .i64 t], .int .i64 p, .int .i64 n] w fun e w' => ∃ v, e = .returned v ∧ Own w' w.heap.size v ([t]) ∧ Below w.heap.size w w' := by
  have HB := Lib.hid (show (w.alloc (.cells #[.int .i64 op, .int .i64 dop, .int .i64 to, .int .i64 fa, .int .i64 fb, .int .i64 fc, .int .u64 fv, .int .i64 t] 26)).heap[w.heap.size]? = some (.cells #[.int .i64 op, .int .i64 dop, .int .i64 to, .int .i64 fa, .int .i64 fb, .int .i64 fc, .int .u64 fv, .int .i64 t] 26 (0, 0)) by rw [alloc_at, if_pos rfl])
  subst hG
  subst hJ
  go_enter Tryd.func15, Tryd.ntmps15
  go_wp2_with (go_at_call 10; refine (PJ _).mono ?_; rintro ed w2 ⟨rfl, hb2⟩; obtain ⟨x0, x1, x2, x3, x4, x5, x6, x7⟩ := code_cells (keepB hb2 HB.out))
  go_ret
  exact ⟨_, rfl, next_end [t] (by simp) hb2⟩

set_option maxHeartbeats 4000000 in
set_option maxRecDepth 100000 in
theorem next_noB_noJ (op dop to fa fb fc fv t p n : Int) (J G : Bool) (w : World) (hp0 : -9223372036854775808 ≤ p) (hn1 : n ≤ 9223372036854775807) (PJ : ∀ w1, Calls Tryd.prog 10 #[.agg #[.int .i64 op, .int .i64 dop, .int .i64 to, .int .i64 fa, .int .i64 fb, .int .i64 fc, .int .u64 fv, .int .i64 t]] w1 fun e w' => e = .returned (.tuple #[.bool J, .bool G]) ∧ Below w1.heap.size w1 w') (hG : G = true) (a1 : p < n) (a2 : ¬ p + 1 < n) (hJ : J = false) :
    Calls Tryd.prog 15 #[.agg #[.int .i64 op, .int .i64 dop, .int .i64 to, .int .i64 fa, .int .i64 fb, .int .i64 fc, .int .u64 fv, .int .i64 t], .int .i64 p, .int .i64 n] w fun e w' => ∃ v, e = .returned v ∧ Own w' w.heap.size v ([]) ∧ Below w.heap.size w w' := by
  have HB := Lib.hid (show (w.alloc (.cells #[.int .i64 op, .int .i64 dop, .int .i64 to, .int .i64 fa, .int .i64 fb, .int .i64 fc, .int .u64 fv, .int .i64 t] 26)).heap[w.heap.size]? = some (.cells #[.int .i64 op, .int .i64 dop, .int .i64 to, .int .i64 fa, .int .i64 fb, .int .i64 fc, .int .u64 fv, .int .i64 t] 26 (0, 0)) by rw [alloc_at, if_pos rfl])
  subst hG
  subst hJ
  go_enter Tryd.func15, Tryd.ntmps15
  go_wp2_with (go_at_call 10; refine (PJ _).mono ?_; rintro ed w2 ⟨rfl, hb2⟩; obtain ⟨x0, x1, x2, x3, x4, x5, x6, x7⟩ := code_cells (keepB hb2 HB.out))
  go_ret
  exact ⟨_, rfl, Own.nil _ _, ((Below.refl w.heap.size w).alloc (Nat.le_refl _) _).trans (hb2.mono (by simp))⟩

set_option maxHeartbeats 4000000 in
set_option maxRecDepth 100000 in
theorem next_noB_noL (op dop to fa fb fc fv t p n : Int) (J G : Bool) (w : World) (hp0 : -9223372036854775808 ≤ p) (hn1 : n ≤ 9223372036854775807) (PJ : ∀ w1, Calls Tryd.prog 10 #[.agg #[.int .i64 op, .int .i64 dop, .int .i64 to, .int .i64 fa, .int .i64 fb, .int .i64 fc, .int .u64 fv, .int .i64 t]] w1 fun e w' => e = .returned (.tuple #[.bool J, .bool G]) ∧ Below w1.heap.size w1 w') (hG : G = true) (a1 : p < n) (a2 : ¬ p + 1 < n) (hJ : J = true) (b1 : ¬ 0 ≤ t) :
    Calls Tryd.prog 15 #[.agg #[.int .i64 op, .int .i64 dop, .int .i64 to, .int .i64 fa, .int .i64 fb, .int .i64 fc, .int .u64 fv, .int .i64 t], .int .i64 p, .int .i64 n] w fun e w' => ∃ v, e = .returned v ∧ Own w' w.heap.size v ([]) ∧ Below w.heap.size w w' := by
  have HB := Lib.hid (show (w.alloc (.cells #[.int .i64 op, .int .i64 dop, .int .i64 to, .int .i64 fa, .int .i64 fb, .int .i64 fc, .int .u64 fv, .int .i64 t] 26)).heap[w.heap.size]? = some (.cells #[.int .i64 op, .int .i64 dop, .int .i64 to, .int .i64 fa, .int .i64 fb, .int .i64 fc, .int .u64 fv, .int .i64 t] 26 (0, 0)) by rw [alloc_at, if_pos rfl])
  subst hG
  subst hJ
  go_enter Tryd.func15, Tryd.ntmps15
  go_wp2_with (go_at_call 10; refine (PJ _).mono ?_; rintro ed w2 ⟨rfl, hb2⟩; obtain ⟨x0, x1, x2, x3, x4, x5, x6, x7⟩ := code_cells (keepB hb2 HB.out))
  go_ret
  exact ⟨_, rfl, Own.nil _ _, ((Below.refl w.heap.size w).alloc (Nat.le_refl _) _).trans (hb2.mono (by simp))⟩

set_option maxHeartbeats 4000000 in
set_option maxRecDepth 100000 in
theorem next_noB_noH (op dop to fa fb fc fv t p n : Int) (J G : Bool) (w : World) (hp0 : -9223372036854775808 ≤ p) (hn1 : n ≤ 9223372036854775807) (PJ : ∀ w1, Calls Tryd.prog 10 #[.agg #[.int .i64 op, .int .i64 dop, .int .i64 to, .int .i64 fa, .int .i64 fb, .int .i64 fc, .int .u64 fv, .int .i64 t]] w1 fun e w' => e = .returned (.tuple #[.bool J, .bool G]) ∧ Below w1.heap.size w1 w') (hG : G = true) (a1 : p < n) (a2 : ¬ p + 1 < n) (hJ : J = true) (b1 : 0 ≤ t) (b2 : ¬ t < n) :
    Calls Tryd.prog 15 #[.agg #[.int .i64 op, .int .i64 dop, .int .i64 to, .int .i64 fa, .int .i64 fb, .int .i64 fc, .int .u64 fv, .int .i64 t], .int .i64 p, .int .i64 n] w fun e w' => ∃ v, e = .returned v ∧ Own w' w.heap.size v ([]) ∧ Below w.heap.size w w' := by
  have HB := Lib.hid (show (w.alloc (.cells #[.int .i64 op, .int .i64 dop, .int .i64 to, .int .i64 fa, .int .i64 fb, .int .i64 fc, .int .u64 fv, .int .i64 t] 26)).heap[w.heap.size]? = some (.cells #[.int .i64 op, .int .i64 dop, .int .i64 to, .int .i64 fa, .int .i64 fb, .int .i64 fc, .int .u64 fv, .int .i64 t] 26 (0, 0)) by rw [alloc_at, if_pos rfl])
  subst hG
  subst hJ
  go_enter Tryd.func15, Tryd.ntmps15
  go_wp2_with (go_at_call 10; refine (PJ _).mono ?_; rintro ed w2 ⟨rfl, hb2⟩; obtain ⟨x0, x1, x2, x3, x4, x5, x6, x7⟩ := code_cells (keepB hb2 HB.out))
  go_ret
  exact ⟨_, rfl, Own.nil _ _, ((Below.refl w.heap.size w).alloc (Nat.le_refl _) _).trans (hb2.mono (by simp))⟩

theorem next_any (x : Cd) (p n : Int) (w : World) (hp0 : -9223372036854775808 ≤ p) (hn1 : n ≤ 9223372036854775807) :
    Calls Tryd.prog 15 #[.agg #[.int .i64 x.op, .int .i64 x.dop, .int .i64 x.to, .int .i64 x.a, .int .i64 x.b, .int .i64 x.c, .int .u64 x.v, .int .i64 x.t], .int .i64 p, .int .i64 n] w fun e w' => ∃ v, e = .returned v ∧ Own w' w.heap.size v (nextP x p n) ∧ Below w.heap.size w w' := by
  have PJ := fun w1 => jumps_any x w1
  unfold nextP
  obtain ⟨J, hJ⟩ : ∃ J, J = jumpsB x.op := ⟨_, rfl⟩
  obtain ⟨G, hG⟩ : ∃ G, G = goesB x.op := ⟨_, rfl⟩
  rw [← hJ, ← hG] at PJ ⊢
  obtain ⟨op, dop, to, fa, fb, fc, fv, t⟩ := x
  simp only at PJ ⊢
  clear hJ hG
  have hon : (G = true ∧ p < n ∧ p + 1 < n) ∨ G = false ∨ (G = true ∧ ¬ p < n) ∨ (G = true ∧ p < n ∧ ¬ p + 1 < n) := by
    cases G
    · simp
    · simp; omega
  have hth : (J = true ∧ 0 ≤ t ∧ t < n) ∨ J = false ∨ (J = true ∧ ¬ 0 ≤ t) ∨ (J = true ∧ 0 ≤ t ∧ ¬ t < n) := by
    cases J
    · simp
    · simp; omega
  rcases hon with ⟨hG, a1, a2⟩ | hG | ⟨hG, a1⟩ | ⟨hG, a1, a2⟩ <;> rcases hth with ⟨hJ, b1, b2⟩ | hJ | ⟨hJ, b1⟩ | ⟨hJ, b1, b2⟩
  · by_cases c1 : t < p + 1
    · rw [show nextB J G t p n = [t, p + 1] by simp [nextB, hG, a1, a2, hJ, b1, b2, c1]]
      exact next_lt op dop to fa fb fc fv t p n J G w hp0 hn1 PJ hG a1 a2 hJ b1 b2 c1
    · by_cases c2 : p + 1 < t
      · rw [show nextB J G t p n = [p + 1, t] by simp [nextB, hG, a1, a2, hJ, b1, b2, c1, c2]]
        exact next_gt op dop to fa fb fc fv t p n J G w hp0 hn1 PJ hG a1 a2 hJ b1 b2 c1 c2
      · rw [show nextB J G t p n = [p + 1] by simp [nextB, hG, a1, a2, hJ, b1, b2, c1, c2]]
        exact next_eq op dop to fa fb fc fv t p n J G w hp0 hn1 PJ hG a1 a2 hJ b1 b2 c1 c2
  · rw [show nextB J G t p n = [p + 1] by simp [nextB, hG, a1, a2, hJ]]
    exact next_on_noJ op dop to fa fb fc fv t p n J G w hp0 hn1 PJ hG a1 a2 hJ
  · rw [show nextB J G t p n = [p + 1] by simp [nextB, hG, a1, a2, hJ, b1]]
    exact next_on_noL op dop to fa fb fc fv t p n J G w hp0 hn1 PJ hG a1 a2 hJ b1
  · rw [show nextB J G t p n = [p + 1] by simp [nextB, hG, a1, a2, hJ, b1, b2]]
    exact next_on_noH op dop to fa fb fc fv t p n J G w hp0 hn1 PJ hG a1 a2 hJ b1 b2
  · rw [show nextB J G t p n = [t] by simp [nextB, hG, hJ, b1, b2]]
    exact next_noG_th op dop to fa fb fc fv t p n J G w hp0 hn1 PJ hG hJ b1 b2
  · rw [show nextB J G t p n = [] by simp [nextB, hG, hJ]]
    exact next_noG_noJ op dop to fa fb fc fv t p n J G w hp0 hn1 PJ hG hJ
  · rw [show nextB J G t p n = [] by simp [nextB, hG, hJ, b1]]
    exact next_noG_noL op dop to fa fb fc fv t p n J G w hp0 hn1 PJ hG hJ b1
  · rw [show nextB J G t p n = [] by simp [nextB, hG, hJ, b1, b2]]
    exact next_noG_noH op dop to fa fb fc fv t p n J G w hp0 hn1 PJ hG hJ b1 b2
  · rw [show nextB J G t p n = [t] by simp [nextB, hG, a1, hJ, b1, b2]]
    exact next_noA_th op dop to fa fb fc fv t p n J G w hp0 hn1 PJ hG a1 hJ b1 b2
  · rw [show nextB J G t p n = [] by simp [nextB, hG, a1, hJ]]
    exact next_noA_noJ op dop to fa fb fc fv t p n J G w hp0 hn1 PJ hG a1 hJ
  · rw [show nextB J G t p n = [] by simp [nextB, hG, a1, hJ, b1]]
    exact next_noA_noL op dop to fa fb fc fv t p n J G w hp0 hn1 PJ hG a1 hJ b1
  · rw [show nextB J G t p n = [] by simp [nextB, hG, a1, hJ, b1, b2]]
    exact next_noA_noH op dop to fa fb fc fv t p n J G w hp0 hn1 PJ hG a1 hJ b1 b2
  · rw [show nextB J G t p n = [t] by simp [nextB, hG, a1, a2, hJ, b1, b2]]
    exact next_noB_th op dop to fa fb fc fv t p n J G w hp0 hn1 PJ hG a1 a2 hJ b1 b2
  · rw [show nextB J G t p n = [] by simp [nextB, hG, a1, a2, hJ]]
    exact next_noB_noJ op dop to fa fb fc fv t p n J G w hp0 hn1 PJ hG a1 a2 hJ
  · rw [show nextB J G t p n = [] by simp [nextB, hG, a1, a2, hJ, b1]]
    exact next_noB_noL op dop to fa fb fc fv t p n J G w hp0 hn1 PJ hG a1 a2 hJ b1
  · rw [show nextB J G t p n = [] by simp [nextB, hG, a1, a2, hJ, b1, b2]]
    exact next_noB_noH op dop to fa fb fc fv t p n J G w hp0 hn1 PJ hG a1 a2 hJ b1 b2
end Go.Proofs.YtjiecfagblijhaaDoor.Cd
