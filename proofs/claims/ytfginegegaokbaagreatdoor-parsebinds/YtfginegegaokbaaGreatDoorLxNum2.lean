/- What strconv.ParseUint answers at digits, base 10, 64 bits, its errors too. Conditions: every byte is a digit, there is one; the variable strconv.ErrRange holds an error. -/
import Derived.Test.YtfginegegaokbaaGreatDoorLxNum
namespace Go.Proofs.YtfginegegaokbaaGreatDoor.Lx
open Go.ChangeShapes Go.WideShapes Go.ChangeAt Go.RowKit

theorem eql114 (a b : Int) (w : World) : (binOp .eql 30 (.iface 206 (.int .i64 a)) (.iface 206 (.int .i64 b))).run Tryz.prog w = .ok (.bool (a == b)) w := Lib.run_eql_iface_int w a b Tryz.underlying30 (by kernel_rfl) Tryz.underlying206

set_option maxHeartbeats 6400000 in
set_option maxRecDepth 100000 in
/-- strconv.rangeError. -/
theorem rangeError_any (fn s : ByteArray) (ev : Value) (w : World) (hlim : s.size ≤ 281474976710656) (hv : w.cell? ⟨3, 0, none⟩ = some ev) (hev : ∃ te pe, ev = .iface te pe) :
    Calls Tryz.prog 125 #[.string fn, .string s] w fun e w' => ∃ a, e = .returned (.pointer (some a)) ∧ Below w.heap.size w w' := by
  obtain ⟨te, pe, rfl⟩ := hev
  have hG : 3 < w.heap.size := by
    rcases Nat.lt_or_ge 3 w.heap.size with h' | h'
    · exact h'
    · simp [World.cell?, Array.getElem?_eq_none h'] at hv
  have hvd : w.drew.cell? ⟨3, 0, none⟩ = some _ := hv
  go_enter Tryz.func125, Tryz.ntmps125
  go_wp2
  go_region_with (
      go_at_call 59
      refine (cloneIn s _ hlim).mono ?_
      rintro e w2 ⟨rfl, hbel⟩
      have hv2 : w2.cell? ⟨3, 0, none⟩ = some _ := (hbel.cell (show (⟨3, 0, none⟩ : Addr).block < w.drew.heap.size from hG)).trans hvd)
  all_goals (
    go_wp2
    go_ret
    have hs2 : w.heap.size ≤ w2.heap.size := hbel.size
    exact ⟨_, rfl, ((Below.drew (Below.refl _ w)).trans hbel).alloc hs2 _⟩)

set_option maxHeartbeats 4000000 in
set_option maxRecDepth 100000 in
theorem toError_any (fn s : ByteArray) (base bits : Int) (ev : Value) (w : World) (hlim : s.size ≤ 281474976710656) (hv : w.cell? ⟨3, 0, none⟩ = some ev) (hev : ∃ te pe, ev = .iface te pe) :
    Calls Tryz.prog 107 #[.string fn, .string s, .int .i64 base, .int .i64 bits, .iface 206 (.int .i64 1)] w fun e w' => ∃ a, e = .returned (.iface 209 (.pointer (some a))) ∧ Below w.heap.size w w' := by
  have hq12 : ∀ W, (binOp .eql 30 (.iface 206 (.int .i64 1)) (.iface 206 (.int .i64 2))).run Tryz.prog W = .ok (.bool false) W := fun W => eql114 1 2 W
  have hq11 : ∀ W, (binOp .eql 30 (.iface 206 (.int .i64 1)) (.iface 206 (.int .i64 1))).run Tryz.prog W = .ok (.bool true) W := fun W => eql114 1 1 W
  go_enter Tryz.func107, Tryz.ntmps107
  go_wp2_with (go_at_call 125; refine (rangeError_any fn s ev _ hlim hv hev).mono ?_; rintro e w2 ⟨a, rfl, h3⟩)
  go_ret
  exact ⟨a, rfl, h3⟩

theorem bytesWorld_below (w : World) (t : ByteArray) : Below w.heap.size w (Lib.bytesWorld w 5 t) :=
  ⟨rfl, rfl, rfl, by rw [Lib.bytesWorld_size]; omega, fun k hk => Lib.bytesWorld_at_old w 5 t k hk⟩
theorem parseIn_some (t : ByteArray) (n : Nat) (hne : t.size ≠ 0) (hmax : t.size ≤ 65536) (hdig : ∀ c ∈ bys t, digitB (num c) = true) (hr : numFrom 0 (bys t) = some n) (w : World) :
    Calls Tryz.prog 106 #[.string t, .int .i64 10, .int .i64 64] w fun e w' => e = .returned (.tuple #[.int .u64 n, .nilIface]) ∧ Below w.heap.size w w' := by
  refine (parseIn t hne hmax hdig w).mono ?_
  rintro e w' ⟨rfl, rfl⟩
  rw [hr]
  exact ⟨rfl, bytesWorld_below w t⟩
theorem parseIn_none (t : ByteArray) (hne : t.size ≠ 0) (hmax : t.size ≤ 65536) (hdig : ∀ c ∈ bys t, digitB (num c) = true) (hr : numFrom 0 (bys t) = none) (w : World) :
    Calls Tryz.prog 106 #[.string t, .int .i64 10, .int .i64 64] w fun e w' => e = .returned (.tuple #[.int .u64 18446744073709551615, .iface 206 (.int .i64 1)]) ∧ Below w.heap.size w w' := by
  refine (parseIn t hne hmax hdig w).mono ?_
  rintro e w' ⟨rfl, rfl⟩
  rw [hr]
  exact ⟨rfl, bytesWorld_below w t⟩
set_option maxRecDepth 100000 in
set_option maxHeartbeats 2000000 in
/-- strconv.ParseUint at digits: no word. -/
theorem parse_none (t : ByteArray) (te : TypeId) (pe : Value) (hne : t.size ≠ 0) (hmax : t.size ≤ 65536) (hdig : ∀ c ∈ bys t, digitB (num c) = true) (HR : Hid (numFrom 0 (bys t) = none)) (w : World) (hv : w.cell? ⟨3, 0, none⟩ = some (.iface te pe)) :
    Calls Tryz.prog 90 #[.string t, .int .i64 10, .int .i64 64] w fun e w' => ∃ (a : Addr) (m : Int), e = .returned (.tuple #[.int .u64 m, .iface 209 (.pointer (some a))]) ∧ Below w.heap.size w w' := by
  have hG : 3 < w.heap.size := by
    rcases Nat.lt_or_ge 3 w.heap.size with h' | h'
    · exact h'
    · simp [World.cell?, Array.getElem?_eq_none h'] at hv
  go_enter Tryz.func90, Tryz.ntmps90
  go_wp2_with (first | (go_at_call 106; refine (parseIn_none t hne hmax hdig HR.out _).mono ?_; rintro e w1 ⟨rfl, hb1⟩; have hv1 := (hb1.cell (p := ⟨3, 0, none⟩) hG).trans hv) | (go_at_call 107; refine (toError_any _ t _ _ _ _ (by omega) hv1 ⟨te, pe, rfl⟩).mono ?_; rintro e w2 ⟨a, rfl, hb2⟩))
  go_ret2
  exact ⟨a, _, rfl, hb1.trans (hb2.mono hb1.size)⟩
set_option maxRecDepth 100000 in
set_option maxHeartbeats 2000000 in
/-- strconv.ParseUint at digits: their number. -/
theorem parse_some (t : ByteArray) (n : Nat) (hne : t.size ≠ 0) (hmax : t.size ≤ 65536) (hdig : ∀ c ∈ bys t, digitB (num c) = true) (HR : Hid (numFrom 0 (bys t) = some n)) (w : World) :
    Calls Tryz.prog 90 #[.string t, .int .i64 10, .int .i64 64] w fun e w' => e = .returned (.tuple #[.int .u64 n, .nilIface]) ∧ Below w.heap.size w w' := by
  go_enter Tryz.func90, Tryz.ntmps90
  go_wp2_with (go_at_call 106; refine (parseIn_some t n hne hmax hdig HR.out _).mono ?_; rintro e w1 ⟨rfl, hb1⟩)
  go_ret2
  exact ⟨rfl, hb1⟩
end Go.Proofs.YtfginegegaokbaaGreatDoor.Lx
