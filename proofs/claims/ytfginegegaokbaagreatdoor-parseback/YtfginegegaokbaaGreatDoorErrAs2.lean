/- What errors.As answers at an error that package lex makes, at the target of its number, and so what api.Number answers. Conditions: the error lies in memory as lex makes it; the variable errors.errorType holds what its initialiser lays. -/
import Derived.Test.YtfginegegaokbaaGreatDoorErrAs
namespace Go.Proofs.YtfginegegaokbaaGreatDoor
open Go.RowKit Go.Extern.Stop Go.Stop Go.Extern

theorem noAs68 (v : Value) (w : World) : (Instr.typeAssert (.iface 96 v) 30 170 true).run Tryz.prog w = .ok (.tuple #[.nilIface, .bool false]) w := run_typeAssert_lacksB Tryz.underlying170 (by kernel_rfl) (by kernel_rfl) v 30 w
theorem unwrap68 (v : Value) (w : World) : (Instr.typeAssert (.iface 96 v) 30 173 true).run Tryz.prog w = .ok (.tuple #[.iface 96 v, .bool true]) w := run_typeAssert_hasB Tryz.underlying173 (by kernel_rfl) v 30 w
set_option maxRecDepth 100000 in
set_option maxHeartbeats 8000000 in
theorem as_errno (fb : Nat) (t : Addr) (p n : Int) (old : Value) (w : World) (hg : TypeVar w) (ht0 : w.cell? t = some old) (hf0 : w.frozen? t = false)
    (hfb : w.heap[fb]? = some (.cells #[.int .i64 p, .iface 38 (.int .i64 n)] 100 (0, 0))) :
    Calls Tryz.prog 35 #[.iface 96 (.pointer (some ⟨fb, 0, none⟩)), .iface 101 (.pointer (some t))] w fun ev w' => ev = .returned (.bool true) ∧ w' = ((((w.alloc (.cells #[.pointer (some t)] 101)).alloc (.cells #[hdl 101, .pointer (some ⟨w.heap.size, 0, none⟩), .int .u64 150] 138)).alloc (.cells #[hdl 101, .pointer (some ⟨w.heap.size, 0, none⟩), .int .u64 150] 138)).alloc (.cells #[.int .i64 n] 38)).setCell t (.int .i64 n) := by
  have hlt := hg.lt
  unfold TypeVar at hg
  have h36 := @run_callFunc_extern Tryz.prog 55 _ (fun args => ReflectliteValue.unpack (args.getD 0 (.tuple #[]))) Tryz.func55 (by kernel_rfl) (by kernel_rfl) (by kernel_rfl) (by kernel_rfl)
  have h37 := @run_callFunc_extern Tryz.prog 56 _ (ReflectliteValue.methodAny (ReflectliteValue.valueError "reflectlite.Value.Type" 0) (fun t _ _ _ => ReflectliteType.toType t)) Tryz.func56 (by kernel_rfl) (by kernel_rfl) (by kernel_rfl) (by kernel_rfl)
  have h38 := @run_callFunc_extern Tryz.prog 57 _ (ReflectliteValue.method (ReflectliteValue.valueError "reflectlite.Value.IsNil" 0) ReflectliteValue.isNil) Tryz.func57 (by kernel_rfl) (by kernel_rfl) (by kernel_rfl) (by kernel_rfl)
  have h113 := @run_callFunc_extern Tryz.prog 178 _ (ReflectliteType.abiMethod fun t => do pure (.int .u8 (← Rtype.kind t))) Tryz.func178 (by kernel_rfl) (by kernel_rfl) (by kernel_rfl) (by kernel_rfl)
  have h125 := @run_callFunc_extern Tryz.prog 191 _ (ReflectliteType.method ReflectliteType.elem) Tryz.func191 (by kernel_rfl) (by kernel_rfl) (by kernel_rfl) (by kernel_rfl)
  have h126 := @run_callFunc_extern Tryz.prog 192 _ (ReflectliteType.relation "Implements" ReflectliteType.implements_) Tryz.func192 (by kernel_rfl) (by kernel_rfl) (by kernel_rfl) (by kernel_rfl)
  have h45 := @run_callFunc_extern Tryz.prog 85 _ ReflectliteType.typeOf Tryz.func85 (by kernel_rfl) (by kernel_rfl) (by kernel_rfl) (by kernel_rfl)
  have h123 := @run_callFunc_extern Tryz.prog 189 _ (ReflectliteType.relation "AssignableTo" ReflectliteType.assignableTo) Tryz.func189 (by kernel_rfl) (by kernel_rfl) (by kernel_rfl) (by kernel_rfl)
  have h46 := @run_callFunc_extern Tryz.prog 86 _ (ReflectliteValue.method (ReflectliteValue.valueError "reflectlite.Value.Elem" 0) ReflectliteValue.elem) Tryz.func86 (by kernel_rfl) (by kernel_rfl) (by kernel_rfl) (by kernel_rfl)
  have h47 := @run_callFunc_extern Tryz.prog 87 _ ReflectliteValue.set Tryz.func87 (by kernel_rfl) (by kernel_rfl) (by kernel_rfl) (by kernel_rfl)
  have tO := typeOf68
  have tO2 := typeOf35
  have mA := methodAssignableTo
  have a35 := assignable35
  have a6835 := assignable6835
  have mU := methodUnwrap
  have v35 := valueOf35
  have v67 := valueOf67
  have t67 := type67
  have mK := methodKind
  have mE := methodElem
  have mI := methodImplements
  have k67 := kind67
  have k35 := kind35
  have e67 := elem67
  have i35 := implements35
  have n38 := isNil67 ⟨w.heap.size, 0, none⟩ t ((w.alloc (.cells #[.pointer (some t)] 101)).alloc (.cells #[hdl 101, .pointer (some ⟨w.heap.size, 0, none⟩), .int .u64 150] 138)) (by simp)
  have hg2 : ((w.alloc (.cells #[.pointer (some t)] 101)).alloc (.cells #[hdl 101, .pointer (some ⟨w.heap.size, 0, none⟩), .int .u64 150] 138)).cell? ⟨0, 0, none⟩ = some (.iface 165 (.agg #[hdl 30])) := by
    rw [World.cell?_alloc_lt _ _ ⟨0, 0, none⟩ (by simp), World.cell?_alloc_lt _ _ ⟨0, 0, none⟩ hlt]; exact hg
  have htl := lt_of_cell ht0
  have el := elemV67 ⟨w.heap.size, 0, none⟩ t (((w.alloc (.cells #[.pointer (some t)] 101)).alloc (.cells #[hdl 101, .pointer (some ⟨w.heap.size, 0, none⟩), .int .u64 150] 138)).alloc (.cells #[hdl 101, .pointer (some ⟨w.heap.size, 0, none⟩), .int .u64 150] 138)) (by rw [World.cell?_alloc_lt _ _ ⟨w.heap.size, 0, none⟩ (by simp; omega)]; simp)
  have st := set35 t ⟨w.heap.size + 1 + 1 + 1, 0, none⟩ n old ((((w.alloc (.cells #[.pointer (some t)] 101)).alloc (.cells #[hdl 101, .pointer (some ⟨w.heap.size, 0, none⟩), .int .u64 150] 138)).alloc (.cells #[hdl 101, .pointer (some ⟨w.heap.size, 0, none⟩), .int .u64 150] 138)).alloc (.cells #[.int .i64 n] 38))
    (by rw [World.cell?_alloc_at _ _ _ _ (by simp)]; rfl)
    (by rw [World.cell?_alloc_lt _ _ t (by simp; omega), World.cell?_alloc_lt _ _ t (by simp; omega), World.cell?_alloc_lt _ _ t (by simp; omega), World.cell?_alloc_lt _ _ t htl]; exact ht0)
    (by rw [World.frozen?_alloc_old _ _ t (by simp; omega), World.frozen?_alloc_old _ _ t (by simp; omega), World.frozen?_alloc_old _ _ t (by simp; omega), World.frozen?_alloc_old _ _ t (Nat.ne_of_lt htl)]; exact hf0)
  have nA := noAs68
  have yU := unwrap68
  have hc1 : w.cell? ⟨fb, 1, none⟩ = some (.iface 38 (.int .i64 n)) := by simp [World.cell?, hfb]
  have hfl : fb < w.heap.size := lt_of_cell hc1
  have hc3 : ∀ o1 o2 o3 : Obj, (((w.alloc o1).alloc o2).alloc o3).cell? ⟨fb, 1, none⟩ = some (.iface 38 (.int .i64 n)) := fun o1 o2 o3 => by
    rw [World.cell?_alloc_lt _ _ ⟨fb, 1, none⟩ (by show fb < _; simp; omega), World.cell?_alloc_lt _ _ ⟨fb, 1, none⟩ (by show fb < _; simp; omega), World.cell?_alloc_lt _ _ ⟨fb, 1, none⟩ hfl]; exact hc1
  clear hc1 hfb
  go_enter Tryz.func35, Tryz.ntmps35
  go_wp2
  refine wp_loop_rounds 2 ?_
  rw [rounds_succ]
  go_wp2
  rw [rounds_succ]
  go_wp2
  go_ret
  exact ⟨rfl, rfl⟩

/-- api.Number at such an error. -/
theorem number_any (fb : Nat) (p n : Int) (w : World) (hg : TypeVar w) (hfb : w.heap[fb]? = some (.cells #[.int .i64 p, .iface 38 (.int .i64 n)] 100 (0, 0))) :
    Calls Tryz.prog 17 #[.iface 96 (.pointer (some ⟨fb, 0, none⟩))] w fun e w' => e = .returned (.int .i64 n) ∧ Below w.heap.size w w' := by
  have hlt : fb < w.heap.size := lt_of_block hfb
  have hgA : TypeVar (w.alloc (.cells #[.int .i64 0] 38)) := by
    have := hg.lt
    unfold TypeVar at *
    rw [World.cell?_alloc_lt _ _ ⟨0, 0, none⟩ this]; exact hg
  have htA : (w.alloc (.cells #[.int .i64 0] 38)).cell? ⟨w.heap.size, 0, none⟩ = some (.int .i64 0) := by simp
  have hfA : (w.alloc (.cells #[.int .i64 0] 38)).frozen? ⟨w.heap.size, 0, none⟩ = false := by simp
  have hbA : (w.alloc (.cells #[.int .i64 0] 38)).heap[fb]? = some (.cells #[.int .i64 p, .iface 38 (.int .i64 n)] 100 (0, 0)) := by rw [Below.heap_alloc _ _ _ hlt]; exact hfb
  clear hfb
  go_enter Tryz.func17, Tryz.ntmps17
  go_wp2_with (go_at_call 35; refine (as_errno fb _ p n (.int .i64 0) _ hgA htA hfA hbA).mono ?_; rintro e w' ⟨rfl, rfl⟩)
  go_ret
  refine ⟨rfl, ?_⟩
  repeat (first | exact Below.refl _ _ | refine Below.alloc ?_ (by simp; try omega) _)
end Go.Proofs.YtfginegegaokbaaGreatDoor
