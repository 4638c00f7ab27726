/- What errors.As answers at the errors that package lex makes (a place, and behind it a number), at the two targets that package api hands it, and so what api.Number and api.Place answer. Conditions: the error lies in memory as lex makes it; the variable errors.errorType holds what its initialiser lays. -/
import Derived.Test.YtjnfjfihdachiaaGreatDoorRows
import Derived.WalkKit
import Derived.LaidEql
import Derived.Stop.Asserts
import Derived.RowKitTokens
import Derived.ProofKit
namespace Go.Proofs.YtjnfjfihdachiaaGreatDoor
open Go.RowKit Go.Extern.Stop Go.Stop Go.Extern

/-- The handle of a type. -/
abbrev hdl (t : Nat) : Value := .pointer (some ⟨7, t, none⟩)

theorem handle23 : typeHandle Tryz.prog 25 = .pointer (some ⟨7, 25, none⟩) := by kernel_rfl

/-! closed facts on the entries of reflectlite, at this program's types: 35: api.Errno · 67: *api.Errno · 68: *api.Fault · 69: **api.Fault · 25: error · 95: reflectlite's rtype -/
theorem valueOf67 (t : Addr) (w : World) : (ReflectliteValue.unpack (.iface 67 (.pointer (some t)))).run Tryz.prog w
    = .ok (.agg #[hdl 67, .pointer (some ⟨w.heap.size, 0, none⟩), .int .u64 150]) (w.alloc (.cells #[.pointer (some t)] 67)) := by kernel_rfl
theorem valueOf69 (t : Addr) (w : World) : (ReflectliteValue.unpack (.iface 69 (.pointer (some t)))).run Tryz.prog w
    = .ok (.agg #[hdl 69, .pointer (some ⟨w.heap.size, 0, none⟩), .int .u64 150]) (w.alloc (.cells #[.pointer (some t)] 69)) := by kernel_rfl
theorem valueOf68 (e : Addr) (w : World) : (ReflectliteValue.unpack (.iface 68 (.pointer (some e)))).run Tryz.prog w
    = .ok (.agg #[hdl 68, .pointer (some ⟨w.heap.size, 0, none⟩), .int .u64 150]) (w.alloc (.cells #[.pointer (some e)] 68)) := by kernel_rfl
theorem valueOf35 (n : Int) (w : World) : (ReflectliteValue.unpack (.iface 35 (.int .i64 n))).run Tryz.prog w
    = .ok (.agg #[hdl 35, .pointer (some ⟨w.heap.size, 0, none⟩), .int .u64 130]) (w.alloc (.cells #[.int .i64 n] 35)) := by kernel_rfl
theorem type67 (a : Addr) (w : World) : (ReflectliteValue.methodAny (ReflectliteValue.valueError "reflectlite.Value.Type" 0) (fun t _ _ _ => ReflectliteType.toType t) #[.agg #[hdl 67, .pointer (some a), .int .u64 150]]).run Tryz.prog w
    = .ok (.iface 95 (.agg #[hdl 67])) w := by kernel_rfl
theorem type69 (a : Addr) (w : World) : (ReflectliteValue.methodAny (ReflectliteValue.valueError "reflectlite.Value.Type" 0) (fun t _ _ _ => ReflectliteType.toType t) #[.agg #[hdl 69, .pointer (some a), .int .u64 150]]).run Tryz.prog w
    = .ok (.iface 95 (.agg #[hdl 69])) w := by kernel_rfl
theorem methodKind (h : Value) (w : World) : (Go.method 282 95 (.agg #[h]) "Kind").run Tryz.prog w = .ok (113, h) w := by kernel_rfl
theorem methodElem (h : Value) (w : World) : (Go.method 282 95 (.agg #[h]) "Elem").run Tryz.prog w = .ok (125, .agg #[h]) w := by kernel_rfl
theorem methodImplements (h : Value) (w : World) : (Go.method 282 95 (.agg #[h]) "Implements").run Tryz.prog w = .ok (126, .agg #[h]) w := by kernel_rfl
theorem methodAssignableTo (h : Value) (w : World) : (Go.method 282 95 (.agg #[h]) "AssignableTo").run Tryz.prog w = .ok (123, .agg #[h]) w := by kernel_rfl
theorem methodUnwrap (h : Value) (w : World) : (Go.method 282 68 h "Unwrap").run Tryz.prog w = .ok (118, h) w := by kernel_rfl
theorem kind67 (w : World) : ((ReflectliteType.abiMethod fun t => (fun a : Nat => Value.int IntKind.u8 (a : Int)) <$> Rtype.kind t) #[hdl 67]).run Tryz.prog w = .ok (.int .u8 22) w := by kernel_rfl
theorem kind69 (w : World) : ((ReflectliteType.abiMethod fun t => (fun a : Nat => Value.int IntKind.u8 (a : Int)) <$> Rtype.kind t) #[hdl 69]).run Tryz.prog w = .ok (.int .u8 22) w := by kernel_rfl
theorem kind68 (w : World) : ((ReflectliteType.abiMethod fun t => (fun a : Nat => Value.int IntKind.u8 (a : Int)) <$> Rtype.kind t) #[hdl 68]).run Tryz.prog w = .ok (.int .u8 22) w := by kernel_rfl
theorem kind35 (w : World) : ((ReflectliteType.abiMethod fun t => (fun a : Nat => Value.int IntKind.u8 (a : Int)) <$> Rtype.kind t) #[hdl 35]).run Tryz.prog w = .ok (.int .u8 2) w := by kernel_rfl
theorem elem67 (w : World) : (ReflectliteType.method ReflectliteType.elem #[.agg #[hdl 67]]).run Tryz.prog w = .ok (.iface 95 (.agg #[hdl 35])) w := by kernel_rfl
theorem elem69 (w : World) : (ReflectliteType.method ReflectliteType.elem #[.agg #[hdl 69]]).run Tryz.prog w = .ok (.iface 95 (.agg #[hdl 68])) w := by kernel_rfl
theorem implements35 (w : World) : (ReflectliteType.relation "Implements" ReflectliteType.implements_ #[.agg #[hdl 35], .iface 95 (.agg #[hdl 25])]).run Tryz.prog w = .ok (.bool true) w := by kernel_rfl
theorem implements68 (w : World) : (ReflectliteType.relation "Implements" ReflectliteType.implements_ #[.agg #[hdl 68], .iface 95 (.agg #[hdl 25])]).run Tryz.prog w = .ok (.bool true) w := by kernel_rfl
theorem typeOf68 (v : Value) (w : World) : (ReflectliteType.typeOf #[.iface 68 v]).run Tryz.prog w = .ok (.iface 95 (.agg #[hdl 68])) w := by kernel_rfl
theorem typeOf35 (v : Value) (w : World) : (ReflectliteType.typeOf #[.iface 35 v]).run Tryz.prog w = .ok (.iface 95 (.agg #[hdl 35])) w := by kernel_rfl
theorem assignable68 (w : World) : (ReflectliteType.relation "AssignableTo" ReflectliteType.assignableTo #[.agg #[hdl 68], .iface 95 (.agg #[hdl 68])]).run Tryz.prog w = .ok (.bool true) w := by kernel_rfl
theorem assignable35 (w : World) : (ReflectliteType.relation "AssignableTo" ReflectliteType.assignableTo #[.agg #[hdl 35], .iface 95 (.agg #[hdl 35])]).run Tryz.prog w = .ok (.bool true) w := by kernel_rfl
theorem assignable6835 (w : World) : (ReflectliteType.relation "AssignableTo" ReflectliteType.assignableTo #[.agg #[hdl 68], .iface 95 (.agg #[hdl 35])]).run Tryz.prog w = .ok (.bool false) w := by kernel_rfl

theorem rlm (z : Sem Value) (f : TypeId → Addr → Nat → Nat → Sem Value) (v : Value) :
    ReflectliteValue.method z f #[v] = (do match ← ReflectliteValue.parts v with | none => z | some (t, a, fl) => f t a fl (fl % 32)) := rfl
theorem parts67 (a : Addr) (w : World) : (ReflectliteValue.parts (.agg #[hdl 67, .pointer (some a), .int .u64 150])).run Tryz.prog w = .ok (some (67, a, 150)) w := by kernel_rfl
theorem parts69 (a : Addr) (w : World) : (ReflectliteValue.parts (.agg #[hdl 69, .pointer (some a), .int .u64 150])).run Tryz.prog w = .ok (some (69, a, 150)) w := by kernel_rfl
theorem isNil67 (a p : Addr) (W : World) (ha : W.cell? a = some (.pointer (some p))) :
    (ReflectliteValue.method (ReflectliteValue.valueError "reflectlite.Value.IsNil" 0) ReflectliteValue.isNil #[.agg #[hdl 67, .pointer (some a), .int .u64 150]]).run Tryz.prog W = .ok (.bool false) W := by
  rw [rlm]
  simp only [Sem.run_bind, parts67, Result.andThen]
  simp [ReflectliteValue.isNil, loadVar, isAgg, underlying, Tryz.underlying67, ha, Result.andThen]
theorem isNil69 (a p : Addr) (W : World) (ha : W.cell? a = some (.pointer (some p))) :
    (ReflectliteValue.method (ReflectliteValue.valueError "reflectlite.Value.IsNil" 0) ReflectliteValue.isNil #[.agg #[hdl 69, .pointer (some a), .int .u64 150]]).run Tryz.prog W = .ok (.bool false) W := by
  rw [rlm]
  simp only [Sem.run_bind, parts69, Result.andThen]
  simp [ReflectliteValue.isNil, loadVar, isAgg, underlying, Tryz.underlying69, ha, Result.andThen]
theorem elemOf67 (w : World) : (Rtype.elem? 67).run Tryz.prog w = .ok (some 35) w := by kernel_rfl
theorem elemOf69 (w : World) : (Rtype.elem? 69).run Tryz.prog w = .ok (some 68) w := by kernel_rfl
theorem mk35 (p : Addr) (w : World) : (ReflectliteValue.mk 35 p ReflectliteValue.flagAddr).run Tryz.prog w = .ok (.agg #[hdl 35, .pointer (some p), .int .u64 386]) w := by kernel_rfl
theorem mk68 (p : Addr) (w : World) : (ReflectliteValue.mk 68 p ReflectliteValue.flagAddr).run Tryz.prog w = .ok (.agg #[hdl 68, .pointer (some p), .int .u64 406]) w := by kernel_rfl
theorem elemV67 (a p : Addr) (W : World) (ha : W.cell? a = some (.pointer (some p))) :
    (ReflectliteValue.method (ReflectliteValue.valueError "reflectlite.Value.Elem" 0) ReflectliteValue.elem #[.agg #[hdl 67, .pointer (some a), .int .u64 150]]).run Tryz.prog W
      = .ok (.agg #[hdl 35, .pointer (some p), .int .u64 386]) W := by
  rw [rlm]
  simp only [Sem.run_bind, parts67, Result.andThen]
  simp [ReflectliteValue.elem, loadVar, isAgg, underlying, Tryz.underlying67, ha, Result.andThen, elemOf67, mk35]
theorem elemV69 (a p : Addr) (W : World) (ha : W.cell? a = some (.pointer (some p))) :
    (ReflectliteValue.method (ReflectliteValue.valueError "reflectlite.Value.Elem" 0) ReflectliteValue.elem #[.agg #[hdl 69, .pointer (some a), .int .u64 150]]).run Tryz.prog W
      = .ok (.agg #[hdl 68, .pointer (some p), .int .u64 406]) W := by
  rw [rlm]
  simp only [Sem.run_bind, parts69, Result.andThen]
  simp [ReflectliteValue.elem, loadVar, isAgg, underlying, Tryz.underlying69, ha, Result.andThen, elemOf69, mk68]
end Go.Proofs.YtjnfjfihdachiaaGreatDoor
