/- What errors.As, api.Number and api.Place answer at an error that package lex makes. Conditions: the error lies in memory as lex makes it; the variable errors.errorType holds what its initialiser lays. -/
import Derived.Test.YtfginegegaokbaaGreatDoorErrFacts
namespace Go.Proofs.YtfginegegaokbaaGreatDoor
open Go.RowKit Go.Extern.Stop Go.Stop Go.Extern

theorem parts68a (a : Addr) (w : World) : (ReflectliteValue.parts (.agg #[hdl 96, .pointer (some a), .int .u64 406])).run Tryz.prog w = .ok (some (96, a, 406)) w := by kernel_rfl
theorem parts68 (a : Addr) (w : World) : (ReflectliteValue.parts (.agg #[hdl 96, .pointer (some a), .int .u64 150])).run Tryz.prog w = .ok (some (96, a, 150)) w := by kernel_rfl
theorem parts35a (a : Addr) (w : World) : (ReflectliteValue.parts (.agg #[hdl 38, .pointer (some a), .int .u64 386])).run Tryz.prog w = .ok (some (38, a, 386)) w := by kernel_rfl
theorem parts35 (a : Addr) (w : World) : (ReflectliteValue.parts (.agg #[hdl 38, .pointer (some a), .int .u64 130])).run Tryz.prog w = .ok (some (38, a, 130)) w := by kernel_rfl
theorem direct68 (w : World) : (Rtype.directlyAssignable 96 96).run Tryz.prog w = .ok true w := by kernel_rfl
theorem direct35 (w : World) : (Rtype.directlyAssignable 38 38).run Tryz.prog w = .ok true w := by kernel_rfl
theorem set68 (ta b e : Addr) (old : Value) (W : World) (hb : W.cell? b = some (.pointer (some e))) (ht : W.cell? ta = some old) (hf : W.frozen? ta = false) :
    (ReflectliteValue.set #[.agg #[hdl 96, .pointer (some ta), .int .u64 406], .agg #[hdl 96, .pointer (some b), .int .u64 150]]).run Tryz.prog W
      = .ok (.tuple #[]) (W.setCell ta (.pointer (some e))) := by
  rw [show ReflectliteValue.set #[.agg #[hdl 96, .pointer (some ta), .int .u64 406], .agg #[hdl 96, .pointer (some b), .int .u64 150]] = (ReflectliteValue.parts (.agg #[hdl 96, .pointer (some ta), .int .u64 406]) >>= fun _ => ReflectliteValue.parts (.agg #[hdl 96, .pointer (some b), .int .u64 150]) >>= fun _ => _) from rfl]
  simp only [Sem.run_bind, parts68a, parts68, Result.andThen]
  simp [ReflectliteValue.flagAddr, loadVar, isAgg, underlying, Tryz.underlying96, hb, Result.andThen, direct68, storeVar, Value.cells, storeCells, Addr.add]
  rw [run_store Tryz.prog W ta _ _ (by rfl)]
  simp [ht, hf]
theorem set35 (ta b : Addr) (n : Int) (old : Value) (W : World) (hb : W.cell? b = some (.int .i64 n)) (ht : W.cell? ta = some old) (hf : W.frozen? ta = false) :
    (ReflectliteValue.set #[.agg #[hdl 38, .pointer (some ta), .int .u64 386], .agg #[hdl 38, .pointer (some b), .int .u64 130]]).run Tryz.prog W
      = .ok (.tuple #[]) (W.setCell ta (.int .i64 n)) := by
  rw [show ReflectliteValue.set #[.agg #[hdl 38, .pointer (some ta), .int .u64 386], .agg #[hdl 38, .pointer (some b), .int .u64 130]] = (ReflectliteValue.parts (.agg #[hdl 38, .pointer (some ta), .int .u64 386]) >>= fun _ => ReflectliteValue.parts (.agg #[hdl 38, .pointer (some b), .int .u64 130]) >>= fun _ => _) from rfl]
  simp only [Sem.run_bind, parts35a, parts35, Result.andThen]
  simp [ReflectliteValue.flagAddr, loadVar, isAgg, underlying, Tryz.underlying38, hb, Result.andThen, direct35, storeVar, Value.cells, storeCells, Addr.add]
  rw [run_store Tryz.prog W ta _ _ (by rfl)]
  simp [ht, hf]

/-- What the variable errors.errorType holds. -/
def TypeVar (w : World) : Prop := w.cell? ⟨0, 0, none⟩ = some (.iface 165 (.agg #[hdl 30]))
theorem TypeVar.lt {w : World} (hg : TypeVar w) : 0 < w.heap.size := by
  unfold TypeVar at hg
  rcases Nat.eq_zero_or_pos w.heap.size with h0 | h
  · simp [World.cell?, h0] at hg
  · exact h
theorem TypeVar.below {w w' : World} (hg : TypeVar w) (h : Below w.heap.size w w') : TypeVar w' := by
  have := h.cell (p := ⟨0, 0, none⟩) hg.lt
  unfold TypeVar at *
  rw [this]; exact hg
theorem lt_of_cell {w : World} {t : Addr} {v : Value} (h : w.cell? t = some v) : t.block < w.heap.size := by
  rcases Nat.lt_or_ge t.block w.heap.size with h' | h'
  · exact h'
  · simp [World.cell?, Array.getElem?_eq_none h'] at h

set_option maxHeartbeats 4000000 in
/-- errors.As(e, &f), f *Fault. -/
theorem as_fault (e t : Addr) (old : Value) (w : World) (hg : TypeVar w) (ht0 : w.cell? t = some old) (hf0 : w.frozen? t = false) :
    Calls Tryz.prog 35 #[.iface 96 (.pointer (some e)), .iface 98 (.pointer (some t))] w fun ev w' => ev = .returned (.bool true) ∧ w' = ((((w.alloc (.cells #[.pointer (some t)] 98)).alloc (.cells #[hdl 98, .pointer (some ⟨w.heap.size, 0, none⟩), .int .u64 150] 138)).alloc (.cells #[hdl 98, .pointer (some ⟨w.heap.size, 0, none⟩), .int .u64 150] 138)).alloc (.cells #[.pointer (some e)] 96)).setCell t (.pointer (some e)) := by
  have hlt := hg.lt
  unfold TypeVar at hg
  have h36 := @run_callFunc_extern Tryz.prog 55 _ (fun args => ReflectliteValue.unpack (args.getD 0 (.tuple #[]))) Tryz.func55 (by kernel_rfl) (by kernel_rfl) (by kernel_rfl) (by kernel_rfl)
  have h37 := @run_callFunc_extern Tryz.prog 56 _ (ReflectliteValue.methodAny (ReflectliteValue.valueError "reflectlite.Value.Type" 0) (fun t _ _ _ => ReflectliteType.toType t)) Tryz.func56 (by kernel_rfl) (by kernel_rfl) (by kernel_rfl) (by kernel_rfl)
  have h38 := @run_callFunc_extern Tryz.prog 57 _ (ReflectliteValue.method (ReflectliteValue.valueError "reflectlite.Value.IsNil" 0) ReflectliteValue.isNil) Tryz.func57 (by kernel_rfl) (by kernel_rfl) (by kernel_rfl) (by kernel_rfl)
  have h113 := @run_callFunc_extern Tryz.prog 178 _ (ReflectliteType.abiMethod fun t => do pure (.int .u8 (← Rtype.kind t))) Tryz.func178 (by kernel_rfl) (by kernel_rfl) (by kernel_rfl) (by kernel_rfl)
  have h125 := @run_callFunc_extern Tryz.prog 191 _ (ReflectliteType.method ReflectliteType.elem) Tryz.func191 (by kernel_rfl) (by kernel_rfl) (by kernel_rfl) (by kernel_rfl)
  have h126 := @run_callFunc_extern Tryz.prog 192 _ (ReflectliteType.relation "Implements" ReflectliteType.implements_) Tryz.func192 (by kernel_rfl) (by kernel_rfl) (by kernel_rfl) (by kernel_rfl)
  have h45 := @run_callFunc_extern Tryz.prog 85 _ ReflectliteType.typeOf Tryz.func85 (by kernel_rfl) (by kernel_rfl) (by kernel_rfl) (by kernel_rfl)
  have h123 := @run_callFunc_extern Tryz.prog 189 _ (ReflectliteType.relation "AssignableTo" ReflectliteType.assignableTo) Tryz.func189 (by kernel_rfl) (by kernel_rfl) (by kernel_rfl) (by kernel_rfl)
  have h46 := @run_callFunc_extern Tryz.prog 86 _ (ReflectliteValue.method (ReflectliteValue.valueError "reflectlite.Value.Elem" 0) ReflectliteValue.elem) Tryz.func86 (by kernel_rfl) (by kernel_rfl) (by kernel_rfl) (by kernel_rfl)
  have h47 := @run_callFunc_extern Tryz.prog 87 _ ReflectliteValue.set Tryz.func87 (by kernel_rfl) (by kernel_rfl) (by kernel_rfl) (by kernel_rfl)
  have tO := typeOf68
  have mA := methodAssignableTo
  have a68 := assignable68
  have v68 := valueOf68
  have v69 := valueOf69
  have t69 := type69
  have mK := methodKind
  have mE := methodElem
  have mI := methodImplements
  have k69 := kind69
  have k68 := kind68
  have e69 := elem69
  have i68 := implements68
  have n38 := isNil69 ⟨w.heap.size, 0, none⟩ t ((w.alloc (.cells #[.pointer (some t)] 98)).alloc (.cells #[hdl 98, .pointer (some ⟨w.heap.size, 0, none⟩), .int .u64 150] 138)) (by simp)
  have hg2 : ((w.alloc (.cells #[.pointer (some t)] 98)).alloc (.cells #[hdl 98, .pointer (some ⟨w.heap.size, 0, none⟩), .int .u64 150] 138)).cell? ⟨0, 0, none⟩ = some (.iface 165 (.agg #[hdl 30])) := by
    rw [World.cell?_alloc_lt _ _ ⟨0, 0, none⟩ (by simp), World.cell?_alloc_lt _ _ ⟨0, 0, none⟩ hlt]; exact hg
  have htl := lt_of_cell ht0
  have el := elemV69 ⟨w.heap.size, 0, none⟩ t (((w.alloc (.cells #[.pointer (some t)] 98)).alloc (.cells #[hdl 98, .pointer (some ⟨w.heap.size, 0, none⟩), .int .u64 150] 138)).alloc (.cells #[hdl 98, .pointer (some ⟨w.heap.size, 0, none⟩), .int .u64 150] 138)) (by rw [World.cell?_alloc_lt _ _ ⟨w.heap.size, 0, none⟩ (by simp; omega)]; simp)
  have st := set68 t ⟨w.heap.size + 1 + 1 + 1, 0, none⟩ e old ((((w.alloc (.cells #[.pointer (some t)] 98)).alloc (.cells #[hdl 98, .pointer (some ⟨w.heap.size, 0, none⟩), .int .u64 150] 138)).alloc (.cells #[hdl 98, .pointer (some ⟨w.heap.size, 0, none⟩), .int .u64 150] 138)).alloc (.cells #[.pointer (some e)] 96))
    (by rw [World.cell?_alloc_at _ _ _ _ (by simp)]; rfl)
    (by rw [World.cell?_alloc_lt _ _ t (by simp; omega), World.cell?_alloc_lt _ _ t (by simp; omega), World.cell?_alloc_lt _ _ t (by simp; omega), World.cell?_alloc_lt _ _ t htl]; exact ht0)
    (by rw [World.frozen?_alloc_old _ _ t (by simp; omega), World.frozen?_alloc_old _ _ t (by simp; omega), World.frozen?_alloc_old _ _ t (by simp; omega), World.frozen?_alloc_old _ _ t (Nat.ne_of_lt htl)]; exact hf0)
  go_enter Tryz.func35, Tryz.ntmps35
  go_wp2
  refine wp_loop_rounds 1 ?_
  rw [rounds_succ]
  go_wp2
  go_ret
  exact ⟨rfl, rfl⟩

/-- api.Place at such an error. -/
theorem place_any (fb : Nat) (p : Int) (ev : Value) (w : World) (hg : TypeVar w) (hfb : w.heap[fb]? = some (.cells #[.int .i64 p, ev] 100 (0, 0))) :
    Calls Tryz.prog 15 #[.iface 96 (.pointer (some ⟨fb, 0, none⟩))] w fun e w' => e = .returned (.int .i64 p) ∧ Below w.heap.size w w' := by
  have hc : w.cell? ⟨fb, 0, none⟩ = some (.int .i64 p) := by simp [World.cell?, hfb]
  have hlt : fb < w.heap.size := lt_of_cell hc
  have hgA : TypeVar (w.alloc (.cells #[.pointer none] 96)) := by
    have := hg.lt
    unfold TypeVar at *
    rw [World.cell?_alloc_lt _ _ ⟨0, 0, none⟩ this]; exact hg
  have htA : (w.alloc (.cells #[.pointer none] 96)).cell? ⟨w.heap.size, 0, none⟩ = some (.pointer none) := by simp
  have hfA : (w.alloc (.cells #[.pointer none] 96)).frozen? ⟨w.heap.size, 0, none⟩ = false := by simp
  have hc5 : ∀ o1 o2 o3 o4 o5 : Obj, (((((w.alloc o1).alloc o2).alloc o3).alloc o4).alloc o5).cell? ⟨fb, 0, none⟩ = some (.int .i64 p) := fun o1 o2 o3 o4 o5 => by
    rw [World.cell?_alloc_lt _ _ ⟨fb, 0, none⟩ (by show fb < _; simp; omega), World.cell?_alloc_lt _ _ ⟨fb, 0, none⟩ (by show fb < _; simp; omega), World.cell?_alloc_lt _ _ ⟨fb, 0, none⟩ (by show fb < _; simp; omega), World.cell?_alloc_lt _ _ ⟨fb, 0, none⟩ (by show fb < _; simp; omega), World.cell?_alloc_lt _ _ ⟨fb, 0, none⟩ hlt]; exact hc
  go_enter Tryz.func15, Tryz.ntmps15
  go_wp2_with (go_at_call 35; refine (as_fault _ _ (.pointer none) _ hgA htA hfA).mono ?_; rintro e w' ⟨rfl, rfl⟩)
  go_ret
  refine ⟨rfl, ?_⟩
  repeat (first | exact Below.refl _ _ | refine Below.alloc ?_ (by simp; try omega) _)

end Go.Proofs.YtfginegegaokbaaGreatDoor
