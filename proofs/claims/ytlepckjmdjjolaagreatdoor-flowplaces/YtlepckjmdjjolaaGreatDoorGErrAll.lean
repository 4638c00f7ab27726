/- Own texts laid together: ErrFacts, ErrAs, ErrAs2. Conditions: as each theorem says. -/
import Derived.Test.YtlepckjmdjjolaaGreatDoorRows
import Derived.WalkKit
import Derived.LaidEql
import Derived.Stop.Asserts
import Derived.RowKitTokens
import Derived.ProofKit
set_option maxHeartbeats 8000000
set_option maxRecDepth 100000
set_option linter.unusedVariables false
set_option linter.unusedSimpArgs false
namespace Go.Proofs.YtlepckjmdjjolaaGreatDoor
open Go.RowKit Go.Extern.Stop Go.Stop Go.Extern
abbrev hdl (t:Nat):Value:=.pointer (some ⟨7,t,none⟩)
theorem handle23:typeHandle Tryz.prog 28=.pointer (some ⟨7,28,none⟩):=by kernel_rfl
theorem valueOf67 (t:Addr) (w:World):(ReflectliteValue.unpack (.iface 123 (.pointer (some t)))).run Tryz.prog w
 = .ok (.agg #[hdl 123,.pointer (some ⟨w.heap.size,0,none⟩),.int .u64 150]) (w.alloc (.cells #[.pointer (some t)] 123)):=by kernel_rfl
theorem valueOf69 (t:Addr) (w:World):(ReflectliteValue.unpack (.iface 125 (.pointer (some t)))).run Tryz.prog w
 = .ok (.agg #[hdl 125,.pointer (some ⟨w.heap.size,0,none⟩),.int .u64 150]) (w.alloc (.cells #[.pointer (some t)] 125)):=by kernel_rfl
theorem valueOf68 (e:Addr) (w:World):(ReflectliteValue.unpack (.iface 124 (.pointer (some e)))).run Tryz.prog w
 = .ok (.agg #[hdl 124,.pointer (some ⟨w.heap.size,0,none⟩),.int .u64 150]) (w.alloc (.cells #[.pointer (some e)] 124)):=by kernel_rfl
theorem valueOf35 (n:Int) (w:World):(ReflectliteValue.unpack (.iface 65 (.int .i64 n))).run Tryz.prog w
 = .ok (.agg #[hdl 65,.pointer (some ⟨w.heap.size,0,none⟩),.int .u64 130]) (w.alloc (.cells #[.int .i64 n] 65)):=by kernel_rfl
theorem type67 (a:Addr) (w:World):(ReflectliteValue.methodAny (ReflectliteValue.valueError "reflectlite.Value.Type" 0) (fun t _ _ _=>ReflectliteType.toType t) #[.agg #[hdl 123,.pointer (some a),.int .u64 150]]).run Tryz.prog w
 = .ok (.iface 197 (.agg #[hdl 123])) w:=by kernel_rfl
theorem type69 (a:Addr) (w:World):(ReflectliteValue.methodAny (ReflectliteValue.valueError "reflectlite.Value.Type" 0) (fun t _ _ _=>ReflectliteType.toType t) #[.agg #[hdl 125,.pointer (some a),.int .u64 150]]).run Tryz.prog w
 = .ok (.iface 197 (.agg #[hdl 125])) w:=by kernel_rfl
theorem methodKind (h:Value) (w:World):(Go.method 401 197 (.agg #[h]) "Kind").run Tryz.prog w=.ok (211,h) w:=by kernel_rfl
theorem methodElem (h:Value) (w:World):(Go.method 401 197 (.agg #[h]) "Elem").run Tryz.prog w=.ok (224,.agg #[h]) w:=by kernel_rfl
theorem methodImplements (h:Value) (w:World):(Go.method 401 197 (.agg #[h]) "Implements").run Tryz.prog w=.ok (225,.agg #[h]) w:=by kernel_rfl
theorem methodAssignableTo (h:Value) (w:World):(Go.method 401 197 (.agg #[h]) "AssignableTo").run Tryz.prog w=.ok (222,.agg #[h]) w:=by kernel_rfl
theorem methodUnwrap (h:Value) (w:World):(Go.method 401 124 h "Unwrap").run Tryz.prog w=.ok (217,h) w:=by kernel_rfl
theorem kind67 (w:World):((ReflectliteType.abiMethod fun t=>(fun a:Nat=>Value.int IntKind.u8 (a:Int)) <$> Rtype.kind t) #[hdl 123]).run Tryz.prog w=.ok (.int .u8 22) w:=by kernel_rfl
theorem kind69 (w:World):((ReflectliteType.abiMethod fun t=>(fun a:Nat=>Value.int IntKind.u8 (a:Int)) <$> Rtype.kind t) #[hdl 125]).run Tryz.prog w=.ok (.int .u8 22) w:=by kernel_rfl
theorem kind68 (w:World):((ReflectliteType.abiMethod fun t=>(fun a:Nat=>Value.int IntKind.u8 (a:Int)) <$> Rtype.kind t) #[hdl 124]).run Tryz.prog w=.ok (.int .u8 22) w:=by kernel_rfl
theorem kind35 (w:World):((ReflectliteType.abiMethod fun t=>(fun a:Nat=>Value.int IntKind.u8 (a:Int)) <$> Rtype.kind t) #[hdl 65]).run Tryz.prog w=.ok (.int .u8 2) w:=by kernel_rfl
theorem elem67 (w:World):(ReflectliteType.method ReflectliteType.elem #[.agg #[hdl 123]]).run Tryz.prog w=.ok (.iface 197 (.agg #[hdl 65])) w:=by kernel_rfl
theorem elem69 (w:World):(ReflectliteType.method ReflectliteType.elem #[.agg #[hdl 125]]).run Tryz.prog w=.ok (.iface 197 (.agg #[hdl 124])) w:=by kernel_rfl
theorem implements35 (w:World):(ReflectliteType.relation "Implements" ReflectliteType.implements_ #[.agg #[hdl 65],.iface 197 (.agg #[hdl 28])]).run Tryz.prog w=.ok (.bool true) w:=by kernel_rfl
theorem implements68 (w:World):(ReflectliteType.relation "Implements" ReflectliteType.implements_ #[.agg #[hdl 124],.iface 197 (.agg #[hdl 28])]).run Tryz.prog w=.ok (.bool true) w:=by kernel_rfl
theorem typeOf68 (v:Value) (w:World):(ReflectliteType.typeOf #[.iface 124 v]).run Tryz.prog w=.ok (.iface 197 (.agg #[hdl 124])) w:=by kernel_rfl
theorem typeOf35 (v:Value) (w:World):(ReflectliteType.typeOf #[.iface 65 v]).run Tryz.prog w=.ok (.iface 197 (.agg #[hdl 65])) w:=by kernel_rfl
theorem assignable68 (w:World):(ReflectliteType.relation "AssignableTo" ReflectliteType.assignableTo #[.agg #[hdl 124],.iface 197 (.agg #[hdl 124])]).run Tryz.prog w=.ok (.bool true) w:=by kernel_rfl
theorem assignable35 (w:World):(ReflectliteType.relation "AssignableTo" ReflectliteType.assignableTo #[.agg #[hdl 65],.iface 197 (.agg #[hdl 65])]).run Tryz.prog w=.ok (.bool true) w:=by kernel_rfl
theorem assignable6835 (w:World):(ReflectliteType.relation "AssignableTo" ReflectliteType.assignableTo #[.agg #[hdl 124],.iface 197 (.agg #[hdl 65])]).run Tryz.prog w=.ok (.bool false) w:=by kernel_rfl
theorem rlm (z:Sem Value) (f:TypeId->Addr->Nat->Nat->Sem Value) (v:Value):
 ReflectliteValue.method z f #[v]=(do match <- ReflectliteValue.parts v with | none=>z | some (t,a,fl)=>f t a fl (fl % 32)):=rfl
theorem parts67 (a:Addr) (w:World):(ReflectliteValue.parts (.agg #[hdl 123,.pointer (some a),.int .u64 150])).run Tryz.prog w=.ok (some (123,a,150)) w:=by kernel_rfl
theorem parts69 (a:Addr) (w:World):(ReflectliteValue.parts (.agg #[hdl 125,.pointer (some a),.int .u64 150])).run Tryz.prog w=.ok (some (125,a,150)) w:=by kernel_rfl
theorem isNil67 (a p:Addr) (W:World) (ha:W.cell? a=some (.pointer (some p))):
 (ReflectliteValue.method (ReflectliteValue.valueError "reflectlite.Value.IsNil" 0) ReflectliteValue.isNil #[.agg #[hdl 123,.pointer (some a),.int .u64 150]]).run Tryz.prog W=.ok (.bool false) W:=by
 rw [rlm]
 simp only [Sem.run_bind,parts67,Result.andThen]
 simp [ReflectliteValue.isNil,loadVar,isAgg,underlying,Tryz.underlying123,ha,Result.andThen]
theorem isNil69 (a p:Addr) (W:World) (ha:W.cell? a=some (.pointer (some p))):
 (ReflectliteValue.method (ReflectliteValue.valueError "reflectlite.Value.IsNil" 0) ReflectliteValue.isNil #[.agg #[hdl 125,.pointer (some a),.int .u64 150]]).run Tryz.prog W=.ok (.bool false) W:=by
 rw [rlm]
 simp only [Sem.run_bind,parts69,Result.andThen]
 simp [ReflectliteValue.isNil,loadVar,isAgg,underlying,Tryz.underlying125,ha,Result.andThen]
theorem elemOf67 (w:World):(Rtype.elem? 123).run Tryz.prog w=.ok (some 65) w:=by kernel_rfl
theorem elemOf69 (w:World):(Rtype.elem? 125).run Tryz.prog w=.ok (some 124) w:=by kernel_rfl
theorem mk35 (p:Addr) (w:World):(ReflectliteValue.mk 65 p ReflectliteValue.flagAddr).run Tryz.prog w=.ok (.agg #[hdl 65,.pointer (some p),.int .u64 386]) w:=by kernel_rfl
theorem mk68 (p:Addr) (w:World):(ReflectliteValue.mk 124 p ReflectliteValue.flagAddr).run Tryz.prog w=.ok (.agg #[hdl 124,.pointer (some p),.int .u64 406]) w:=by kernel_rfl
theorem elemV67 (a p:Addr) (W:World) (ha:W.cell? a=some (.pointer (some p))):
 (ReflectliteValue.method (ReflectliteValue.valueError "reflectlite.Value.Elem" 0) ReflectliteValue.elem #[.agg #[hdl 123,.pointer (some a),.int .u64 150]]).run Tryz.prog W
  = .ok (.agg #[hdl 65,.pointer (some p),.int .u64 386]) W:=by
 rw [rlm]
 simp only [Sem.run_bind,parts67,Result.andThen]
 simp [ReflectliteValue.elem,loadVar,isAgg,underlying,Tryz.underlying123,ha,Result.andThen,elemOf67,mk35]
theorem elemV69 (a p:Addr) (W:World) (ha:W.cell? a=some (.pointer (some p))):
 (ReflectliteValue.method (ReflectliteValue.valueError "reflectlite.Value.Elem" 0) ReflectliteValue.elem #[.agg #[hdl 125,.pointer (some a),.int .u64 150]]).run Tryz.prog W
  = .ok (.agg #[hdl 124,.pointer (some p),.int .u64 406]) W:=by
 rw [rlm]
 simp only [Sem.run_bind,parts69,Result.andThen]
 simp [ReflectliteValue.elem,loadVar,isAgg,underlying,Tryz.underlying125,ha,Result.andThen,elemOf69,mk68]
theorem parts68a (a:Addr) (w:World):(ReflectliteValue.parts (.agg #[hdl 124,.pointer (some a),.int .u64 406])).run Tryz.prog w=.ok (some (124,a,406)) w:=by kernel_rfl
theorem parts68 (a:Addr) (w:World):(ReflectliteValue.parts (.agg #[hdl 124,.pointer (some a),.int .u64 150])).run Tryz.prog w=.ok (some (124,a,150)) w:=by kernel_rfl
theorem parts35a (a:Addr) (w:World):(ReflectliteValue.parts (.agg #[hdl 65,.pointer (some a),.int .u64 386])).run Tryz.prog w=.ok (some (65,a,386)) w:=by kernel_rfl
theorem parts35 (a:Addr) (w:World):(ReflectliteValue.parts (.agg #[hdl 65,.pointer (some a),.int .u64 130])).run Tryz.prog w=.ok (some (65,a,130)) w:=by kernel_rfl
theorem direct68 (w:World):(Rtype.directlyAssignable 124 124).run Tryz.prog w=.ok true w:=by kernel_rfl
theorem direct35 (w:World):(Rtype.directlyAssignable 65 65).run Tryz.prog w=.ok true w:=by kernel_rfl
theorem set68 (ta b e:Addr) (old:Value) (W:World) (hb:W.cell? b=some (.pointer (some e))) (ht:W.cell? ta=some old) (hf:W.frozen? ta=false):
 (ReflectliteValue.set #[.agg #[hdl 124,.pointer (some ta),.int .u64 406],.agg #[hdl 124,.pointer (some b),.int .u64 150]]).run Tryz.prog W
  = .ok (.tuple #[]) (W.setCell ta (.pointer (some e))):=by
 rw [show ReflectliteValue.set #[.agg #[hdl 124,.pointer (some ta),.int .u64 406],.agg #[hdl 124,.pointer (some b),.int .u64 150]]=(ReflectliteValue.parts (.agg #[hdl 124,.pointer (some ta),.int .u64 406]) >>= fun _=>ReflectliteValue.parts (.agg #[hdl 124,.pointer (some b),.int .u64 150]) >>= fun _=>_) from rfl]
 simp only [Sem.run_bind,parts68a,parts68,Result.andThen]
 simp [ReflectliteValue.flagAddr,loadVar,isAgg,underlying,Tryz.underlying124,hb,Result.andThen,direct68,storeVar,Value.cells,storeCells,Addr.add]
 rw [run_store Tryz.prog W ta _ _ (by rfl)]
 simp [ht,hf]
theorem set35 (ta b:Addr) (n:Int) (old:Value) (W:World) (hb:W.cell? b=some (.int .i64 n)) (ht:W.cell? ta=some old) (hf:W.frozen? ta=false):
 (ReflectliteValue.set #[.agg #[hdl 65,.pointer (some ta),.int .u64 386],.agg #[hdl 65,.pointer (some b),.int .u64 130]]).run Tryz.prog W
  = .ok (.tuple #[]) (W.setCell ta (.int .i64 n)):=by
 rw [show ReflectliteValue.set #[.agg #[hdl 65,.pointer (some ta),.int .u64 386],.agg #[hdl 65,.pointer (some b),.int .u64 130]]=(ReflectliteValue.parts (.agg #[hdl 65,.pointer (some ta),.int .u64 386]) >>= fun _=>ReflectliteValue.parts (.agg #[hdl 65,.pointer (some b),.int .u64 130]) >>= fun _=>_) from rfl]
 simp only [Sem.run_bind,parts35a,parts35,Result.andThen]
 simp [ReflectliteValue.flagAddr,loadVar,isAgg,underlying,Tryz.underlying65,hb,Result.andThen,direct35,storeVar,Value.cells,storeCells,Addr.add]
 rw [run_store Tryz.prog W ta _ _ (by rfl)]
 simp [ht,hf]
def TypeVar (w:World):Prop:=w.cell? ⟨0,0,none⟩=some (.iface 197 (.agg #[hdl 28]))
theorem TypeVar.lt {w:World} (hg:TypeVar w):0<w.heap.size:=by
 unfold TypeVar at hg
 rcases Nat.eq_zero_or_pos w.heap.size with h0 | h
 · simp [World.cell?,h0] at hg
 · exact h
theorem TypeVar.below {w w':World} (hg:TypeVar w) (h:Below w.heap.size w w'):TypeVar w':=by
 have:=h.cell (p:=⟨0,0,none⟩) hg.lt
 unfold TypeVar at *
 rw [this];exact hg
theorem lt_of_cell {w:World} {t:Addr} {v:Value} (h:w.cell? t=some v):t.block<w.heap.size:=by
 rcases Nat.lt_or_ge t.block w.heap.size with h' | h'
 · exact h'
 · simp [World.cell?,Array.getElem?_eq_none h'] at h
theorem as_fault (e t:Addr) (old:Value) (w:World) (hg:TypeVar w) (ht0:w.cell? t=some old) (hf0:w.frozen? t=false):
    Calls Tryz.prog 51 #[.iface 124 (.pointer (some e)),.iface 125 (.pointer (some t))] w fun ev w'=>ev=.returned (.bool true)/\w'=((((w.alloc (.cells #[.pointer (some t)] 125)).alloc (.cells #[hdl 125,.pointer (some ⟨w.heap.size,0,none⟩),.int .u64 150] 168)).alloc (.cells #[hdl 125,.pointer (some ⟨w.heap.size,0,none⟩),.int .u64 150] 168)).alloc (.cells #[.pointer (some e)] 124)).setCell t (.pointer (some e)):=by
 have hlt:=hg.lt
 unfold TypeVar at hg
 have h36:=@run_callFunc_extern Tryz.prog 73 _ (fun args=>ReflectliteValue.unpack (args.getD 0 (.tuple #[]))) Tryz.func73 (by kernel_rfl) (by kernel_rfl) (by kernel_rfl) (by kernel_rfl)
 have h37:=@run_callFunc_extern Tryz.prog 74 _ (ReflectliteValue.methodAny (ReflectliteValue.valueError "reflectlite.Value.Type" 0) (fun t _ _ _=>ReflectliteType.toType t)) Tryz.func74 (by kernel_rfl) (by kernel_rfl) (by kernel_rfl) (by kernel_rfl)
 have h38:=@run_callFunc_extern Tryz.prog 75 _ (ReflectliteValue.method (ReflectliteValue.valueError "reflectlite.Value.IsNil" 0) ReflectliteValue.isNil) Tryz.func75 (by kernel_rfl) (by kernel_rfl) (by kernel_rfl) (by kernel_rfl)
 have h113:=@run_callFunc_extern Tryz.prog 211 _ (ReflectliteType.abiMethod fun t=>do pure (.int .u8 (<- Rtype.kind t))) Tryz.func211 (by kernel_rfl) (by kernel_rfl) (by kernel_rfl) (by kernel_rfl)
 have h125:=@run_callFunc_extern Tryz.prog 224 _ (ReflectliteType.method ReflectliteType.elem) Tryz.func224 (by kernel_rfl) (by kernel_rfl) (by kernel_rfl) (by kernel_rfl)
 have h126:=@run_callFunc_extern Tryz.prog 225 _ (ReflectliteType.relation "Implements" ReflectliteType.implements_) Tryz.func225 (by kernel_rfl) (by kernel_rfl) (by kernel_rfl) (by kernel_rfl)
 have h45:=@run_callFunc_extern Tryz.prog 111 _ ReflectliteType.typeOf Tryz.func111 (by kernel_rfl) (by kernel_rfl) (by kernel_rfl) (by kernel_rfl)
 have h123:=@run_callFunc_extern Tryz.prog 222 _ (ReflectliteType.relation "AssignableTo" ReflectliteType.assignableTo) Tryz.func222 (by kernel_rfl) (by kernel_rfl) (by kernel_rfl) (by kernel_rfl)
 have h46:=@run_callFunc_extern Tryz.prog 112 _ (ReflectliteValue.method (ReflectliteValue.valueError "reflectlite.Value.Elem" 0) ReflectliteValue.elem) Tryz.func112 (by kernel_rfl) (by kernel_rfl) (by kernel_rfl) (by kernel_rfl)
 have h47:=@run_callFunc_extern Tryz.prog 113 _ ReflectliteValue.set Tryz.func113 (by kernel_rfl) (by kernel_rfl) (by kernel_rfl) (by kernel_rfl)
 have tO:=typeOf68
 have mA:=methodAssignableTo
 have a68:=assignable68
 have v68:=valueOf68
 have v69:=valueOf69
 have t69:=type69
 have mK:=methodKind
 have mE:=methodElem
 have mI:=methodImplements
 have k69:=kind69
 have k68:=kind68
 have e69:=elem69
 have i68:=implements68
 have n38:=isNil69 ⟨w.heap.size,0,none⟩ t ((w.alloc (.cells #[.pointer (some t)] 125)).alloc (.cells #[hdl 125,.pointer (some ⟨w.heap.size,0,none⟩),.int .u64 150] 168)) (by simp)
 have hg2:((w.alloc (.cells #[.pointer (some t)] 125)).alloc (.cells #[hdl 125,.pointer (some ⟨w.heap.size,0,none⟩),.int .u64 150] 168)).cell? ⟨0,0,none⟩=some (.iface 197 (.agg #[hdl 28])):=by
    rw [World.cell?_alloc_lt _ _ ⟨0,0,none⟩ (by simp),World.cell?_alloc_lt _ _ ⟨0,0,none⟩ hlt];exact hg
 have htl:=lt_of_cell ht0
 have el:=elemV69 ⟨w.heap.size,0,none⟩ t (((w.alloc (.cells #[.pointer (some t)] 125)).alloc (.cells #[hdl 125,.pointer (some ⟨w.heap.size,0,none⟩),.int .u64 150] 168)).alloc (.cells #[hdl 125,.pointer (some ⟨w.heap.size,0,none⟩),.int .u64 150] 168)) (by rw [World.cell?_alloc_lt _ _ ⟨w.heap.size,0,none⟩ (by simp;omega)];simp)
 have st:=set68 t ⟨w.heap.size+1+1+1,0,none⟩ e old ((((w.alloc (.cells #[.pointer (some t)] 125)).alloc (.cells #[hdl 125,.pointer (some ⟨w.heap.size,0,none⟩),.int .u64 150] 168)).alloc (.cells #[hdl 125,.pointer (some ⟨w.heap.size,0,none⟩),.int .u64 150] 168)).alloc (.cells #[.pointer (some e)] 124))
    (by rw [World.cell?_alloc_at _ _ _ _ (by simp)];rfl)
    (by rw [World.cell?_alloc_lt _ _ t (by simp;omega),World.cell?_alloc_lt _ _ t (by simp;omega),World.cell?_alloc_lt _ _ t (by simp;omega),World.cell?_alloc_lt _ _ t htl];exact ht0)
    (by rw [World.frozen?_alloc_old _ _ t (by simp;omega),World.frozen?_alloc_old _ _ t (by simp;omega),World.frozen?_alloc_old _ _ t (by simp;omega),World.frozen?_alloc_old _ _ t (Nat.ne_of_lt htl)];exact hf0)
 go_enter Tryz.func51,Tryz.ntmps51
 go_wp2
 refine wp_loop_rounds 1 ?_
 rw [rounds_succ]
 go_wp2
 go_ret
 exact ⟨rfl,rfl⟩
theorem place_any (fb:Nat) (p:Int) (ev:Value) (w:World) (hg:TypeVar w) (hfb:w.heap[fb]?=some (.cells #[.int .i64 p,ev] 127 (0,0))):
    Calls Tryz.prog 24 #[.iface 124 (.pointer (some ⟨fb,0,none⟩))] w fun e w'=>e=.returned (.int .i64 p)/\Below w.heap.size w w':=by
 have hc:w.cell? ⟨fb,0,none⟩=some (.int .i64 p):=by simp [World.cell?,hfb]
 have hlt:fb<w.heap.size:=lt_of_cell hc
 have hgA:TypeVar (w.alloc (.cells #[.pointer none] 124)):=by
    have:=hg.lt
    unfold TypeVar at *
    rw [World.cell?_alloc_lt _ _ ⟨0,0,none⟩ this];exact hg
 have htA:(w.alloc (.cells #[.pointer none] 124)).cell? ⟨w.heap.size,0,none⟩=some (.pointer none):=by simp
 have hfA:(w.alloc (.cells #[.pointer none] 124)).frozen? ⟨w.heap.size,0,none⟩=false:=by simp
 have hc5:∀ o1 o2 o3 o4 o5:Obj,(((((w.alloc o1).alloc o2).alloc o3).alloc o4).alloc o5).cell? ⟨fb,0,none⟩=some (.int .i64 p):=fun o1 o2 o3 o4 o5=>by
    rw [World.cell?_alloc_lt _ _ ⟨fb,0,none⟩ (by show fb<_;simp;omega),World.cell?_alloc_lt _ _ ⟨fb,0,none⟩ (by show fb<_;simp;omega),World.cell?_alloc_lt _ _ ⟨fb,0,none⟩ (by show fb<_;simp;omega),World.cell?_alloc_lt _ _ ⟨fb,0,none⟩ (by show fb<_;simp;omega),World.cell?_alloc_lt _ _ ⟨fb,0,none⟩ hlt];exact hc
 go_enter Tryz.func24,Tryz.ntmps24
 go_wp2_with (go_at_call 51;refine (as_fault _ _ (.pointer none) _ hgA htA hfA).mono ?_;rintro e w' ⟨rfl,rfl⟩)
 go_ret
 refine ⟨rfl,?_⟩
 repeat (first | exact Below.refl _ _ | refine Below.alloc ?_ (by simp;try omega) _)
theorem noAs68 (v:Value) (w:World):(Instr.typeAssert (.iface 124 v) 28 202 true).run Tryz.prog w=.ok (.tuple #[.nilIface,.bool false]) w:=run_typeAssert_lacksB Tryz.underlying202 (by kernel_rfl) (by kernel_rfl) v 28 w
theorem unwrap68 (v:Value) (w:World):(Instr.typeAssert (.iface 124 v) 28 205 true).run Tryz.prog w=.ok (.tuple #[.iface 124 v,.bool true]) w:=run_typeAssert_hasB Tryz.underlying205 (by kernel_rfl) v 28 w
theorem as_errno (fb:Nat) (t:Addr) (p n:Int) (old:Value) (w:World) (hg:TypeVar w) (ht0:w.cell? t=some old) (hf0:w.frozen? t=false)
    (hfb:w.heap[fb]?=some (.cells #[.int .i64 p,.iface 65 (.int .i64 n)] 127 (0,0))):
    Calls Tryz.prog 51 #[.iface 124 (.pointer (some ⟨fb,0,none⟩)),.iface 123 (.pointer (some t))] w fun ev w'=>ev=.returned (.bool true)/\w'=((((w.alloc (.cells #[.pointer (some t)] 123)).alloc (.cells #[hdl 123,.pointer (some ⟨w.heap.size,0,none⟩),.int .u64 150] 168)).alloc (.cells #[hdl 123,.pointer (some ⟨w.heap.size,0,none⟩),.int .u64 150] 168)).alloc (.cells #[.int .i64 n] 65)).setCell t (.int .i64 n):=by
 have hlt:=hg.lt
 unfold TypeVar at hg
 have h36:=@run_callFunc_extern Tryz.prog 73 _ (fun args=>ReflectliteValue.unpack (args.getD 0 (.tuple #[]))) Tryz.func73 (by kernel_rfl) (by kernel_rfl) (by kernel_rfl) (by kernel_rfl)
 have h37:=@run_callFunc_extern Tryz.prog 74 _ (ReflectliteValue.methodAny (ReflectliteValue.valueError "reflectlite.Value.Type" 0) (fun t _ _ _=>ReflectliteType.toType t)) Tryz.func74 (by kernel_rfl) (by kernel_rfl) (by kernel_rfl) (by kernel_rfl)
 have h38:=@run_callFunc_extern Tryz.prog 75 _ (ReflectliteValue.method (ReflectliteValue.valueError "reflectlite.Value.IsNil" 0) ReflectliteValue.isNil) Tryz.func75 (by kernel_rfl) (by kernel_rfl) (by kernel_rfl) (by kernel_rfl)
 have h113:=@run_callFunc_extern Tryz.prog 211 _ (ReflectliteType.abiMethod fun t=>do pure (.int .u8 (<- Rtype.kind t))) Tryz.func211 (by kernel_rfl) (by kernel_rfl) (by kernel_rfl) (by kernel_rfl)
 have h125:=@run_callFunc_extern Tryz.prog 224 _ (ReflectliteType.method ReflectliteType.elem) Tryz.func224 (by kernel_rfl) (by kernel_rfl) (by kernel_rfl) (by kernel_rfl)
 have h126:=@run_callFunc_extern Tryz.prog 225 _ (ReflectliteType.relation "Implements" ReflectliteType.implements_) Tryz.func225 (by kernel_rfl) (by kernel_rfl) (by kernel_rfl) (by kernel_rfl)
 have h45:=@run_callFunc_extern Tryz.prog 111 _ ReflectliteType.typeOf Tryz.func111 (by kernel_rfl) (by kernel_rfl) (by kernel_rfl) (by kernel_rfl)
 have h123:=@run_callFunc_extern Tryz.prog 222 _ (ReflectliteType.relation "AssignableTo" ReflectliteType.assignableTo) Tryz.func222 (by kernel_rfl) (by kernel_rfl) (by kernel_rfl) (by kernel_rfl)
 have h46:=@run_callFunc_extern Tryz.prog 112 _ (ReflectliteValue.method (ReflectliteValue.valueError "reflectlite.Value.Elem" 0) ReflectliteValue.elem) Tryz.func112 (by kernel_rfl) (by kernel_rfl) (by kernel_rfl) (by kernel_rfl)
 have h47:=@run_callFunc_extern Tryz.prog 113 _ ReflectliteValue.set Tryz.func113 (by kernel_rfl) (by kernel_rfl) (by kernel_rfl) (by kernel_rfl)
 have tO:=typeOf68
 have tO2:=typeOf35
 have mA:=methodAssignableTo
 have a35:=assignable35
 have a6835:=assignable6835
 have mU:=methodUnwrap
 have v35:=valueOf35
 have v67:=valueOf67
 have t67:=type67
 have mK:=methodKind
 have mE:=methodElem
 have mI:=methodImplements
 have k67:=kind67
 have k35:=kind35
 have e67:=elem67
 have i35:=implements35
 have n38:=isNil67 ⟨w.heap.size,0,none⟩ t ((w.alloc (.cells #[.pointer (some t)] 123)).alloc (.cells #[hdl 123,.pointer (some ⟨w.heap.size,0,none⟩),.int .u64 150] 168)) (by simp)
 have hg2:((w.alloc (.cells #[.pointer (some t)] 123)).alloc (.cells #[hdl 123,.pointer (some ⟨w.heap.size,0,none⟩),.int .u64 150] 168)).cell? ⟨0,0,none⟩=some (.iface 197 (.agg #[hdl 28])):=by
    rw [World.cell?_alloc_lt _ _ ⟨0,0,none⟩ (by simp),World.cell?_alloc_lt _ _ ⟨0,0,none⟩ hlt];exact hg
 have htl:=lt_of_cell ht0
 have el:=elemV67 ⟨w.heap.size,0,none⟩ t (((w.alloc (.cells #[.pointer (some t)] 123)).alloc (.cells #[hdl 123,.pointer (some ⟨w.heap.size,0,none⟩),.int .u64 150] 168)).alloc (.cells #[hdl 123,.pointer (some ⟨w.heap.size,0,none⟩),.int .u64 150] 168)) (by rw [World.cell?_alloc_lt _ _ ⟨w.heap.size,0,none⟩ (by simp;omega)];simp)
 have st:=set35 t ⟨w.heap.size+1+1+1,0,none⟩ n old ((((w.alloc (.cells #[.pointer (some t)] 123)).alloc (.cells #[hdl 123,.pointer (some ⟨w.heap.size,0,none⟩),.int .u64 150] 168)).alloc (.cells #[hdl 123,.pointer (some ⟨w.heap.size,0,none⟩),.int .u64 150] 168)).alloc (.cells #[.int .i64 n] 65))
    (by rw [World.cell?_alloc_at _ _ _ _ (by simp)];rfl)
    (by rw [World.cell?_alloc_lt _ _ t (by simp;omega),World.cell?_alloc_lt _ _ t (by simp;omega),World.cell?_alloc_lt _ _ t (by simp;omega),World.cell?_alloc_lt _ _ t htl];exact ht0)
    (by rw [World.frozen?_alloc_old _ _ t (by simp;omega),World.frozen?_alloc_old _ _ t (by simp;omega),World.frozen?_alloc_old _ _ t (by simp;omega),World.frozen?_alloc_old _ _ t (Nat.ne_of_lt htl)];exact hf0)
 have nA:=noAs68
 have yU:=unwrap68
 have hc1:w.cell? ⟨fb,1,none⟩=some (.iface 65 (.int .i64 n)):=by simp [World.cell?,hfb]
 have hfl:fb<w.heap.size:=lt_of_cell hc1
 have hc3:∀ o1 o2 o3:Obj,(((w.alloc o1).alloc o2).alloc o3).cell? ⟨fb,1,none⟩=some (.iface 65 (.int .i64 n)):=fun o1 o2 o3=>by
    rw [World.cell?_alloc_lt _ _ ⟨fb,1,none⟩ (by show fb<_;simp;omega),World.cell?_alloc_lt _ _ ⟨fb,1,none⟩ (by show fb<_;simp;omega),World.cell?_alloc_lt _ _ ⟨fb,1,none⟩ hfl];exact hc1
 clear hc1 hfb
 go_enter Tryz.func51,Tryz.ntmps51
 go_wp2
 refine wp_loop_rounds 2 ?_
 rw [rounds_succ]
 go_wp2
 rw [rounds_succ]
 go_wp2
 go_ret
 exact ⟨rfl,rfl⟩
theorem number_any (fb:Nat) (p n:Int) (w:World) (hg:TypeVar w) (hfb:w.heap[fb]?=some (.cells #[.int .i64 p,.iface 65 (.int .i64 n)] 127 (0,0))):
    Calls Tryz.prog 23 #[.iface 124 (.pointer (some ⟨fb,0,none⟩))] w fun e w'=>e=.returned (.int .i64 n)/\Below w.heap.size w w':=by
 have hlt:fb<w.heap.size:=lt_of_block hfb
 have hgA:TypeVar (w.alloc (.cells #[.int .i64 0] 65)):=by
    have:=hg.lt
    unfold TypeVar at *
    rw [World.cell?_alloc_lt _ _ ⟨0,0,none⟩ this];exact hg
 have htA:(w.alloc (.cells #[.int .i64 0] 65)).cell? ⟨w.heap.size,0,none⟩=some (.int .i64 0):=by simp
 have hfA:(w.alloc (.cells #[.int .i64 0] 65)).frozen? ⟨w.heap.size,0,none⟩=false:=by simp
 have hbA:(w.alloc (.cells #[.int .i64 0] 65)).heap[fb]?=some (.cells #[.int .i64 p,.iface 65 (.int .i64 n)] 127 (0,0)):=by rw [Below.heap_alloc _ _ _ hlt];exact hfb
 clear hfb
 go_enter Tryz.func23,Tryz.ntmps23
 go_wp2_with (go_at_call 51;refine (as_errno fb _ p n (.int .i64 0) _ hgA htA hfA hbA).mono ?_;rintro e w' ⟨rfl,rfl⟩)
 go_ret
 refine ⟨rfl,?_⟩
 repeat (first | exact Below.refl _ _ | refine Below.alloc ?_ (by simp;try omega) _)
end Go.Proofs.YtlepckjmdjjolaaGreatDoor
