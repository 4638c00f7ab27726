/- What the cards' listed variables give the walks of stage 7, and a world that meets the list. Conditions: as each theorem says. -/
import Derived.Test.YtlepckjmdjjolaaGreatDoorCards
import Derived.Test.YtlepckjmdjjolaaGreatDoorTie
import Derived.Test.YtlepckjmdjjolaaGreatDoorGLxB
import Derived.Test.YtlepckjmdjjolaaGreatDoorGErrAll
import Derived.Test.YtlepckjmdjjolaaGreatDoorIntsFrame
import Derived.ChangeSame
import Derived.ChangeVars
import Derived.JoinedOf
import Derived.RowKit
import Derived.RowKitTokens
import Derived.LaidLaws
import Derived.LaidHandle
import Derived.Stop.LaidErr
import Derived.LaidMore
import Derived.SizedLaws
namespace Go.Proofs.YtlepckjmdjjolaaGreatDoor
open Go.ChangeShapes Go.WideShapes Go.ChangeAt Go.RowKit
theorem Tryz.own:ownKnob Tryz.prog.godebug=none:=by kernel_rfl
theorem Tryz.laidOut:laidOutB Tryz.prog=true:=by kernel_rfl
theorem gType:Tryz.prog.globalNamed "errors.errorType" = some 0:=by kernel_rfl
theorem gRange:Tryz.prog.globalNamed "strconv.ErrRange" = some 3:=by kernel_rfl
theorem tRange:(Tryz.prog.globals[3]?).map (·.type)=some 28:=by kernel_rfl
theorem errorRow:((List.range 301).filter fun t=>Tryz.prog.rowNamed t [101,114,114,111,114])=[28]:=by kernel_rfl
theorem typesSize:Tryz.prog.types.size=301:=by kernel_rfl
abbrev laidAll:List (String × DataW Unit):=Rows.flowTakesRow.laid
theorem vars_of_laid {W:World} (h:laidMetH Tryz.prog laidAll W):Lx.Vars W/\TypeVar W:=by
 have h':laidMet Tryz.prog (laidAll.filter fun x=>x.2.handleName?.isNone) W/\handlesMet Tryz.prog (laidAll.filter fun x=>x.2.handleName?.isSome) W:=h
 refine ⟨?_,?_⟩
 · obtain ⟨ps,⟨g0,t0,cs0,f0,p0,q0,hg0,ht0,hv0,hd0,_⟩,_⟩:=h'.1.tail.tail.tail
   obtain rfl:=Option.some.inj (gRange.symm.trans hg0)
   obtain rfl:=Option.some.inj (tRange.symm.trans ht0)
   obtain ⟨_,u,v,hcs,_⟩:=iface_of_trod Tryz.underlying28 hd0
   obtain ⟨l⟩:=cs0
   simp only at hcs
   subst hcs
   exact ⟨u,v,by simpa using World.var?_cell gRange hv0 0⟩
 · obtain ⟨name,u,ty,e1,e2,e3,e4,e5⟩:=h'.2 _ (List.mem_singleton.2 rfl)
   have en:name=[101,114,114,111,114]:=(Option.some.inj e1).symm
   subst en
   obtain rfl:u=197:=Option.some.inj (e2.symm.trans (by kernel_rfl))
   have hm:ty ∈ (List.range 301).filter fun t=>Tryz.prog.rowNamed t [101,114,114,111,114]:=List.mem_filter.2 ⟨List.mem_range.2 (by rw [<- typesSize];exact e3),e4⟩
   rw [errorRow] at hm
   obtain rfl:=List.mem_singleton.1 hm
   rw [handle23] at e5
   unfold TypeVar
   simpa using World.var?_cell gType e5 0
abbrev doorSteps:Nat:=69
theorem door_met (os:Os) (args:Array Value):laidMetH Tryz.prog laidAll ((World.doorLaid Tryz.prog doorSteps os).forCall (fun _ _=>0) ⟨#[],args,[]⟩).memory:=
 laidMetH_of_parts3 (fuel:=8) (laidMet_of_run' 8 (by kernel_rfl) (by kernel_rfl)) (by kernel_rfl) (by kernel_rfl)
end Go.Proofs.YtlepckjmdjjolaaGreatDoor
