/- Own texts laid together: WNums. Conditions: as each theorem says. -/
import Derived.Test.YtlepckjmdjjolaaGreatDoorGMakeZ
import Derived.Test.YtlepckjmdjjolaaGreatDoorIntsFrame
set_option linter.unusedVariables false
set_option linter.unusedSimpArgs false
namespace Go.Proofs.YtlepckjmdjjolaaGreatDoor
open Go.ChangeShapes Go.WideShapes Go.ChangeAt Go.RowKit
def byteL (zs:List Int):List UInt8:=zs.map fun z=>UInt8.ofNat z.toNat
theorem u8_wf {z:Int} (h:(Lit.int .u8 z).wf=true):0<=z/\z<256:=by
 simp [Lit.wf] at h
 have h1:IntKind.u8.min=0:=rfl
 have h2:IntKind.u8.max=255:=rfl
 omega
theorem nsAt_of_ints {w:World} {v:Value} {zs:List Int} (h:IntsAt w .u8 v zs) (hz:∀ n ∈ zs,(Lit.int .u8 n).wf=true) (m:Nat) (hm:m<=zs.length):
    ∃ ao cap,v=.slice ao zs.length cap/\zs.length<=cap/\NsAt w.heap.size w (.slice ao m cap) ((byteL zs).take m):=by
 obtain ⟨ao,cap,rfl,hc,hcm,hl,hi⟩:=h
 refine ⟨ao,cap,rfl,hc,ao,cap,by simp [byteL];omega,by simp [byteL];omega,by unfold maxLen at hcm;omega,fun i x hx=>?_⟩
 have him:i<m:=by
    rcases Nat.lt_or_ge i m with h | h
    · exact h
    · rw [List.getElem?_eq_none (by simp;omega)] at hx;cases hx
 obtain ⟨b,off,rfl,hb,hcell⟩:=hi i (by omega)
 refine ⟨b,off,rfl,hb,?_⟩
 have hx':(byteL zs)[i]?=some x:=by rw [List.getElem?_take,if_pos him] at hx;exact hx
 have hiz:i<zs.length:=by omega
 simp [byteL,hiz] at hx'
 have hw:=u8_wf (hz zs[i] (List.getElem_mem hiz))
 have hg:zs.getD i 0=zs[i]:=by simp [hiz]
 rw [hcell,hg,<- hx']
 congr 2
 simp
 omega
end Go.Proofs.YtlepckjmdjjolaaGreatDoor
