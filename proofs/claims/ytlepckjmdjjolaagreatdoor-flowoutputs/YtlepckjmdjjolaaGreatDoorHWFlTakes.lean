/- The walk of FlowTakes: on every list of numbers it returns true. Conditions: lex's variables, and that of errors, are as they are laid. -/
import Derived.Test.YtlepckjmdjjolaaGreatDoorGFlD
import Derived.Test.YtlepckjmdjjolaaGreatDoorGFlN
import Derived.Test.YtlepckjmdjjolaaGreatDoorGFlM
import Derived.Test.YtlepckjmdjjolaaGreatDoorGMakeZ
import Derived.Test.YtlepckjmdjjolaaGreatDoorGWMadeA
import Derived.Test.YtlepckjmdjjolaaGreatDoorGWSmall
import Derived.Test.YtlepckjmdjjolaaGreatDoorIntsFrame
set_option maxHeartbeats 4000000
set_option maxRecDepth 100000
namespace Go.Proofs.YtlepckjmdjjolaaGreatDoor.Fl
open Go.ChangeShapes Go.WideShapes Go.ChangeAt Go.RowKit
set_option linter.unusedVariables false
set_option linter.unusedSimpArgs false
theorem ns_later {w w':World} {v:Value} {ns:List UInt8} (h:NsAt w.heap.size w v ns) (hb:Below w.heap.size w w'):NsAt w'.heap.size w' v ns:=by
 obtain ⟨a,b,c,d,e,f⟩:=h.on hb.block
 exact ⟨a,b,c,d,e,fun i x hx=>by obtain ⟨g,off,h1,h2,h3⟩:=f i x hx;exact ⟨g,off,h1,by have:=hb.size;omega,h3⟩⟩
theorem small_made (ns:List UInt8) (h:ns.length<=300):(makeM ns).decls.length+cntT 5 (makeM ns).threads<=900000/\∀ ss ∈ (makeM ns).threads,∀ s ∈ ss,nmS 13 5 s:=by
 have hg:=Pr.made_gP ns
 have hl:=made_len 5 ns h
 have h2:=cnt_prog hg
 have h3:=hg.dl
 exact ⟨by unfold cntT;omega,nm_prog hg hl (by omega)⟩
theorem lbl_made (ns:List UInt8):(makeM ns).decls.map (lbl 1)=(makeM ns).decls:=by
 have e:(makeM ns).decls=declsK (1+nxV ns 3):=threads_decls _ _
 rw [e,lbl_one]
theorem made_for {v0:Value} {zs0:List Int} {w:World} (h0:IntsAt w .u8 v0 zs0) (z0:∀ n ∈ zs0,(Lit.int .u8 n).wf=true) (n0:zs0.length*1<=140737488351232):
 ∃ ns:List UInt8,ns.length<=300/\∀ w',Below w.heap.size w w'->Calls Tryz.prog 14 #[v0] w' fun e w2=>∃ dv tv,e=.returned (.agg #[dv,tv])/\Dcls w'.heap.size w2.heap.size w2 dv (makeM ns).decls/\Thrs w'.heap.size w2.heap.size 13 5 w2 tv (makeM ns).threads/\Below w'.heap.size w' w2:=by
 obtain ⟨m,hm,hm2⟩:∃ m,m=min zs0.length 300/\m<=zs0.length:=⟨_,rfl,by omega⟩
 obtain ⟨ao,cap,rfl,hlc,hN⟩:=nsAt_of_ints h0 z0 m hm2
 exact ⟨(byteL zs0).take m,by rw [List.length_take];omega,fun w' hb=>make_any ao zs0.length cap m ((byteL zs0).take m) w' (ns_later hN hb) (by omega) (by omega) hlc (by omega)⟩
theorem takes_walk (v0:Value) (zs0:List Int) (w:World) (h0:IntsAt w .u8 v0 zs0) (z0:∀ n ∈ zs0,(Lit.int .u8 n).wf=true) (n0:zs0.length*1<=140737488351232) (hV:Lx.Vars w) (hTV:TypeVar w):
 Calls Tryz.prog 5 #[v0] w fun e w'=>e=.returned (.bool true)/\Below w.heap.size w w':=by
 have HA:=awake_any w hV hTV
 obtain ⟨ns,hl,HM⟩:=made_for h0 z0 n0
 obtain ⟨hk,hn⟩:=small_made ns hl
 have hck:checkP 13 5 (makeM ns)=none:=by
  have:=made_check (.inr rfl:(1:Int)=0\/(1:Int)=1) ns
  rw [lbl_made] at this
  exact this
 have PC:=fun (dv tv:Value) (w1:World) (D:Dcls 0 w1.heap.size w1 dv (makeM ns).decls) (T:Thrs 0 w1.heap.size 13 5 w1 tv (makeM ns).threads)=>check_any D T hk hn
 rw [hck] at PC
 clear hk hn hck h0 hV hTV
 go_enter Tryz.func5,Tryz.ntmps5
 go_wp2_with (first
  | (go_at_call 16;refine (PC _ _ _ (dcls_zero D2) (thrs_zero T2)).mono ?_;rintro e w3 ⟨hb3,rfl⟩)
  | (go_at_call 14;refine (HM _ hb1).mono ?_;rintro e w2 ⟨dv,tv,rfl,D2,T2,hb2⟩)
  | (go_at_call 11;refine HA.mono ?_;rintro e w1 ⟨rfl,hb1⟩))
 go_ret
 have h02:=hb1.trans (hb2.mono hb1.size)
 exact ⟨rfl,h02.trans (hb3.mono h02.size)⟩
end Go.Proofs.YtlepckjmdjjolaaGreatDoor.Fl
