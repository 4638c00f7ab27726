/- Lists of statements that are copied and made longer by one; a thread's row that is written over. Conditions: as each theorem says. -/
import Derived.Test.YtlepckjmdjjolaaGreatDoorHRegOld
import Derived.Test.YtlepckjmdjjolaaGreatDoorHWFlPub
import Derived.Deep.AppendLies
import Derived.Laws.AppendOwnNone
namespace Go.Proofs.YtlepckjmdjjolaaGreatDoor.Fl
open Go.ChangeShapes Go.WideShapes Go.ChangeAt Go.RowKit
set_option linter.unusedVariables false
set_option linter.unusedSimpArgs false
def SrcAt (w:World) (sz:Nat) (v:Value) (n:Nat) (xs:List Value):Prop:=
 xs.length=n*sz/\(∀ u ∈ xs,u.oneCell'=true)/\((v=.slice none 0 0/\n=0) \/ ∃ g off c,v=.slice (some ⟨g,off,none⟩) n c/\∀ j u,xs[j]?=some u->w.cell? ⟨g,off+j,none⟩=some u)
theorem wp_copy {w:World} {o:Oper} {a:Act} {K:Act->World->Prop} {Q:Exit->Act->World->Prop} (s x:Operand) (t:TypeId)
    (ho:o.op=.call { callee:=.builtin .append,args:=#[s,x],argTypes:=#[t,t] })
    (base:Nat) (e:TypeId) (i:TypeInfo) (z:Value) (size bytes:Nat) (ht:Tryz.prog.underlying t=some (.slice e)) (hi:Tryz.prog.info? e=some i) (hz:i.zero=some z)
    (hsize:i.size=size) (hby:i.bytes=bytes) (hzs:z.cells.size=size) (hsz:0<size) (hs:a.eval s=.slice none 0 0) (v:Value) (n:Nat) (xs:List Value) (hx:a.eval x=v) (hv:SrcAt w size v n xs)
    (h63:n<=maxLen) (hbytes:n*bytes<=140737488355328) (hbase:base<=w.heap.size)
    (h:∀ v' w',w'.ownsRow base e size v' n xs->w.grownBy w' none->K (a.put o.dst v') w'):o.wp Tryz.prog a w K Q:=by
 obtain ⟨hl,h1,hc⟩:=hv
 rcases hc with ⟨rfl,rfl⟩ | ⟨g,off,c,rfl,hcell⟩
 · have hown:w.ownsRow base e size (.slice none 0 0) 0 []:=World.ownsRow_nil _ _ _ _
   have hrun:=run_append_owned_none (P:=Tryz.prog) (w:=w) base t o.type e i size ht hi _ _ _ hown
   have hx0:xs=[]:=List.length_eq_zero_iff.1 (by omega)
   subst hx0
   unfold Oper.wp
   simp [execOp,ho,resolve,invoke,builtin,hs,hx,hrun,Result.andThen]
   exact h _ _ hown ⟨rfl,rfl,rfl,Nat.le_refl _,fun _ _ _=>rfl⟩
 · obtain ⟨v',w',hr,h2,h3,h4,h5⟩:=run_append_own_at (P:=Tryz.prog) w base t o.type e i z size bytes ht hi hz hsize hby hzs hsz (.slice none 0 0) 0 [] (World.ownsRow_nil _ _ _ _) ⟨g,off,none⟩ n c xs hl (fun j u hu=>by first | (rw [Addr.add_lit];exact hcell j u hu) | (rw [add_plain];exact hcell j u hu)) h1 (by omega) (by rw [Nat.zero_add];exact hbytes) hbase
   unfold Oper.wp execOp
   simp only [ho,resolve,invoke,builtin,Sem.run_bind,Sem.run_pure,Result.andThen_ok,List.map_toArray,List.map_cons,List.map_nil,hs,hx,hr]
   exact h v' w' (by simpa using h2) h3
theorem own_keepB {w w':World} {B:Nat} {e:TypeId} {sz n:Nat} {v:Value} {xs:List Value} (h:w.ownsRow B e sz v n xs) (hb:Below w.heap.size w w'):w'.ownsRow B e sz v n xs:=by
 refine ⟨h.1,?_⟩
 rcases h.2 with hn | ⟨g,cap,cur,rfl,h0,hgg,rest⟩
 · exact .inl hn
 · exact .inr ⟨g,cap,cur,rfl,h0,(hb.block g (heap_lt hgg)).trans hgg,rest⟩
theorem below_none {w w':World} (h:w.grownBy w' none):Below w.heap.size w w':=⟨h.os,h.tape,h.output,h.size,fun k hk=>h.block k hk (by simp)⟩
theorem stms_src {B n:Nat} {w:World} {v:Value} {ss:List Stm} (h:Stms 0 B w (fun v' s'=>SRep 0 B w 13 n v' s') v ss) (hne:1<=ss.length):
    ∃ xs,SrcAt w 7 v ss.length xs/\(∀ i s,ss[i]?=some s->∃ u,Cells7 xs i u/\SRep 0 B w 13 n u s)/\∃ g cap,v=.slice (some ⟨g,0,none⟩) ss.length cap/\g<B:=by
 obtain ⟨ao,cap,rfl,hl,hr⟩:=h
 obtain ⟨s0,h0⟩:∃ s,ss[0]?=some s:=⟨ss[0]'(by omega),by simp⟩
 obtain ⟨g,off,_,_,_,_,_,_,_,rfl,_,hg,⟨cs,fr,hc,_,rfl⟩,_⟩:=hr 0 s0 h0
 have key:∀ i s,ss[i]?=some s->∃ c0 c1 c2 c3 c4 c5 c6,w.cell? ⟨g,i*7,none⟩=some c0/\w.cell? ⟨g,i*7+1,none⟩=some c1/\w.cell? ⟨g,i*7+2,none⟩=some c2/\w.cell? ⟨g,i*7+3,none⟩=some c3/\w.cell? ⟨g,i*7+4,none⟩=some c4/\w.cell? ⟨g,i*7+5,none⟩=some c5/\w.cell? ⟨g,i*7+6,none⟩=some c6/\SRep 0 B w 13 n (.agg #[c0,c1,c2,c3,c4,c5,c6]) s:=fun i s hs=>by
    obtain ⟨g',off',c0,c1,c2,c3,c4,c5,c6,e,_,_,_,i0,i1,i2,i3,i4,i5,i6,hS⟩:=hr i s hs
    cases e
    simp only [Nat.zero_add] at i0 i1 i2 i3 i4 i5 i6
    exact ⟨c0,c1,c2,c3,c4,c5,c6,i0,i1,i2,i3,i4,i5,i6,hS⟩
 have hx:∀ j,j<ss.length*7->((List.range (ss.length*7)).map fun j=>(w.cell? ⟨g,j,none⟩).getD undef)[j]?=some ((w.cell? ⟨g,j,none⟩).getD undef):=fun j hj=>by
    simp [List.getElem?_map,List.getElem?_range hj]
 have hcell:∀ j,j<ss.length*7->∃ u,w.cell? ⟨g,j,none⟩=some u/\u.oneCell'=true:=by
    intro j hj
    obtain ⟨i,r,hjr,hr7⟩:∃ i r,j=i*7+r/\r<7:=⟨j / 7,j % 7,by omega,by omega⟩
    subst hjr
    obtain ⟨s,hs⟩:∃ s,ss[i]?=some s:=⟨ss[i]'(by omega),by simp⟩
    obtain ⟨c0,c1,c2,c3,c4,c5,c6,i0,i1,i2,i3,i4,i5,i6,hS⟩:=key i s hs
    cases n with
    | zero=>exact hS.elim
    | succ n=>
    obtain ⟨_,_,_,eao,ecap,bao,bcap,lao,lcap,hv,_⟩:=hS
    simp only [Value.agg.injEq,Array.mk.injEq,List.cons.injEq,and_true] at hv
    obtain ⟨rfl,rfl,rfl,rfl,rfl,rfl,rfl⟩:=hv
    rcases (show r=0\/r=1\/r=2\/r=3\/r=4\/r=5\/r=6 by omega) with rfl | rfl | rfl | rfl | rfl | rfl | rfl
    · exact ⟨_,i0,rfl⟩
    · exact ⟨_,i1,rfl⟩
    · exact ⟨_,i2,rfl⟩
    · exact ⟨_,i3,rfl⟩
    · exact ⟨_,i4,rfl⟩
    · exact ⟨_,i5,rfl⟩
    · exact ⟨_,i6,rfl⟩
 refine ⟨(List.range (ss.length*7)).map fun j=>(w.cell? ⟨g,j,none⟩).getD undef,⟨by simp,fun u hu=>?_,.inr ⟨g,0,cap,rfl,fun j u hu=>?_⟩⟩,fun i s hs=>?_,g,cap,rfl,hg⟩
 · obtain ⟨j,hj,rfl⟩:=List.mem_map.1 hu
   obtain ⟨u,h1,h2⟩:=hcell j (List.mem_range.1 hj)
   rw [h1];exact h2
 · have hj:j<ss.length*7:=by
    have:=(List.getElem?_eq_some_iff.1 hu).1
    simpa using this
   rw [hx j hj] at hu
   obtain ⟨u',h1,_⟩:=hcell j hj
   rw [h1] at hu
   cases hu
   rw [Nat.zero_add];exact h1
 · obtain ⟨c0,c1,c2,c3,c4,c5,c6,i0,i1,i2,i3,i4,i5,i6,hS⟩:=key i s hs
   have hi:=(List.getElem?_eq_some_iff.1 hs).1
   refine ⟨_,⟨c0,c1,c2,c3,c4,c5,c6,?_,?_,?_,?_,?_,?_,?_,rfl⟩,hS⟩
   · rw [hx _ (by omega),i0];rfl
   · rw [hx _ (by omega),i1];rfl
   · rw [hx _ (by omega),i2];rfl
   · rw [hx _ (by omega),i3];rfl
   · rw [hx _ (by omega),i4];rfl
   · rw [hx _ (by omega),i5];rfl
   · rw [hx _ (by omega),i6];rfl
theorem own_zero {w:World} {lo sz n:Nat} {t:TypeId} {v:Value} {xs:List Value} (h:w.ownsRow lo t sz v n xs):w.ownsRow 0 t sz v n xs:=by
 refine ⟨h.1,?_⟩
 rcases h.2 with hn | ⟨g,cap,cur,rfl,hb,rest⟩
 · exact .inl hn
 · exact .inr ⟨g,cap,cur,rfl,Nat.zero_le _,rest⟩
theorem row_more {B n lo a b:Nat} {w wz:World} {ss:List Stm} {x:Stm} {xs:List Value} {v2 c0 c1 c2 c3 c4 c5 c6:Value} (hrow:wz.ownsRow lo 45 7 v2 (ss.length+1) (xs++[c0,c1,c2,c3,c4,c5,c6])) (hxl:xs.length=ss.length*7)
    (hcells:∀ i s,ss[i]?=some s->∃ u,Cells7 xs i u/\SRep 0 B w 13 n u s) (hb:Below B w wz) (hBl:B<=lo) (hlo:lo<=wz.heap.size) (hb2:b<=wz.heap.size) (hsep:∀ g,v2.ownBlock=some g->g<a\/b<=g) (hx:SRep a b wz 13 n (.agg #[c0,c1,c2,c3,c4,c5,c6]) x):
    StRow 0 n wz v2 (ss++[x]):=by
 refine ⟨xs++[c0,c1,c2,c3,c4,c5,c6],by rw [List.length_append];exact own_zero hrow,Nat.zero_le _,fun i s hs=>?_⟩
 by_cases hi:i<ss.length
 · rw [List.getElem?_append_left hi] at hs
   obtain ⟨u,hu,hS⟩:=hcells i s hs
   exact ⟨0,B,u,cells7_left hu,Nat.zero_le _,by omega,fun g hg=>.inr (by have:=(hrow.lt g hg).1;omega),hS.on hb⟩
 · rw [List.getElem?_append_right (by omega)] at hs
   have hi2:i=ss.length:=by
    have:=(List.getElem?_eq_some_iff.1 hs).1
    simp at this
    omega
   subst hi2
   simp at hs
   subst hs
   refine ⟨a,b,_,⟨c0,c1,c2,c3,c4,c5,c6,?_,?_,?_,?_,?_,?_,?_,rfl⟩,Nat.zero_le _,hb2,hsep,hx⟩
   all_goals
    rw [List.getElem?_append_right (by omega),hxl]
    simp [Nat.add_sub_cancel_left]
theorem thrs_put {m n tcap:Nat} {w:World} {tao:Option Addr} {ts:List (List Stm)} (h:Thrs 0 w.heap.size m n w (.slice tao ts.length tcap) ts) {k:Nat} {s0:List Stm} (hk:ts[k]?=some s0):
    ∃ g off a0 c0,tao=some ⟨g,off,none⟩/\g<w.heap.size/\(∃ cs,w.heap[g]?=some (.cells cs 40 (0,0)))/\w.cell? ⟨g,off+k,none⟩=some (.slice a0 s0.length c0)/\Stms 0 w.heap.size w (fun v' s'=>SRep 0 w.heap.size w m n v' s') (.slice a0 s0.length c0) s0 /\
      ∀ (a1:Option Addr) (c1:Nat) (s1:List Stm),Stms 0 w.heap.size w (fun v' s'=>SRep 0 w.heap.size w m n v' s') (.slice a1 s1.length c1) s1 ->
        Thrs 0 w.heap.size m n (w.setCell ⟨g,off+k,none⟩ (.slice a1 s1.length c1)) (.slice tao ts.length tcap) (ts.set k s1):=by
 obtain ⟨ao,cap,e,hl,hr⟩:=h
 cases e
 obtain ⟨g,off,a0,c0,rfl,_,hg,⟨cs,fr,hc,rfl⟩,h0,hS0⟩:=hr k s0 hk
 refine ⟨g,off,a0,c0,rfl,hg,⟨cs,hc⟩,h0,hS0,fun a1 c1 s1 hS1=>?_⟩
 have k45:TSame 45 w (w.setCell ⟨g,off+k,none⟩ (.slice a1 s1.length c1)):=TSame.of_set hc (by decide) _ _
 have k35:TSame 50 w (w.setCell ⟨g,off+k,none⟩ (.slice a1 s1.length c1)):=TSame.of_set hc (by decide) _ _
 have carry:∀ {v:Value} {ss:List Stm},Stms 0 w.heap.size w (fun v' s'=>SRep 0 w.heap.size w m n v' s') v ss->Stms 0 w.heap.size (w.setCell ⟨g,off+k,none⟩ (.slice a1 s1.length c1)) (fun v' s'=>SRep 0 w.heap.size (w.setCell ⟨g,off+k,none⟩ (.slice a1 s1.length c1)) m n v' s') v ss:=fun h=>
    h.carry (Nat.le_refl _) (Nat.le_refl _) (k45.s45 _ _) fun _ _ hr=>hr.carry (Nat.le_refl _) (Nat.le_refl _) (k35.s35 _ _) (k45.s45 _ _)
 refine ⟨_,tcap,by rw [List.length_set],by rw [List.length_set];exact hl,fun i ss hs=>?_⟩
 by_cases hik:i=k
 · subst hik
   have hlt:=(List.getElem?_eq_some_iff.1 hk).1
   rw [List.getElem?_set_self hlt] at hs
   cases hs
   exact ⟨g,off,a1,c1,rfl,Nat.zero_le _,hg,⟨_,_,set_heap hc _ _,rfl⟩,cell_set_eq h0 _,carry hS1⟩
 · rw [List.getElem?_set_ne (fun e=>hik e.symm)] at hs
   obtain ⟨g',off',ta,tc,e',_,_,_,q0,q1⟩:=hr i ss hs
   cases e'
   exact ⟨g,off,ta,tc,rfl,Nat.zero_le _,hg,⟨_,_,set_heap hc _ _,rfl⟩,(cell_set_ne (by omega) _).trans q0,carry q1⟩
theorem SrcAt.on {w w':World} {sz n:Nat} {v:Value} {xs:List Value} (h:SrcAt w sz v n xs) (hb:Below w.heap.size w w') (hlt:∀ g,v.ownBlock=some g->g<w.heap.size):SrcAt w' sz v n xs:=by
 obtain ⟨x1,x2,x3⟩:=h
 refine ⟨x1,x2,x3.imp id ?_⟩
 rintro ⟨gs,off,c,rfl,hc⟩
 exact ⟨gs,off,c,rfl,fun j u hu=>(World.cell?_of_block (hb.block gs (hlt _ rfl))).trans (hc j u hu)⟩
structure RG where
 v1:Value
 q:Nat
 gg:Nat
 cap:Nat
def rInv (W0:World) (m:Nat) (xs news:List Value) (l4 l6 l7:Bool) (g:RG) (w:World):Prop:=
 Below W0.heap.size W0 w/\(l4=true->l7=false->w.ownsRow W0.heap.size 45 7 g.v1 m xs)/\(l6=true->l7=false->w.heap[g.q]?=some (.cells news.toArray 45 (0,0)))/\(l7=true->w.ownsRow W0.heap.size 45 7 (.slice (some ⟨g.gg,0,none⟩) (m+1) g.cap) (m+1) (xs++news))
theorem rInv.below {W0 w w':World} {m:Nat} {xs news:List Value} {l4 l6 l7:Bool} {g:RG} (h:rInv W0 m xs news l4 l6 l7 g w) (hb:Below w.heap.size w w'):rInv W0 m xs news l4 l6 l7 g w':=by
 obtain ⟨a1,a3,a4,a5⟩:=h
 exact ⟨a1.trans (hb.mono a1.size),fun x y=>own_keepB (a3 x y) hb,fun x y=>(hb.block _ (heap_lt (a4 x y))).trans (a4 x y),fun x=>own_keepB (a5 x) hb⟩
def rowInv (W0:World) (gT oT m:Nat) (xs news:List Value) (L:Nat->Bool) (g:RG) (w:World):Prop:=
 (L 9=false->rInv W0 m xs news (L 4) (L 6) (L 7) g w)/\(L 9=true->∃ w9,rInv W0 m xs news true true true g w9/\w=w9.setCell ⟨gT,oT,none⟩ (.slice (some ⟨g.gg,0,none⟩) (m+1) g.cap))
theorem rowInv.move {W0 w:World} {gT oT m:Nat} {xs news:List Value} {L:Nat->Bool} {g:RG} (h:rowInv W0 gT oT m xs news L g w) (no9:L 9=false) (i:Nat) (hi:i≠4/\i≠6/\i≠7/\i≠9):rowInv W0 gT oT m xs news (fun j=>if j=i then true else L j) g w:=by
 have e:∀ j,j≠i->(if j=i then true else L j)=L j:=fun j hj=>if_neg hj
 unfold rowInv
 simp only [e 4 (by omega),e 6 (by omega),e 7 (by omega),e 9 (by omega)]
 exact h
def rowV (pb gT oT k T tcap m:Nat) (tao:Option Addr) (tv:Value) (x:Array Value) (g:RG):Nat->Value
 | 0=>.pointer (some ⟨pb,1,none⟩)
 | 1=>.slice tao T tcap
 | 2=>.int .i64 k
 | 3=>tv
 | 4=>g.v1
 | 5=>.agg x
 | 6=>.slice (some ⟨g.q,0,none⟩) 1 1
 | 7=>.slice (some ⟨g.gg,0,none⟩) (m+1) g.cap
 | 8=>.pointer (some ⟨gT,oT,none⟩)
 | _=>undef
theorem put_row {W0 w9:World} {gT off k tcap cap gg:Nat} {ts:List (List Stm)} {s0 ss:List Stm} {x:Stm} {xs:List Value} {c0 c1 c2 c3 c4 c5 c6:Value} (hT:Thrs 0 W0.heap.size 13 5 W0 (.slice (some ⟨gT,off,none⟩) ts.length tcap) ts) (hk:ts[k]?=some s0) (hb:Below W0.heap.size W0 w9) (hm:ss.length<=1000)
    (hown:w9.ownsRow W0.heap.size 45 7 (.slice (some ⟨gg,0,none⟩) (ss.length+1) cap) (ss.length+1) (xs++[c0,c1,c2,c3,c4,c5,c6])) (hxl:xs.length=ss.length*7) (hcells:∀ i s,ss[i]?=some s->∃ u,Cells7 xs i u/\SRep 0 W0.heap.size W0 13 5 u s) (hx:SRep 0 W0.heap.size W0 13 5 (.agg #[c0,c1,c2,c3,c4,c5,c6]) x):
    ∃ cs,w9.heap[gT]?=some (.cells cs 40 (0,0))/\(w9.setCell ⟨gT,off+k,none⟩ (.slice (some ⟨gg,0,none⟩) (ss.length+1) cap)).heap.size=w9.heap.size /\
      Thrs 0 w9.heap.size 13 5 (w9.setCell ⟨gT,off+k,none⟩ (.slice (some ⟨gg,0,none⟩) (ss.length+1) cap)) (.slice (some ⟨gT,off,none⟩) ts.length tcap) (ts.set k (ss++[x])):=by
 have e:(ss++[x]).length=ss.length+1:=by simp
 have hR:=(row_more (n:=5) hown hxl hcells hb (Nat.le_refl _) hb.size hb.size (fun g hg=>.inr (hown.lt g hg).1) (hx.on hb)).stms (by rw [e];omega)
 obtain ⟨g',off',a0,c0',e',hg,hc,h0,_,hput⟩:=thrs_put (thrs_later hT hb) hk
 simp only [Option.some.injEq,Addr.mk.injEq,and_true] at e'
 obtain ⟨rfl,rfl⟩:=e'
 obtain ⟨cs,hc⟩:=hc
 rw [<- e] at hR
 have h:=hput _ _ _ hR
 rw [e] at h
 exact ⟨cs,hc,by simp [World.setCell],h⟩
end Go.Proofs.YtlepckjmdjjolaaGreatDoor.Fl
