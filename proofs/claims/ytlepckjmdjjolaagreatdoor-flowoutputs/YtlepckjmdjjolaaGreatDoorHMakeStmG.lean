/- What the maker's stmt does, where it takes a lock, when it is called. Conditions: the maker lies in a block of its own. -/
import Derived.Test.YtlepckjmdjjolaaGreatDoorGMakeF
set_option maxHeartbeats 400000
set_option maxRecDepth 100000
namespace Go.Proofs.YtlepckjmdjjolaaGreatDoor
open Go.ChangeShapes Go.WideShapes Go.ChangeAt Go.RowKit
set_option linter.unusedVariables false
set_option linter.unusedSimpArgs false
theorem StRow.lift {lo n:Nat} {w:World} {v:Value} {ss:List Stm} (h:StRow lo n w v ss):StRow lo (n+1) w v ss:=by
 obtain ⟨xs,ho,hl,hr⟩:=h
 refine ⟨xs,ho,hl,fun i s hs=>?_⟩
 obtain ⟨a,b,u,hc,ha,hb,hg,hS⟩:=hr i s hs
 exact ⟨a,b,u,hc,ha,hb,hg,hS.lift⟩
theorem SRep.flat {lo lo' B B' m n:Nat} {w w':World} {v:Value} {s:Stm} (h:SRep lo B w m (n+1) v s) (hb:s.body=[]) (he:s.els=[]) (hlo:lo'<=lo) (hB:B<=B') (h35:Same35 lo B w w'):SRep lo' B' w' m (n+1) v s:=by
 obtain ⟨h1,h2,hn,eao,ecap,bao,bcap,lao,lcap,h3,h4,h5,h6⟩:=h
 refine ⟨h1,h2,hn,eao,ecap,bao,bcap,lao,lcap,h3,h4.carry hlo hB h35 fun _ _ hr=>ERep.carry hlo hB h35 hr,?_,?_⟩
 · rw [hb];exact ⟨bao,bcap,rfl,by simp,fun i k h=>by simp at h⟩
 · rw [he];exact ⟨lao,lcap,rfl,by simp,fun i k h=>by simp at h⟩
theorem stms2 {lo B:Nat} {w:World} {R:Value->Stm->Prop} {g:Nat} {x0 x1 x2 x3 x4 x5 x6 y0 y1 y2 y3 y4 y5 y6:Value} {x y:Stm} (hg:w.heap[g]?=some (.cells #[x0,x1,x2,x3,x4,x5,x6,y0,y1,y2,y3,y4,y5,y6] 45 (0,0))) (hlo:lo<=g) (hB:g<B) (hx:R (.agg #[x0,x1,x2,x3,x4,x5,x6]) x) (hy:R (.agg #[y0,y1,y2,y3,y4,y5,y6]) y):
 Stms lo B w R (.slice (some ⟨g,0,none⟩) 2 2) [x,y]:=by
 refine ⟨_,_,rfl,by simp,fun i k h=>?_⟩
 match i,h with
 | 0,h=>simp at h;subst h;exact ⟨g,0,x0,x1,x2,x3,x4,x5,x6,rfl,hlo,hB,⟨_,_,hg,rfl,rfl⟩,by simp [World.cell?,hg],by simp [World.cell?,hg],by simp [World.cell?,hg],by simp [World.cell?,hg],by simp [World.cell?,hg],by simp [World.cell?,hg],by simp [World.cell?,hg],hx⟩
 | 1,h=>simp at h;subst h;exact ⟨g,0,y0,y1,y2,y3,y4,y5,y6,rfl,hlo,hB,⟨_,_,hg,rfl,rfl⟩,by simp [World.cell?,hg],by simp [World.cell?,hg],by simp [World.cell?,hg],by simp [World.cell?,hg],by simp [World.cell?,hg],by simp [World.cell?,hg],by simp [World.cell?,hg],hy⟩
theorem StRow.one {lo n g:Nat} {w:World} {k:Int} {s:ByteArray} (hg:w.heap[g]?=some (.cells #[.int .i64 k,.string s,.slice none 0 0,.int .i64 0,.slice none 0 0,.slice none 0 0,.int .i64 0] 45 (0,0))) (hlo:lo<=g) (hs:s.size<=35184372088832):StRow lo (n+1) w (.slice (some ⟨g,0,none⟩) 1 1) [stmE k s []]:=by
 have hlt:=heap_lt hg
 refine ⟨[.int .i64 k,.string s,.slice none 0 0,.int .i64 0,.slice none 0 0,.slice none 0 0,.int .i64 0],⟨rfl,.inr ⟨g,1,_,rfl,hlo,hg,by simp,by unfold maxLen;omega,rfl,rfl⟩⟩,by omega,fun i s' hs'=>?_⟩
 match i,hs' with
 | 0,h=>
   simp at h;subst h
   exact ⟨lo,lo,_,⟨_,_,_,_,_,_,_,rfl,rfl,rfl,rfl,rfl,rfl,rfl,rfl⟩,Nat.le_refl _,by omega,fun g' h'=>by simp [Value.ownBlock] at h';omega,srep0 hs⟩
theorem wpList_append_fin {ops:Array Oper} {rest:List Oper} {o:Oper} {act:Act} {Q:Exit->Act->World->Prop} (w:World) (hgd:o.guard=none) (s x:Operand)
 (ho:o.op=.call { callee:=.builtin .append,args:=#[s,x],argTypes:=#[40,40] }) (lo a b n:Nat) (v v2:Value) (ss ss2:List Stm) (hs:act.eval s=v) (hx:act.eval x=v2)
 (hR:StRow lo (n+1) w v ss) (hS:Stms a b w (fun v' s'=>SRep a b w 13 (n+1) v' s') v2 ss2) (hlo:lo<=a) (hbw:b<=w.heap.size) (hfl:∀ s ∈ ss2,s.body=[]/\s.els=[]) (hne:0<ss2.length) (hlen:ss.length+ss2.length<=1000000)
 (h:∀ g cap w',Stms lo w'.heap.size w' (fun v' s'=>SRep lo w'.heap.size w' 13 (n+1) v' s') (.slice (some ⟨g,0,none⟩) (ss++ss2).length cap) (ss++ss2)->w.grownBy w' v.ownBlock->wpList Tryz.prog ops Q rest (act.put o.dst (.slice (some ⟨g,0,none⟩) (ss++ss2).length cap)) w'):wpList Tryz.prog ops Q (o :: rest) act w:=by
 obtain ⟨xs,hown,hl,hr⟩:=hR
 obtain ⟨g2,off,cap2,news,rfl,hnl,hnews,hn1,hnr⟩:=stms_cells hS hne
 obtain ⟨i0,hi,hz0,hz1,hz2⟩:=info_parts infoStmt
 refine wpList_append_lies w hgd s x 40 ho lo 45 i0 _ 7 112 Tryz.underlying40 hi hz0 hz1 hz2 rfl (by decide) v ss.length xs hs hown ⟨g2,off,none⟩ ss2.length cap2 news hx hnl hnews hn1 hne (by unfold maxLen;omega) (by omega) hl w.heap.size rfl ?_
 intro g cap w' hown' hgrow hat hlt
 have hz:=hgrow.size
 have e:ss.length+ss2.length=(ss++ss2).length:=by simp
 rw [e] at hown' ⊢
 refine h g cap w' ?_ hgrow
 have h35:∀ p q,Same35 p q w w':=fun p q k cs fr _ _ hk=>(hgrow.block k (heap_lt hk) (fun e=>by
  rcases hown.2 with ⟨rfl,_⟩ | ⟨g',cap',cur,rfl,_,hgg,_⟩
  · cases e
  · cases e;rw [hgg] at hk;cases hk)).trans hk
 have same:∀ {p q:Nat},q<=w.heap.size->(∀ g,v.ownBlock=some g->g<p\/q<=g)->∀ k,p<=k->k<q->w'.heap[k]?=w.heap[k]?:=fun {p q} hq hg k hp hk=>hgrow.block k (by omega) (fun e=>by rcases hg k e.symm with h | h <;> omega)
 obtain ⟨_,cur,hgg⟩:∃ _:Unit,∃ cur,w'.heap[g]?=some (.cells cur 45 (0,0)):=by
  rcases hown'.2 with ⟨hv,_⟩ | ⟨g',cap',cur,hv,_,hgg,_⟩
  · cases hv
  · cases hv;exact ⟨(),cur,hgg⟩
 have hgl:lo<=g:=(hown'.lt g rfl).1
 refine ⟨_,cap,rfl,by rw [<- e];omega,fun i s hs=>?_⟩
 have key:∀ {j:Nat} {u:Value},(xs++news)[j]?=some u->w'.cell? ⟨g,0+j,none⟩=some u:=fun {j u} hu=>by
  have:=hown'.cells (g:=g) rfl j u hu
  rwa [Lib.add_plain] at this
 suffices hh:∃ u,Cells7 (xs++news) i u/\SRep lo w'.heap.size w' 13 (n+1) u s by
  obtain ⟨u,⟨c0,c1,c2,c3,c4,c5,c6,e0,e1,e2,e3,e4,e5,e6,rfl⟩,hS'⟩:=hh
  refine ⟨g,0,c0,c1,c2,c3,c4,c5,c6,rfl,hgl,hlt,⟨_,_,hgg,rfl,rfl⟩,key e0,?_,?_,?_,?_,?_,?_,hS'⟩
  · have:=key e1;rwa [<- Nat.add_assoc] at this
  · have:=key e2;rwa [<- Nat.add_assoc] at this
  · have:=key e3;rwa [<- Nat.add_assoc] at this
  · have:=key e4;rwa [<- Nat.add_assoc] at this
  · have:=key e5;rwa [<- Nat.add_assoc] at this
  · have:=key e6;rwa [<- Nat.add_assoc] at this
 by_cases hlt:i<ss.length
 · rw [List.getElem?_append_left hlt] at hs
   obtain ⟨p,q,u,hc,hp,hq,hg,hS'⟩:=hr i s hs
   exact ⟨u,cells7_left hc,hS'.carry hp (by omega) (h35 _ _) (fun k cs fr hk1 hk2 hc=>(same hq hg k hk1 hk2).trans hc)⟩
 · rw [List.getElem?_append_right (by omega)] at hs
   obtain ⟨u,hc,hS'⟩:=hnr _ s hs
   have hc':=cells7_right hown.1 hc
   rw [show ss.length+(i-ss.length)=i by omega] at hc'
   have hf:=hfl s (List.mem_of_getElem? hs)
   exact ⟨u,hc',hS'.flat hf.1 hf.2 hlo (by omega) (h35 _ _)⟩
theorem MakerAt.hold {B bm:Nat} {E:Env} {ns:List UInt8} {w:World} (h:MakerAt B bm E ns w) (d:Bool):MakerAt B bm { E with held:=d } ns (w.setCell ⟨bm,4,none⟩ (.bool d)):=by
 have hB:=h.base
 obtain ⟨h1,nv,lv,sv,cv,h2,h3,h4,h5,h6,h7⟩:=h
 have hg:=set_grown w bm 4 (.bool d)
 refine ⟨h1,nv,lv,sv,cv,?_,h3.on (fun k hk=>hg.block k (by omega) (fun e=>by cases e;omega)),h4.kept hg (.inr (Lib.ownBlock_ne h4 h2 (by decide))),h5.kept hg (.inr (Lib.ownBlock_ne h5 h2 (by decide))),h6.kept hg (.inr (Lib.ownBlock_ne h6 h2 (by decide))),h7⟩
 rw [set_heap h2];rfl
theorem held_mid {B bm f:Nat} {w wr w5:World} {E:Env} {ns n1:List UInt8} {out:Value} {ss:List Stm} {x0 x1 x2 x3 x4 x5:Value} (hB:B<=w.heap.size) (hR:StRow w.heap.size f wr out ss) (hK:KeepM B w wr) (hMr:MakerAt B bm E ns wr) (hg5:wr.grownBy w5 (some bm)) (hM5:MakerAt B bm E n1 w5) (hss:ss.length<=28):
 MakerAt B bm { E with held:=false } n1 (((w5.setCell ⟨bm,4,none⟩ (.bool false)).alloc (.cells #[x0,x1,x2,x3,x4,x5] 50)).alloc (.cells #[.int .i64 5,.string ⟨#[100,111,111,114]⟩,.slice none 0 0,.int .i64 0,.slice none 0 0,.slice none 0 0,.int .i64 0] 45)) /\
 (KeepM B w5 (((w5.setCell ⟨bm,4,none⟩ (.bool false)).alloc (.cells #[x0,x1,x2,x3,x4,x5] 50)).alloc (.cells #[.int .i64 5,.string ⟨#[100,111,111,114]⟩,.slice none 0 0,.int .i64 0,.slice none 0 0,.slice none 0 0,.int .i64 0] 45)) /\
  KeepM B w (((w5.setCell ⟨bm,4,none⟩ (.bool false)).alloc (.cells #[x0,x1,x2,x3,x4,x5] 50)).alloc (.cells #[.int .i64 5,.string ⟨#[100,111,111,114]⟩,.slice none 0 0,.int .i64 0,.slice none 0 0,.slice none 0 0,.int .i64 0] 45))) /\
 Stms w.heap.size (w5.heap.size+1) (((w5.setCell ⟨bm,4,none⟩ (.bool false)).alloc (.cells #[x0,x1,x2,x3,x4,x5] 50)).alloc (.cells #[.int .i64 5,.string ⟨#[100,111,111,114]⟩,.slice none 0 0,.int .i64 0,.slice none 0 0,.slice none 0 0,.int .i64 0] 45)) (fun v' s'=>SRep w.heap.size (w5.heap.size+1) (((w5.setCell ⟨bm,4,none⟩ (.bool false)).alloc (.cells #[x0,x1,x2,x3,x4,x5] 50)).alloc (.cells #[.int .i64 5,.string ⟨#[100,111,111,114]⟩,.slice none 0 0,.int .i64 0,.slice none 0 0,.slice none 0 0,.int .i64 0] 45)) 13 (f+1) v' s') out ss /\
 StRow w.heap.size (f+1) (((w5.setCell ⟨bm,4,none⟩ (.bool false)).alloc (.cells #[x0,x1,x2,x3,x4,x5] 50)).alloc (.cells #[.int .i64 5,.string ⟨#[100,111,111,114]⟩,.slice none 0 0,.int .i64 0,.slice none 0 0,.slice none 0 0,.int .i64 0] 45)) (.slice (some ⟨w5.heap.size+1,0,none⟩) 1 1) [stmE 5 doorS []] /\
 (((w5.setCell ⟨bm,4,none⟩ (.bool false)).alloc (.cells #[x0,x1,x2,x3,x4,x5] 50)).alloc (.cells #[.int .i64 5,.string ⟨#[100,111,111,114]⟩,.slice none 0 0,.int .i64 0,.slice none 0 0,.slice none 0 0,.int .i64 0] 45)).heap[w5.heap.size]?=some (.cells #[x0,x1,x2,x3,x4,x5] 50 (0,0)) /\
 w5.heap.size+1<=(((w5.setCell ⟨bm,4,none⟩ (.bool false)).alloc (.cells #[x0,x1,x2,x3,x4,x5] 50)).alloc (.cells #[.int .i64 5,.string ⟨#[100,111,111,114]⟩,.slice none 0 0,.int .i64 0,.slice none 0 0,.slice none 0 0,.int .i64 0] 45)).heap.size /\
 (((w5.setCell ⟨bm,4,none⟩ (.bool false)).alloc (.cells #[x0,x1,x2,x3,x4,x5] 50)).alloc (.cells #[.int .i64 5,.string ⟨#[100,111,111,114]⟩,.slice none 0 0,.int .i64 0,.slice none 0 0,.slice none 0 0,.int .i64 0] 45)).heap.size=w5.heap.size+2:=by
 have hbm:=hM5.lt
 have hKr5:=KeepM.of_grown hMr hg5
 have z5:=hKr5.size
 have zr:=hK.size
 have hMS:=hM5.hold false
 have hzS:(w5.setCell ⟨bm,4,none⟩ (.bool false)).heap.size=w5.heap.size:=by simp [World.setCell]
 have hMF:=hMS.alloc (.cells #[x0,x1,x2,x3,x4,x5] 50)
 have hKF:KeepM B w5 ((w5.setCell ⟨bm,4,none⟩ (.bool false)).alloc (.cells #[x0,x1,x2,x3,x4,x5] 50)):=(KeepM.of_grown hM5 (set_grown _ bm 4 (.bool false))).alloc (by omega) _
 have hzF:((w5.setCell ⟨bm,4,none⟩ (.bool false)).alloc (.cells #[x0,x1,x2,x3,x4,x5] 50)).heap.size=w5.heap.size+1:=by rw [alloc_size,hzS]
 have hbF:=heap_alloc_new (w5.setCell ⟨bm,4,none⟩ (.bool false)) (.cells #[x0,x1,x2,x3,x4,x5] 50)
 rw [hzS] at hbF
 have hRF:=(hR.keep (hKr5.trans hKF)).lift
 have hSF:=hRF.stms (by omega)
 generalize (w5.setCell ⟨bm,4,none⟩ (.bool false)).alloc (.cells #[x0,x1,x2,x3,x4,x5] 50)=wF at hMF hKF hzF hbF hRF hSF ⊢
 have hbel:Below wF.heap.size wF (wF.alloc (.cells #[.int .i64 5,.string ⟨#[100,111,111,114]⟩,.slice none 0 0,.int .i64 0,.slice none 0 0,.slice none 0 0,.int .i64 0] 45)):=(Below.refl _ _).alloc (Nat.le_refl _) _
 rw [<- hzF]
 refine ⟨hMF.alloc _,⟨hKF.alloc (by omega) _,((hK.trans hKr5).trans hKF).alloc (by omega) _⟩,hSF.on hbel,StRow.one (heap_alloc_new wF _) (by omega) (by simp [doorS,ByteArray.size]),alloc_keep hbF _,by rw [alloc_size];omega,by rw [alloc_size];omega⟩
theorem held_last {B bm f:Nat} {w wr w5 w7:World} {E:Env} {n1:List UInt8} {v:Value} {ss:List Stm} {t:Tree} {x0 x1 x2 x3 x4 x5:Value} (hB:B<=w.heap.size) (hE5:ERep wr.heap.size w5.heap.size w5 13 (.agg #[x0,x1,x2,x3,x4,x5]) t) (hz:w.heap.size<=wr.heap.size) (hK57:KeepM B w5 w7) (hz7:w5.heap.size+2<=w7.heap.size) (hR7:StRow w.heap.size (f+1) w7 v ss) (hM7:MakerAt B bm E n1 w7) (hK7:KeepM B w w7):
 Stms w.heap.size ((w7.alloc (.cells #[x0,x1,x2,x3,x4,x5] 50)).alloc (.cells #[.int .i64 1,.string ⟨#[115,104,97,114,101,100]⟩,.slice (some ⟨w7.heap.size,0,none⟩) 1 1,.int .i64 0,.slice none 0 0,.slice none 0 0,.int .i64 0,.int .i64 6,.string ⟨#[100,111,111,114]⟩,.slice none 0 0,.int .i64 0,.slice none 0 0,.slice none 0 0,.int .i64 0] 45)).heap.size ((w7.alloc (.cells #[x0,x1,x2,x3,x4,x5] 50)).alloc (.cells #[.int .i64 1,.string ⟨#[115,104,97,114,101,100]⟩,.slice (some ⟨w7.heap.size,0,none⟩) 1 1,.int .i64 0,.slice none 0 0,.slice none 0 0,.int .i64 0,.int .i64 6,.string ⟨#[100,111,111,114]⟩,.slice none 0 0,.int .i64 0,.slice none 0 0,.slice none 0 0,.int .i64 0] 45))
  (fun v' s'=>SRep w.heap.size ((w7.alloc (.cells #[x0,x1,x2,x3,x4,x5] 50)).alloc (.cells #[.int .i64 1,.string ⟨#[115,104,97,114,101,100]⟩,.slice (some ⟨w7.heap.size,0,none⟩) 1 1,.int .i64 0,.slice none 0 0,.slice none 0 0,.int .i64 0,.int .i64 6,.string ⟨#[100,111,111,114]⟩,.slice none 0 0,.int .i64 0,.slice none 0 0,.slice none 0 0,.int .i64 0] 45)).heap.size ((w7.alloc (.cells #[x0,x1,x2,x3,x4,x5] 50)).alloc (.cells #[.int .i64 1,.string ⟨#[115,104,97,114,101,100]⟩,.slice (some ⟨w7.heap.size,0,none⟩) 1 1,.int .i64 0,.slice none 0 0,.slice none 0 0,.int .i64 0,.int .i64 6,.string ⟨#[100,111,111,114]⟩,.slice none 0 0,.int .i64 0,.slice none 0 0,.slice none 0 0,.int .i64 0] 45)) 13 (f+1) v' s') (.slice (some ⟨w7.heap.size+1,0,none⟩) 2 2) [stmE 1 sharedS [t],stmE 6 doorS []] /\
 StRow w.heap.size (f+1) ((w7.alloc (.cells #[x0,x1,x2,x3,x4,x5] 50)).alloc (.cells #[.int .i64 1,.string ⟨#[115,104,97,114,101,100]⟩,.slice (some ⟨w7.heap.size,0,none⟩) 1 1,.int .i64 0,.slice none 0 0,.slice none 0 0,.int .i64 0,.int .i64 6,.string ⟨#[100,111,111,114]⟩,.slice none 0 0,.int .i64 0,.slice none 0 0,.slice none 0 0,.int .i64 0] 45)) v ss /\
 MakerAt B bm E n1 ((w7.alloc (.cells #[x0,x1,x2,x3,x4,x5] 50)).alloc (.cells #[.int .i64 1,.string ⟨#[115,104,97,114,101,100]⟩,.slice (some ⟨w7.heap.size,0,none⟩) 1 1,.int .i64 0,.slice none 0 0,.slice none 0 0,.int .i64 0,.int .i64 6,.string ⟨#[100,111,111,114]⟩,.slice none 0 0,.int .i64 0,.slice none 0 0,.slice none 0 0,.int .i64 0] 45)) /\
 KeepM B w ((w7.alloc (.cells #[x0,x1,x2,x3,x4,x5] 50)).alloc (.cells #[.int .i64 1,.string ⟨#[115,104,97,114,101,100]⟩,.slice (some ⟨w7.heap.size,0,none⟩) 1 1,.int .i64 0,.slice none 0 0,.slice none 0 0,.int .i64 0,.int .i64 6,.string ⟨#[100,111,111,114]⟩,.slice none 0 0,.int .i64 0,.slice none 0 0,.slice none 0 0,.int .i64 0] 45)):=by
 have zw:=hK7.size
 have hK7H:KeepM B w7 ((w7.alloc (.cells #[x0,x1,x2,x3,x4,x5] 50)).alloc (.cells #[.int .i64 1,.string ⟨#[115,104,97,114,101,100]⟩,.slice (some ⟨w7.heap.size,0,none⟩) 1 1,.int .i64 0,.slice none 0 0,.slice none 0 0,.int .i64 0,.int .i64 6,.string ⟨#[100,111,111,114]⟩,.slice none 0 0,.int .i64 0,.slice none 0 0,.slice none 0 0,.int .i64 0] 45)):=((KeepM.refl B w7).alloc (by omega) _).alloc (by rw [alloc_size];omega) _
 have hp:=alloc_keep (heap_alloc_new w7 (.cells #[x0,x1,x2,x3,x4,x5] 50)) (.cells #[.int .i64 1,.string ⟨#[115,104,97,114,101,100]⟩,.slice (some ⟨w7.heap.size,0,none⟩) 1 1,.int .i64 0,.slice none 0 0,.slice none 0 0,.int .i64 0,.int .i64 6,.string ⟨#[100,111,111,114]⟩,.slice none 0 0,.int .i64 0,.slice none 0 0,.slice none 0 0,.int .i64 0] 45)
 have hq:=heap_alloc_new (w7.alloc (.cells #[x0,x1,x2,x3,x4,x5] 50)) (.cells #[.int .i64 1,.string ⟨#[115,104,97,114,101,100]⟩,.slice (some ⟨w7.heap.size,0,none⟩) 1 1,.int .i64 0,.slice none 0 0,.slice none 0 0,.int .i64 0,.int .i64 6,.string ⟨#[100,111,111,114]⟩,.slice none 0 0,.int .i64 0,.slice none 0 0,.slice none 0 0,.int .i64 0] 45)
 rw [alloc_size] at hq
 refine ⟨?_,hR7.keep hK7H,(hM7.alloc _).alloc _,hK7.trans hK7H⟩
 exact stms2 hq (by omega) (by rw [alloc_size,alloc_size];omega) (srepE (es:=[t]) (by simp [sharedS,ByteArray.size]) (kids1 hp (by omega) (by rw [alloc_size,alloc_size];omega) (hE5.keep hz (Nat.le_refl _) (hK57.trans hK7H)))) (srep0 (by simp [doorS,ByteArray.size]))
theorem stmt_held {f:Nat} (ih:MStmtC f) (B bm:Nat) (E:Env) (inside:Bool) (ns:List UInt8) (w:World) (hM:MakerAt B bm E ns w) (hf:6<=f+1+E.deep+heldN E) (hd1:1<=E.deep) (hd:E.deep<=4) (hroom:roomE E) (hin:inside=false) (hheld:E.held=false) (hcase:nxV ns 12=8):
 Calls Tryz.prog 63 #[.pointer (some ⟨bm,0,none⟩),.bool inside] w (MadeS B bm (f+1) w (heldM (loopM (stmtM f) false (nxV ns.tail 4+1) { E with held:=true } ns.tail.tail) (pubM (loopM (stmtM f) false (nxV ns.tail 4+1) { E with held:=true } ns.tail.tail).2.1 6 1 (loopM (stmtM f) false (nxV ns.tail 4+1) { E with held:=true } ns.tail.tail).2.2))):=by
 have hB:=hM.base
 have hth:=thread_cell hM
 have htl:=thread_le hM
 have H1:=next_any B bm E ns 12 _ hM (by omega) (by omega)
 have h4:=nxV_lt ns.tail 4 (by omega)
 have HM:=Lib.hid hM
 have hfull:=maker_full hM
 have hh0:heldN E=0:=by simp [heldN,hheld]
 have hf1:1<=f:=by omega
 obtain ⟨E1,hE1⟩:∃ E1:Env,E1 = { E with held:=true } := ⟨_,rfl⟩
 have H2:=fun w' h=>next_any B bm E1 ns.tail 4 w' h (by omega) (by omega)
 have hhold:=fun w' (h:MakerAt B bm E ns.tail w')=>h.hold true
 rw [<- hE1] at hhold ⊢
 have HH:Hid (E1.deep=E.deep/\heldN E1=1/\fullE E1/\roomE E1/\E1.held=true/\E1 = { E with held:=true }):=by
  rw [hE1];exact ⟨rfl,rfl,hfull,hroom,rfl,rfl⟩
 obtain ⟨N,hN⟩:∃ N,nxV ns.tail 4=N:=⟨_,rfl⟩
 rw [hN] at H2 h4 ⊢
 rw [hcase] at H1
 have HHE:=Lib.hid hheld
 clear hcase hM hE1 hfull hroom hh0 hN
 subst hin
 go_enter Tryz.func63,Tryz.ntmps63
 go_wp2_with (first
  | (go_at_call 34;refine (digit_any E.thread htl _).mono ?_;rintro e w' ⟨rfl,hw⟩;rw [hw];clear hw w')
  | (go_at_call 33;refine (H2 _ (hhold w1 hM1.out)).mono ?_;rintro e w2 ⟨rfl,hM2,hg2⟩;replace hM2:=Lib.hid hM2;replace hg2:=Lib.hid hg2)
  | (go_at_call 33;refine H1.mono ?_;rintro e w1 ⟨rfl,hM1,hg1⟩;obtain ⟨lao,lcap,hlc,_⟩:=locals_cell hM1;have hdc:=mdeep_cell hM1;have hhc:=held_cell hM1;rw [HHE.out] at hhc;have hfz:=maker_frozen hM1 4;replace hM1:=Lib.hid hM1))
 have hKh:=((KeepM.of_grown HM.out hg1).trans (KeepM.of_grown hM1.out (set_grown w1 bm 4 (.bool true)))).trans (KeepM.of_grown (hhold w1 hM1.out) hg2.out)
 replace hKh:=Lib.hid hKh
 go_loopw [18,19] (fun out k wr=>∃ j:Nat,j<=N+1/\k=.int .i64 ((N:Int)-j)/\StRow w.heap.size f wr out (loopM (stmtM f) false j E1 ns.tail.tail).1/\j<=(loopM (stmtM f) false j E1 ns.tail.tail).1.length/\(loopM (stmtM f) false j E1 ns.tail.tail).1.length<=7*j/\MakerAt B bm (loopM (stmtM f) false j E1 ns.tail.tail).2.1 (loopM (stmtM f) false j E1 ns.tail.tail).2.2 wr/\KeepM B w wr) (fun _ k _=>(intOf k+1).toNat)
 case atStart=>exact ⟨0,by omega,by simp,StRow.nil hKh.out.size,by simp [loopM],by simp [loopM],hM2.out,hKh.out⟩
 case round=>
  obtain ⟨j,hj,rfl,hR,hlen0,hlen,hMr,hKr⟩:=hrel
  have hzr:=hKr.size
  obtain ⟨hdE,hhE,hfull1,hroom1,hheE,hE1⟩:=HH.out
  have hgw:=loop_grow (fun E ns hf=>stmt_grow f false E ns hf) j E1 ns.tail.tail hfull1
  have hrm:=loop_room (fun E ns hf=>stmt_grow f false E ns hf) (fun E ns hf hd hr=>stmt_room f false E ns hf hd hr) j E1 ns.tail.tail hfull1 (by omega) hroom1
  by_cases hlt:j<N+1
  · obtain ⟨ss,E2,ns2,hl2⟩:∃ ss E2 ns2,loopM (stmtM f) false j E1 ns.tail.tail=(ss,E2,ns2):=⟨_,_,_,rfl⟩
    have HS:=Lib.hid (loop_succ (stmtM f) false j E1 ns.tail.tail hl2)
    rw [hl2] at hR hMr hlen hlen0 hgw hrm
    simp only at hR hMr hlen hlen0 hgw hrm
    have hd2:E2.deep=E.deep:=by rw [hgw.2.2.1,hdE]
    have hh2:heldN E2=1:=by rw [grow_heldN hgw,hhE]
    have hsl:=stmt_len f false E2 ns2 (hgw.full hfull1) hf1 (by omega)
    have hh0:heldN E=0:=by simp [heldN,HHE.out]
    have P1:=ih B bm false E2 ns2 wr hMr (by omega) (by omega) (by omega) hrm
    obtain ⟨hs1,hs7,_⟩:=hsl
    have HR:=Lib.hid hR
    have HK:=Lib.hid hKr
    clear hl2 hgw hrm hd2 hh2 hMr hR hKr hdE hhE hfull1 hroom1 hheE hE1 hh0
    go_wp2_with (first
        | (go_at_call 63;refine P1.mono ?_;rintro e w3 ⟨v3,rfl,hS3,hM3,hK3⟩;replace hS3:=Lib.hid hS3;replace hM3:=Lib.hid hM3;replace hK3:=Lib.hid hK3)
        | (at_builtin;refine wpList_append_st _ rfl (.tmp 257) (.tmp 259) rfl w.heap.size wr.heap.size w3.heap.size f _ _ ss (stmtM f false E2 ns2).1 (by rfl) (by rfl) (HR.out.keep hK3.out) hS3.out hzr (Nat.le_refl _) (fun g hg=>.inl (HR.out.lt g hg).2) (by omega) (by omega) ?_;intro g4 cap4 w4 hR4 hg4))
    have hR3:=HR.out.keep hK3.out
    have hM4:=hM3.out.grow hR3 hB hg4
    have hK4:=(HK.out.trans hK3.out).grow hB hg4 (fun k hk=>(hR3.lt k hk).1)
    go_roundw
    case rel=>exact ⟨j+1,by omega,by go_num,by rw [HS.out];rw [List.length_append] at hR4;exact hR4,by rw [HS.out];simp only [List.length_append];omega,by rw [HS.out];simp only [List.length_append];omega,by rw [HS.out];exact hM4,hK4⟩
    case measure=>simp [intOf];omega
  · obtain rfl:j=N+1:=by omega
    obtain ⟨ss,E2,ns2,hl2⟩:∃ ss E2 ns2,loopM (stmtM f) false (N+1) E1 ns.tail.tail=(ss,E2,ns2):=⟨_,_,_,rfl⟩
    have HL:=Lib.hid hl2
    rw [hl2] at hR hMr hlen hlen0
    have hss:ss.length<=28:=by simp only at hlen;omega
    have hss1:0<ss.length:=by simp only at hlen0;omega
    simp only at hR hMr
    obtain ⟨t1,n1,hp1⟩:∃ t n,pubM E2 6 1 ns2=(t,n):=⟨_,_,rfl⟩
    have P1:=public_all E2 6 B bm ns2 1 wr (by omega) (by omega) hMr
    rw [hp1] at P1
    have HP:=Lib.hid hp1
    have HR:=Lib.hid hR
    have HK:=Lib.hid hKr
    have HMr:=Lib.hid hMr
    have hbmr:=hMr.lt
    clear hl2 hp1 hR hMr hKr hlen hlen0 hgw hrm hdE hhE hfull1 hroom1 hheE hE1
    go_wp2_with (first
        | (go_at_call 94;refine P1.mono ?_;rintro e w5 ⟨v5,rfl,hE5,hM5,hg5⟩;have hhc5:=held_cell hM5;have hfz5:=maker_frozen hM5 4;have hbm5:=hM5.lt;have hz5:=hg5.size;obtain ⟨_,kv5,rfl,kao5,kcap5,rfl,_,_⟩:=id hE5;replace hE5:=Lib.hid hE5;replace hM5:=Lib.hid hM5;replace hg5:=Lib.hid hg5)
        | (at_builtin;revert hK57;intro hK57;(obtain ⟨r1,r2,r3,r4⟩:=held_last hB hE5.out hzr hK57.out hz7 hR7.out hM7.out hK7.out;refine wpList_append_fin _ rfl (.tmp 270) (.tmp 275) rfl w.heap.size w.heap.size _ f _ _ _ _ (by rfl) (by rfl) r2 r1 (Nat.le_refl _) (Nat.le_refl _) (by simp [stmE]) (by simp) (by simp;omega) ?_;intro g9 cap9 w9 hS9 hg9))
        | (at_builtin;(obtain ⟨q1,q2,q3,q4,q5,q6,q7⟩:=held_mid hB HR.out HK.out HMr.out hg5.out hM5.out hss;refine wpList_append_st _ rfl (.tmp 267) (.tmp 268) rfl w.heap.size w.heap.size (w5.heap.size+1) (f+1) _ _ [stmE 5 doorS []] ss (by rfl) (by rfl) q4 q3 (Nat.le_refl _) q6 (fun g hg=>.inr (by simp [Value.ownBlock] at hg;omega)) hss1 (by simp;omega) ?_;intro g7 cap7 w7 hR7 hg7;have hz7:=hg7.size;rw [q7] at hz7;have hbx7:=(hg7.block w5.heap.size (by rw [q7];omega) (by simp [Value.ownBlock])).trans q5;obtain ⟨c0,c1,c2,c3,c4,c5⟩:=box_cells hbx7;have hM7:=Lib.hid (q1.grow q4 hB hg7);have hK57:=Lib.hid (q2.1.grow (by omega) hg7 (fun k hk=>by simp [Value.ownBlock] at hk;omega));have hK7:=Lib.hid (q2.2.grow hB hg7 (fun k hk=>by simp [Value.ownBlock] at hk;omega));replace hR7:=Lib.hid hR7;clear hbx7 q1 q2 q3 q4 q5 q6 q7 hg7)))
    go_ret
    rw [HL.out]
    simp only
    rw [HP.out]
    have el:([stmE 5 doorS []]++ss++[stmE 1 sharedS [t1],stmE 6 doorS []]).length=ss.length+2+1:=by simp
    rw [el] at hS9
    exact ⟨_,rfl,hS9,r3.grow r2 hB hg9,r4.grow hB hg9 (fun k hk=>(r2.lt k hk).1)⟩
end Go.Proofs.YtlepckjmdjjolaaGreatDoor
