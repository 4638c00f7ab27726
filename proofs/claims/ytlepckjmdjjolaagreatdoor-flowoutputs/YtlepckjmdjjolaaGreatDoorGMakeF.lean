/- Own texts laid together: MakeBlock, MakeFin. Conditions: as each theorem says. -/
import Derived.Test.YtlepckjmdjjolaaGreatDoorGMakeK
import Derived.Deep.RegionHeld3
import Derived.BigRegion
set_option maxHeartbeats 4000000
set_option maxRecDepth 100000
set_option linter.unusedVariables false
set_option linter.unusedSimpArgs false
namespace Go.Proofs.YtlepckjmdjjolaaGreatDoor
open Go.ChangeShapes Go.WideShapes Go.ChangeAt Go.RowKit
def MStmtC (f:Nat):Prop:=∀ (B bm:Nat) (inside:Bool) (E:Env) (ns:List UInt8) (w:World),MakerAt B bm E ns w->6<=f+E.deep+heldN E->1<=E.deep->E.deep<=4->roomE E ->
 Calls Tryz.prog 63 #[.pointer (some ⟨bm,0,none⟩),.bool inside] w (MadeS B bm f w (stmtM f inside E ns))
theorem heldN_le (E:Env):heldN E<=1:=by unfold heldN;split <;> omega
theorem StRow.lt {lo n:Nat} {w:World} {v:Value} {ss:List Stm} (h:StRow lo n w v ss):∀ g,v.ownBlock=some g->lo<=g/\g<w.heap.size:=by
 obtain ⟨xs,ho,_⟩:=h
 exact ho.lt
theorem grow_set {w w':World} {bm:Nat} (h:w.grownBy w' (some bm)) (j:Nat) (u:Value):w.grownBy (w'.setCell ⟨bm,j,none⟩ u) (some bm):=grownBy_trans h (set_grown w' bm j u)
theorem grow_drew {w w':World} {r:Option Nat} (h:w.grownBy w' r):w.grownBy w'.drew r:=⟨h.os,h.tape,h.output,h.size,h.block⟩
theorem MakerAt.cut_of {B bm:Nat} {E:Env} {ns:List UInt8} {w w':World} {nv:Value} {lao sao cao:Option Addr} {lcap scap ccap n d:Nat} (h:MakerAt B bm E ns w)
    (h2:w.heap[bm]?=some (.cells #[nv,.slice lao E.loc.length lcap,.slice sao E.loc.length scap,.slice cao E.loc.length ccap,.bool E.held,.int .i64 E.thread,.int .i64 E.deep] 92 (0,0)))
    (hg:w.grownBy w' (some bm)) (hb:w'.heap[bm]?=some (.cells #[nv,.slice lao n lcap,.slice sao n scap,.slice cao n ccap,.bool E.held,.int .i64 E.thread,.int .i64 d] 92 (0,0))) (hn:n<=E.loc.length) (hd:d<=100):MakerAt B bm { cutE E n with deep:=d } ns w':=by
 have hB:=h.base
 obtain ⟨h1,nv',lv,sv,cv,h2',h3,h4,h5,h6,h7,h8,h9⟩:=h
 rw [h2] at h2'
 simp only [Option.some.injEq,Obj.cells.injEq,Array.mk.injEq,List.cons.injEq,and_true] at h2'
 obtain ⟨rfl,rfl,rfl,rfl⟩:=h2'
 have cut:∀ {e:TypeId} {ao:Option Addr} {cap:Nat} {xs:List Value},w.ownsRow B e 1 (.slice ao E.loc.length cap) E.loc.length xs->92≠e->w'.ownsRow B e 1 (.slice ao n cap) n (xs.take n):=fun {e ao cap xs} ho hne=>by
    have hk:=ho.kept hg (.inr (Lib.ownBlock_ne ho h2 hne))
    refine ⟨by have:=ho.1;simp;omega,?_⟩
    rcases hk.2 with ⟨hv,h0⟩ | ⟨g,cap',cur,hv,hbg,hgg,hl,hm,hs,ht⟩
    · obtain rfl:n=0:=by omega
      simp only [Value.slice.injEq] at hv
      exact .inl ⟨by simp [hv.1,hv.2.2],rfl⟩
    · simp only [Value.slice.injEq,true_and] at hv
      refine .inr ⟨g,cap',cur,by simp [hv.1,hv.2],hbg,hgg,by omega,hm,hs,?_⟩
      rw [<- ht,List.take_take]
      congr 1
      omega
 have hl:(E.loc.take n).length=n:=by simp;omega
 refine ⟨h1,nv,_,_,_,hb,h3.on (fun k hk=>hg.block k (by omega) (fun e=>by cases e;omega)),?_,?_,?_,h7,hd,by show (E.loc.take n).length<=100;omega⟩
 · show w'.ownsRow B 9 1 _ (E.loc.take n).length ((E.loc.take n).map .string)
   rw [hl,List.map_take];exact cut h4 (by decide)
 · show w'.ownsRow B 4 1 _ (E.loc.take n).length ((E.sec.take n).map .bool)
   rw [hl,List.map_take];exact cut h5 (by decide)
 · show w'.ownsRow B 3 1 _ (E.loc.take n).length ((E.cnt.take n).map (.int .i64))
   rw [hl,List.map_take];exact cut h6 (by decide)
theorem MakerAt.slices {B bm:Nat} {E:Env} {ns:List UInt8} {w:World} (h:MakerAt B bm E ns w):∃ nv lao lcap sao scap cao ccap,w.heap[bm]?=some (.cells #[nv,.slice lao E.loc.length lcap,.slice sao E.loc.length scap,.slice cao E.loc.length ccap,.bool E.held,.int .i64 E.thread,.int .i64 E.deep] 92 (0,0))/\E.loc.length<=lcap/\E.loc.length<=scap/\E.loc.length<=ccap:=by
 obtain ⟨h1,nv,lv,sv,cv,h2,h3,h4,h5,h6,h7⟩:=h
 have sl:∀ {e:TypeId} {v:Value} {xs:List Value},w.ownsRow B e 1 v E.loc.length xs->∃ ao cap,v=.slice ao E.loc.length cap/\E.loc.length<=cap:=fun {e v xs} ho=>by
    rcases ho.2 with ⟨rfl,h0⟩ | ⟨g,cap,cur,rfl,_,_,hl,_⟩
    · exact ⟨none,0,by simp [h0],by omega⟩
    · exact ⟨_,cap,rfl,hl⟩
 obtain ⟨lao,lcap,rfl,hl⟩:=sl h4
 obtain ⟨sao,scap,rfl,hs⟩:=sl h5
 obtain ⟨cao,ccap,rfl,hc⟩:=sl h6
 exact ⟨nv,lao,lcap,sao,scap,cao,ccap,h2,hl,hs,hc⟩
theorem MakerAt.sink {B bm:Nat} {E:Env} {ns:List UInt8} {w:World} (h:MakerAt B bm E ns w) (d:Nat) (hd:d<=100):MakerAt B bm { E with deep:=d } ns (w.setCell ⟨bm,6,none⟩ (.int .i64 d)):=by
 have hB:=h.base
 obtain ⟨h1,nv,lv,sv,cv,h2,h3,h4,h5,h6,h7,h8,h9⟩:=h
 have hg:=set_grown w bm 6 (.int .i64 d)
 refine ⟨h1,nv,lv,sv,cv,?_,h3.on (fun k hk=>hg.block k (by omega) (fun e=>by cases e;omega)),h4.kept hg (.inr (Lib.ownBlock_ne h4 h2 (by decide))),h5.kept hg (.inr (Lib.ownBlock_ne h5 h2 (by decide))),h6.kept hg (.inr (Lib.ownBlock_ne h6 h2 (by decide))),h7,hd,h9⟩
 rw [set_heap h2];rfl
theorem maker_frozen {B bm:Nat} {E:Env} {ns:List UInt8} {w:World} (h:MakerAt B bm E ns w) (j:Nat):w.frozen? ⟨bm,j,none⟩=false:=by
 obtain ⟨h1,nv,lv,sv,cv,h2,_⟩:=h
 exact Lib.frozen_of_heap h2 j
theorem loop_succ (st:Bool->Env->List UInt8->Mk) (inside:Bool) (j:Nat) (E:Env) (ns:List UInt8) {ss:List Stm} {E':Env} {ns':List UInt8} (h:loopM st inside j E ns=(ss,E',ns')):loopM st inside (j+1) E ns=(ss++(st inside E' ns').1,(st inside E' ns').2.1,(st inside E' ns').2.2):=by
 show ((loopM st inside j E ns).1++_,_)=_
 rw [h]
theorem drew_heap {w:World} {k:Nat} {o:Obj} (h:w.heap[k]?=some o):w.drew.heap[k]?=some o:=h
theorem block_end {f B bm n d:Nat} {E:Env} {ns:List UInt8} {w wr w':World} {v nv:Value} {ss:List Stm} {lao sao cao:Option Addr} {lcap scap ccap:Nat} (hR:StRow w.heap.size f wr v ss) (hK:KeepM B w wr) (hM:MakerAt B bm E ns wr)
    (h2:wr.heap[bm]?=some (.cells #[nv,.slice lao E.loc.length lcap,.slice sao E.loc.length scap,.slice cao E.loc.length ccap,.bool E.held,.int .i64 E.thread,.int .i64 E.deep] 92 (0,0)))
    (hg:wr.grownBy w' (some bm)) (hb:w'.heap[bm]?=some (.cells #[nv,.slice lao n lcap,.slice sao n scap,.slice cao n ccap,.bool E.held,.int .i64 E.thread,.int .i64 d] 92 (0,0))) (hn:n<=E.loc.length) (hd:d<=100) (hlen:ss.length<=4294967296):
    MadeS B bm f w (ss,{ cutE E n with deep:=d },ns) (.returned v) w':=by
 have hKp:=KeepM.of_grown hM hg
 exact ⟨_,rfl,(hR.keep hKp).stms hlen,hM.cut_of h2 hg hb hn hd,hK.trans hKp⟩
theorem block_any {f:Nat} (ih:MStmtC f) (B bm:Nat) (inside:Bool) (E:Env) (ns:List UInt8) (w:World) (hM:MakerAt B bm E ns w) (hf:6<=f+(E.deep+1)+heldN E) (hd:E.deep<=3) (hroom:roomE { E with deep:=E.deep+1 }):
    Calls Tryz.prog 35 #[.pointer (some ⟨bm,0,none⟩),.bool inside] w (MadeS B bm f w (blockM (stmtM f) inside E ns)):=by
 have hB:=hM.base
 have hdc:=mdeep_cell hM
 have hdf:=maker_frozen hM 6
 have hh1:=heldN_le E
 have hf1:1<=f:=by omega
 have hfull:=maker_full hM
 have hMd:MakerAt B bm { E with deep:=E.deep+1 } ns (w.setCell ⟨bm,6,none⟩ (.int .i64 ((E.deep:Int)+1))):=hM.sink (E.deep+1) (by omega)
 have hKd:KeepM B w (w.setCell ⟨bm,6,none⟩ (.int .i64 ((E.deep:Int)+1))):=KeepM.of_grown hM (set_grown _ _ _ _)
 obtain ⟨lao,lcap,hlc,_⟩:=locals_cell hMd
 have hlc':(w.setCell ⟨bm,6,none⟩ (.int .i64 ((E.deep:Int)+1))).cell? ⟨bm,1,none⟩=some (.slice lao E.loc.length lcap):=hlc
 have H1:=next_any B bm _ ns 5 _ hMd (by omega) (by omega)
 have hn5:=nxV_lt ns 5 (by omega)
 have HE:Hid (∃ E1:Env,E1 = { E with deep:=E.deep+1 }):=⟨_,rfl⟩
 obtain ⟨E1,hE1⟩:=HE.out
 rw [<- hE1] at hMd H1 hroom
 have hd1:E1.deep=E.deep+1:=by rw [hE1]
 have hl1:E1.loc=E.loc:=by rw [hE1]
 have hh:heldN E1=heldN E:=by rw [hE1];rfl
 have hfull1:fullE E1:=by rw [hE1];exact hfull
 have hblock:blockM (stmtM f) inside E ns=((loopM (stmtM f) inside (nxV ns 5+1) E1 ns.tail).1,{ cutE (loopM (stmtM f) inside (nxV ns 5+1) E1 ns.tail).2.1 E.loc.length with deep:=E.deep },(loopM (stmtM f) inside (nxV ns 5+1) E1 ns.tail).2.2):=by rw [hE1];rfl
 rw [hblock]
 have HH:=Lib.hid (And.intro hE1 (And.intro hd1 (And.intro hl1 (And.intro hh (And.intro hfull1 (And.intro hMd (And.intro hKd hlc)))))))
 clear hE1 hd1 hl1 hh hfull1 hblock hM hMd hKd hlc hfull HE
 go_enter Tryz.func35,Tryz.ntmps35
 go_wp2_with (go_at_call 33;refine H1.mono ?_;rintro e w1 ⟨rfl,hM1,hg1⟩;replace hM1:=Lib.hid hM1;replace hg1:=Lib.hid hg1)
 go_loopw [6,7] (fun out k wr=>∃ j:Nat,j<=nxV ns 5+1/\k=.int .i64 ((nxV ns 5:Int)-j)/\StRow w.heap.size f wr out (loopM (stmtM f) inside j E1 ns.tail).1/\(loopM (stmtM f) inside j E1 ns.tail).1.length<=7*j/\MakerAt B bm (loopM (stmtM f) inside j E1 ns.tail).2.1 (loopM (stmtM f) inside j E1 ns.tail).2.2 wr/\KeepM B w wr) (fun _ k _=>(intOf k+1).toNat)
 case atStart=>
    obtain ⟨_,_,_,_,_,hMd,hKd,_⟩:=HH.out
    have hK1:=hKd.trans (KeepM.of_grown hMd hg1.out)
    exact ⟨0,by omega,by simp,StRow.nil hK1.size,by simp [loopM],hM1.out,hK1⟩
 case round=>
    obtain ⟨j,hj,rfl,hR,hlen,hMr,hKr⟩:=hrel
    have hzr:=hKr.size
    obtain ⟨_,hd1,hl1,hh,hfull1,_,_,_⟩:=HH.out
    have hgw:=loop_grow (fun E ns hf=>stmt_grow f inside E ns hf) j E1 ns.tail hfull1
    have hrm:=loop_room (fun E ns hf=>stmt_grow f inside E ns hf) (fun E ns hf hd hr=>stmt_room f inside E ns hf hd hr) j E1 ns.tail hfull1 (by omega) hroom
    by_cases hlt:j<nxV ns 5+1
    · obtain ⟨ss,E2,ns2,hl2⟩:∃ ss E2 ns2,loopM (stmtM f) inside j E1 ns.tail=(ss,E2,ns2):=⟨_,_,_,rfl⟩
      have HS:=Lib.hid (loop_succ (stmtM f) inside j E1 ns.tail hl2)
      rw [hl2] at hR hMr hlen hgw hrm
      simp only at hR hMr hlen hgw hrm
      have hd2:E2.deep=E.deep+1:=by rw [hgw.2.2.1,hd1]
      have hh2:heldN E2=heldN E:=by rw [grow_heldN hgw,hh]
      have hsl:=stmt_len f inside E2 ns2 (hgw.full hfull1) hf1 (by omega)
      have P1:=ih B bm inside E2 ns2 wr hMr (by omega) (by omega) (by omega) hrm
      obtain ⟨hs1,hs7,_⟩:=hsl
      have HR:=Lib.hid hR
      have HK:=Lib.hid hKr
      clear hl2 hgw hrm hd2 hh2 hMr hR hKr hd1 hl1 hh hfull1
      go_wp2_with (first
        | (go_at_call 63;refine P1.mono ?_;rintro e w2 ⟨v2,rfl,hS2,hM2,hK2⟩;replace hS2:=Lib.hid hS2;replace hM2:=Lib.hid hM2;replace hK2:=Lib.hid hK2)
        | (at_builtin;refine wpList_append_st _ rfl (.tmp 26) (.tmp 29) rfl w.heap.size wr.heap.size w2.heap.size f _ _ ss (stmtM f inside E2 ns2).1 (by rfl) (by rfl) (HR.out.keep hK2.out) hS2.out hzr (Nat.le_refl _) (fun g hg=>.inl (HR.out.lt g hg).2) (by omega) (by omega) ?_;intro g3 cap3 w3 hR3 hg3))
      have hR2:=HR.out.keep hK2.out
      have hM3:=hM2.out.grow hR2 hB hg3
      have hK3:=(HK.out.trans hK2.out).grow hB hg3 (fun k hk=>(hR2.lt k hk).1)
      go_roundw
      case rel=>exact ⟨j+1,by omega,by go_num,by rw [HS.out];rw [List.length_append] at hR3;exact hR3,by rw [HS.out];simp only [List.length_append];omega,by rw [HS.out];exact hM3,hK3⟩
      case measure=>simp [intOf];omega
    · obtain rfl:j=nxV ns 5+1:=by omega
      obtain ⟨ss,E2,ns2,hl2⟩:∃ ss E2 ns2,loopM (stmtM f) inside (nxV ns 5+1) E1 ns.tail=(ss,E2,ns2):=⟨_,_,_,rfl⟩
      have HL:=Lib.hid hl2
      rw [hl2] at hR hMr hlen hgw hrm
      have hss:Hid (ss.length<=4294967296):=by simp only at hlen;exact (show ss.length<=4294967296 by omega)
      simp only at hR hMr hlen hgw hrm
      obtain ⟨hgh,hgt,hgd,l,s,c,hloc,hsec,hcnt,_⟩:=hgw
      have hle:E.loc.length<=E2.loc.length:=by rw [hloc,hl1];simp
      obtain ⟨nv,la,lc,sa,sc,ca,cc,hb2,q1,q2,q3⟩:=hMr.slices
      obtain ⟨a0,a1,a2,a3,a4,a5,a6⟩:=seven_cells hb2
      have f1:=maker_frozen hMr 1
      have f2:=maker_frozen hMr 2
      have f3:=maker_frozen hMr 3
      have f6:=maker_frozen hMr 6
      have hd2:E2.deep=E.deep+1:=by rw [hgd,hd1]
      rw [hd2] at a6
      have HR:=Lib.hid hR
      have HK:=Lib.hid hKr
      have HM:=Lib.hid hMr
      have HB:=Lib.hid hb2
      have b0:(0:Int)<=(E.loc.length:Int):=by omega
      have b1:(E.loc.length:Int)<=(lc:Int):=by omega
      have b2:(E.loc.length:Int)<=(sc:Int):=by omega
      have b3:(E.loc.length:Int)<=(cc:Int):=by omega
      clear hl2 hR hKr hMr hb2 hd1 hl1 hh hfull1 hrm hloc hsec hcnt hgh hgt hgd
      go_wp2
      go_region
      go_wp2
      go_ret
      rw [HL.out]
      refine block_end HR.out HK.out HM.out HB.out ?_ ?_ hle (by omega) hss.out
      · repeat (first | exact grownBy_refl _ _ | refine grow_set ?_ _ _ | refine grow_drew ?_)
      · have r1:=set_heap (drew_heap HB.out) 1 (.slice la E.loc.length lc)
        have r2:=set_heap r1 2 (.slice sa E.loc.length sc)
        have r3:=set_heap r2 3 (.slice ca E.loc.length cc)
        exact set_heap r3 6 (.int .i64 (E.deep:Int))
end Go.Proofs.YtlepckjmdjjolaaGreatDoor
namespace Go.Proofs.YtlepckjmdjjolaaGreatDoor
open Go.ChangeShapes Go.WideShapes Go.ChangeAt Go.RowKit
theorem KeepM.undrew {B:Nat} {w w':World} (h:KeepM B w.drew w'):KeepM B w w':=⟨⟨h.1.os,h.1.tape,h.1.output,h.1.size,h.1.block⟩,h.2⟩
theorem made_fin {B bm n g:Nat} {w w4:World} {s:Stm} {E:Env} {ns:List UInt8} {u0 u1 u2 u3 u4 u5 u6:Value} (hK:KeepM B w w4) (hM:MakerAt B bm E ns w4) (hg:w4.heap[g]?=some (.cells #[u0,u1,u2,u3,u4,u5,u6] 45 (0,0))) (hgl:w.heap.size<=g)
    (hS:SRep w.heap.size w4.heap.size w4 13 n (.agg #[u0,u1,u2,u3,u4,u5,u6]) s):MadeS B bm n w ([s],E,ns) (.returned (.slice (some ⟨g,0,none⟩) 1 1)) w4:=
 ⟨_,rfl,stms1 hg hgl (heap_lt hg) hS,hM,hK⟩
theorem ERep.keep {B lo hi lo' n:Nat} {w w':World} {v:Value} {t:Tree} (h:ERep lo hi w n v t) (hlo:lo'<=lo) (hhi:hi<=w.heap.size) (hK:KeepM B w w'):ERep lo' w'.heap.size w' n v t:=h.carry hlo (by have:=hK.size;omega) (hK.same35 lo hi)
theorem Stms.keep {B lo hi lo' n:Nat} {w w':World} {v:Value} {ss:List Stm} (h:Stms lo hi w (fun v' s'=>SRep lo hi w 13 n v' s') v ss) (hlo:lo'<=lo) (hhi:hi<=w.heap.size) (hK:KeepM B w w'):Stms lo' w'.heap.size w' (fun v' s'=>SRep lo' w'.heap.size w' 13 n v' s') v ss:=
 h.carry hlo (by have:=hK.size;omega) (hK.same45 lo hi) fun _ _ hr=>hr.carry hlo (by have:=hK.size;omega) (hK.same35 lo hi) (hK.same45 lo hi)
theorem keep_new {B p:Nat} {w w':World} {cs:Array Value} {fr:Nat × Nat} (hK:KeepM B w w') (h:w.heap[p]?=some (.cells cs 50 fr)):w'.heap[p]?=some (.cells cs 50 fr):=hK.2 p cs _ fr h (by decide) (by decide) (by decide) (by decide)
theorem KeepM.one {B:Nat} {w w':World} (o:Obj) (hB:B<=w.heap.size) (hb:Below (w.alloc o).heap.size (w.alloc o) w'):KeepM B w w':=((KeepM.refl B w).alloc hB o).trans (KeepM.of_below (by rw [alloc_size];omega) hb)
section
variable {B bm n g:Nat} {w w1 w2 wE w3 w4:World} {k:Int} {s:ByteArray} {E:Env} {ns:List UInt8} {t:Tree} {x0 x1 x2 x3 x4 x5:Value}
theorem local_A (hs:s.size<=35184372088832) (hB:B<=w.heap.size) (hK:KeepM B w w2) (hE:ERep w1.heap.size w2.heap.size w2 13 (.agg #[x0,x1,x2,x3,x4,x5]) t) (hz:w.heap.size<=w1.heap.size) (hW:w2.alloc (.cells #[x0,x1,x2,x3,x4,x5] 50)=wE)
    (hK3:KeepM B wE w3) (hM3:MakerAt B bm E ns w3) (hb4:Below (w3.alloc (.cells #[x0,x1,x2,x3,x4,x5] 50)).heap.size (w3.alloc (.cells #[x0,x1,x2,x3,x4,x5] 50)) w4) (hgl:(w3.alloc (.cells #[x0,x1,x2,x3,x4,x5] 50)).heap.size<=g)
    (hg4:w4.heap[g]?=some (.cells #[.int .i64 k,.string s,.slice (some ⟨w3.heap.size,0,none⟩) 1 1,.int .i64 0,.slice none 0 0,.slice none 0 0,.int .i64 0] 45 (0,0))):
    MadeS B bm (n+1) w ([stmE k s [t]],E,ns) (.returned (.slice (some ⟨g,0,none⟩) 1 1)) w4:=by
 subst hW
 have z2:=hK.size
 have z3:=hK3.size
 have z4:=hb4.size
 rw [alloc_size] at z3 z4 hgl
 have hK23:KeepM B w2 w3:=((KeepM.refl B w2).alloc (by omega) _).trans hK3
 have hK34:KeepM B w3 w4:=KeepM.one _ (by omega) hb4
 have hp:w4.heap[w3.heap.size]?=some (.cells #[x0,x1,x2,x3,x4,x5] 50 (0,0)):=by rw [hb4.block _ (by rw [alloc_size];omega),alloc_at,if_pos rfl]
 have hb:Below w3.heap.size w3 w4:=((Below.refl w3.heap.size w3).alloc (Nat.le_refl _) _).trans (hb4.mono (by rw [alloc_size];omega))
 exact made_fin ((hK.trans hK23).trans hK34) (hM3.below hb) hg4 (by omega) (srepE (es:=[t]) hs (kids1 hp (by omega) (by omega) (hE.keep hz (Nat.le_refl _) (hK23.trans hK34))))
theorem local_B (hs:s.size<=35184372088832) (hB:B<=w.heap.size) (hK:KeepM B w w2) (hE:ERep w1.heap.size w2.heap.size w2 13 (.agg #[x0,x1,x2,x3,x4,x5]) t) (hz:w.heap.size<=w1.heap.size) (hW:w2.alloc (.cells #[x0,x1,x2,x3,x4,x5] 50)=wE)
    (hK3:KeepM B (wE.alloc (.cells #[x0,x1,x2,x3,x4,x5] 50)) w3) (hM3:MakerAt B bm E ns w3) (hb4:Below w3.heap.size w3 w4) (hgl:w3.heap.size<=g)
    (hg4:w4.heap[g]?=some (.cells #[.int .i64 k,.string s,.slice (some ⟨wE.heap.size,0,none⟩) 1 1,.int .i64 0,.slice none 0 0,.slice none 0 0,.int .i64 0] 45 (0,0))):
    MadeS B bm (n+1) w ([stmE k s [t]],E,ns) (.returned (.slice (some ⟨g,0,none⟩) 1 1)) w4:=by
 subst hW
 have z2:=hK.size
 have z3:=hK3.size
 have z4:=hb4.size
 have hp3:=keep_new hK3 (p:=(w2.alloc (.cells #[x0,x1,x2,x3,x4,x5] 50)).heap.size) (heap_alloc_new _ _)
 have hK23:KeepM B w2 w3:=(((KeepM.refl B w2).alloc (by omega) _).alloc (by rw [alloc_size];omega) _).trans hK3
 have hK34:KeepM B w3 w4:=KeepM.of_below (by rw [alloc_size,alloc_size] at z3;omega) hb4
 rw [alloc_size] at z3 hp3 hg4
 rw [alloc_size] at z3
 exact made_fin ((hK.trans hK23).trans hK34) (hM3.below hb4) hg4 (by omega) (srepE (es:=[t]) hs (kids1 (keep_new hK34 hp3) (by omega) (by omega) (hE.keep hz (Nat.le_refl _) (hK23.trans hK34))))
theorem store_A {t':Tree} {y0 y1 y2 y3 y4 y5:Value} (hs:s.size<=35184372088832) (hB:B<=w.heap.size) (hK:KeepM B w w2) (hE:ERep w1.heap.size w2.heap.size w2 12 (.agg #[x0,x1,x2,x3,x4,x5]) t) (hz:w.heap.size<=w1.heap.size) (hW:w2.alloc (.cells #[x0,x1,x2,x3,x4,x5] 50)=wE)
    (hE3:ERep wE.heap.size w3.heap.size w3 13 (.agg #[y0,y1,y2,y3,y4,y5]) t') (hK3:KeepM B wE w3) (hM3:MakerAt B bm E ns w3) (hb4:Below (w3.alloc (.cells #[x0,x1,x2,x3,x4,x5,y0,y1,y2,y3,y4,y5] 50)).heap.size (w3.alloc (.cells #[x0,x1,x2,x3,x4,x5,y0,y1,y2,y3,y4,y5] 50)) w4) (hgl:(w3.alloc (.cells #[x0,x1,x2,x3,x4,x5,y0,y1,y2,y3,y4,y5] 50)).heap.size<=g)
    (hg4:w4.heap[g]?=some (.cells #[.int .i64 k,.string s,.slice (some ⟨w3.heap.size,0,none⟩) 2 2,.int .i64 0,.slice none 0 0,.slice none 0 0,.int .i64 0] 45 (0,0))):
    MadeS B bm (n+1) w ([stmE k s [t,t']],E,ns) (.returned (.slice (some ⟨g,0,none⟩) 1 1)) w4:=by
 subst hW
 have z2:=hK.size
 have z3:=hK3.size
 have z4:=hb4.size
 rw [alloc_size] at z3 z4 hgl hE3
 have hK23:KeepM B w2 w3:=((KeepM.refl B w2).alloc (by omega) _).trans hK3
 have hK34:KeepM B w3 w4:=KeepM.one _ (by omega) hb4
 have hp:w4.heap[w3.heap.size]?=some (.cells #[x0,x1,x2,x3,x4,x5,y0,y1,y2,y3,y4,y5] 50 (0,0)):=by rw [hb4.block _ (by rw [alloc_size];omega),alloc_at,if_pos rfl]
 have hb:Below w3.heap.size w3 w4:=((Below.refl w3.heap.size w3).alloc (Nat.le_refl _) _).trans (hb4.mono (by rw [alloc_size];omega))
 exact made_fin ((hK.trans hK23).trans hK34) (hM3.below hb) hg4 (by omega) (srepE (es:=[t,t']) hs (kids2 hp (by omega) (by omega) ((hE.up (by omega)).keep hz (Nat.le_refl _) (hK23.trans hK34)) (hE3.keep (by omega) (Nat.le_refl _) hK34)))
theorem if_fin {w5:World} {wa wb:World} {b1 b2:List Stm} {v1 v2:Value} {p:Nat} (hB:B<=w.heap.size) (hK:KeepM B w w2) (hE:ERep w1.heap.size w2.heap.size w2 13 (.agg #[x0,x1,x2,x3,x4,x5]) t) (hz:w.heap.size<=w1.heap.size)
    (hKa:KeepM B w2 wa) (hS1:Stms wa.heap.size w3.heap.size w3 (fun v' s'=>SRep wa.heap.size w3.heap.size w3 13 n v' s') v1 b1) (hK3:KeepM B wa w3) (hKb:KeepM B w3 wb) (hS2:Stms wb.heap.size w4.heap.size w4 (fun v' s'=>SRep wb.heap.size w4.heap.size w4 13 n v' s') v2 b2) (hK4:KeepM B wb w4) (hK5:KeepM B w4 w5) (hM:MakerAt B bm E ns w5)
    (hp:w5.heap[p]?=some (.cells #[x0,x1,x2,x3,x4,x5] 50 (0,0))) (hpl:w.heap.size<=p) (hgl:w.heap.size<=g)
    (hg5:w5.heap[g]?=some (.cells #[.int .i64 3,.string ⟨#[]⟩,.slice (some ⟨p,0,none⟩) 1 1,.int .i64 0,v1,v2,.int .i64 0] 45 (0,0))):
    MadeS B bm (n+1) w ([⟨3,⟨#[]⟩,[t],0,b1,b2,0⟩],E,ns) (.returned (.slice (some ⟨g,0,none⟩) 1 1)) w5:=by
 have z2:=hK.size
 have za:=hKa.size
 have z3:=hK3.size
 have zb:=hKb.size
 refine made_fin (((((hK.trans hKa).trans hK3).trans hKb).trans hK4).trans hK5) hM hg5 hgl ?_
 have e1:∃ ao cap,v1=.slice ao b1.length cap:=by obtain ⟨ao,cap,e,_⟩:=hS1;exact ⟨ao,cap,e⟩
 have e2:∃ ao cap,v2=.slice ao b2.length cap:=by obtain ⟨ao,cap,e,_⟩:=hS2;exact ⟨ao,cap,e⟩
 obtain ⟨ao1,cap1,rfl⟩:=e1
 obtain ⟨ao2,cap2,rfl⟩:=e2
 refine ⟨by simp,by simp,by simp [ByteArray.size],_,_,_,_,_,_,rfl,kids1 hp hpl (heap_lt hp) (hE.keep hz (Nat.le_refl _) ((((hKa.trans hK3).trans hKb).trans hK4).trans hK5)),?_,?_⟩
 · exact hS1.keep (by omega) (Nat.le_refl _) ((hKb.trans hK4).trans hK5)
 · exact hS2.keep (by omega) (Nat.le_refl _) hK5
end
section
variable {B bm n g:Nat} {w w1 w2 wE w3 w4 w5:World} {E:Env} {ns:List UInt8} {t:Tree} {x0 x1 x2 x3 x4 x5 v1 v2:Value} {b1 b2:List Stm}
theorem if_A (hB:B<=w.heap.size) (hK:KeepM B w w2) (hE:ERep w1.heap.size w2.heap.size w2 13 (.agg #[x0,x1,x2,x3,x4,x5]) t) (hz:w.heap.size<=w1.heap.size) (hW:w2.alloc (.cells #[x0,x1,x2,x3,x4,x5] 50)=wE)
    (hS1:Stms (wE.alloc (.cells #[x0,x1,x2,x3,x4,x5] 50)).heap.size w3.heap.size w3 (fun v' s'=>SRep (wE.alloc (.cells #[x0,x1,x2,x3,x4,x5] 50)).heap.size w3.heap.size w3 13 n v' s') v1 b1) (hK3:KeepM B (wE.alloc (.cells #[x0,x1,x2,x3,x4,x5] 50)) w3) (hS2:Stms w3.heap.size w4.heap.size w4 (fun v' s'=>SRep w3.heap.size w4.heap.size w4 13 n v' s') v2 b2) (hK4:KeepM B w3 w4) (hM:MakerAt B bm E ns w4)
    (hb5:Below w4.heap.size w4 w5) (hgl:w4.heap.size<=g)
    (hg5:w5.heap[g]?=some (.cells #[.int .i64 3,.string ⟨#[]⟩,.slice (some ⟨wE.heap.size,0,none⟩) 1 1,.int .i64 0,v1,v2,.int .i64 0] 45 (0,0))):
    MadeS B bm (n+1) w ([⟨3,⟨#[]⟩,[t],0,b1,b2,0⟩],E,ns) (.returned (.slice (some ⟨g,0,none⟩) 1 1)) w5:=by
 subst hW
 have z2:=hK.size
 have z3:=hK3.size
 have z4:=hK4.size
 have z5:=hb5.size
 simp only [alloc_size] at z3 z4 z5 hgl
 have hp3:=keep_new hK3 (p:=(w2.alloc (.cells #[x0,x1,x2,x3,x4,x5] 50)).heap.size) (heap_alloc_new _ _)
 have hKE:KeepM B w2 ((w2.alloc (.cells #[x0,x1,x2,x3,x4,x5] 50)).alloc (.cells #[x0,x1,x2,x3,x4,x5] 50)):=((KeepM.refl B w2).alloc (by omega) _).alloc (by rw [alloc_size];omega) _
 have hK5:KeepM B w4 w5:=KeepM.of_below (by omega) hb5
 exact if_fin hB hK hE hz hKE hS1 hK3 (KeepM.refl B w3) hS2 hK4 hK5 (hM.below hb5) (keep_new hK5 (keep_new hK4 hp3)) (by rw [alloc_size];omega) (by omega) hg5
theorem if_B (hB:B<=w.heap.size) (hK:KeepM B w w2) (hE:ERep w1.heap.size w2.heap.size w2 13 (.agg #[x0,x1,x2,x3,x4,x5]) t) (hz:w.heap.size<=w1.heap.size) (hW:w2.alloc (.cells #[x0,x1,x2,x3,x4,x5] 50)=wE)
    (hS1:Stms wE.heap.size w3.heap.size w3 (fun v' s'=>SRep wE.heap.size w3.heap.size w3 13 n v' s') v1 b1) (hK3:KeepM B wE w3) (hS2:Stms (w3.alloc (.cells #[x0,x1,x2,x3,x4,x5] 50)).heap.size w4.heap.size w4 (fun v' s'=>SRep (w3.alloc (.cells #[x0,x1,x2,x3,x4,x5] 50)).heap.size w4.heap.size w4 13 n v' s') v2 b2) (hK4:KeepM B (w3.alloc (.cells #[x0,x1,x2,x3,x4,x5] 50)) w4) (hM:MakerAt B bm E ns w4)
    (hb5:Below w4.heap.size w4 w5) (hgl:w4.heap.size<=g)
    (hg5:w5.heap[g]?=some (.cells #[.int .i64 3,.string ⟨#[]⟩,.slice (some ⟨w3.heap.size,0,none⟩) 1 1,.int .i64 0,v1,v2,.int .i64 0] 45 (0,0))):
    MadeS B bm (n+1) w ([⟨3,⟨#[]⟩,[t],0,b1,b2,0⟩],E,ns) (.returned (.slice (some ⟨g,0,none⟩) 1 1)) w5:=by
 subst hW
 have z2:=hK.size
 have z3:=hK3.size
 have z4:=hK4.size
 have z5:=hb5.size
 simp only [alloc_size] at z3 z4 z5 hgl
 have hp4:=keep_new hK4 (p:=w3.heap.size) (heap_alloc_new _ _)
 have hKE:KeepM B w2 (w2.alloc (.cells #[x0,x1,x2,x3,x4,x5] 50)):=(KeepM.refl B w2).alloc (by omega) _
 have hK5:KeepM B w4 w5:=KeepM.of_below (by omega) hb5
 exact if_fin hB hK hE hz hKE hS1 hK3 ((KeepM.refl B w3).alloc (by omega) _) hS2 hK4 hK5 (hM.below hb5) (keep_new hK5 hp4) (by omega) (by omega) hg5
theorem if_C (hB:B<=w.heap.size) (hK:KeepM B w w2) (hE:ERep w1.heap.size w2.heap.size w2 13 (.agg #[x0,x1,x2,x3,x4,x5]) t) (hz:w.heap.size<=w1.heap.size) (hW:w2.alloc (.cells #[x0,x1,x2,x3,x4,x5] 50)=wE)
    (hS1:Stms wE.heap.size w3.heap.size w3 (fun v' s'=>SRep wE.heap.size w3.heap.size w3 13 n v' s') v1 b1) (hK3:KeepM B wE w3) (hS2:Stms w3.heap.size w4.heap.size w4 (fun v' s'=>SRep w3.heap.size w4.heap.size w4 13 n v' s') v2 b2) (hK4:KeepM B w3 w4) (hM:MakerAt B bm E ns w4)
    (hb5:Below (w4.alloc (.cells #[x0,x1,x2,x3,x4,x5] 50)).heap.size (w4.alloc (.cells #[x0,x1,x2,x3,x4,x5] 50)) w5) (hgl:(w4.alloc (.cells #[x0,x1,x2,x3,x4,x5] 50)).heap.size<=g)
    (hg5:w5.heap[g]?=some (.cells #[.int .i64 3,.string ⟨#[]⟩,.slice (some ⟨w4.heap.size,0,none⟩) 1 1,.int .i64 0,v1,v2,.int .i64 0] 45 (0,0))):
    MadeS B bm (n+1) w ([⟨3,⟨#[]⟩,[t],0,b1,b2,0⟩],E,ns) (.returned (.slice (some ⟨g,0,none⟩) 1 1)) w5:=by
 subst hW
 have z2:=hK.size
 have z3:=hK3.size
 have z4:=hK4.size
 have z5:=hb5.size
 simp only [alloc_size] at z3 z4 z5 hgl
 have hKE:KeepM B w2 (w2.alloc (.cells #[x0,x1,x2,x3,x4,x5] 50)):=(KeepM.refl B w2).alloc (by omega) _
 have hK5:KeepM B w4 w5:=KeepM.one _ (by omega) hb5
 have hp:w5.heap[w4.heap.size]?=some (.cells #[x0,x1,x2,x3,x4,x5] 50 (0,0)):=by rw [hb5.block _ (by rw [alloc_size];omega),alloc_at,if_pos rfl]
 have hb:Below w4.heap.size w4 w5:=((Below.refl w4.heap.size w4).alloc (Nat.le_refl _) _).trans (hb5.mono (by rw [alloc_size];omega))
 exact if_fin hB hK hE hz hKE hS1 hK3 (KeepM.refl B w3) hS2 hK4 hK5 (hM.below hb) hp (by omega) (by omega) hg5
end
end Go.Proofs.YtlepckjmdjjolaaGreatDoor
