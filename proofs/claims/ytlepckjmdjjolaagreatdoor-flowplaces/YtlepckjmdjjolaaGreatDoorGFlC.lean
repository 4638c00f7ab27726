/- Own texts laid together: FlBlock, FlLoop, FlLocal, FlCheck. Conditions: as each theorem says. -/
import Derived.Test.YtlepckjmdjjolaaGreatDoorGFlB
import Derived.Test.YtlepckjmdjjolaaGreatDoorGScA
set_option maxHeartbeats 8000000
set_option maxRecDepth 100000
set_option linter.unusedVariables false
set_option linter.unusedSimpArgs false
namespace Go.Proofs.YtlepckjmdjjolaaGreatDoor.Fl
open Go.ChangeShapes Go.WideShapes Go.ChangeAt Go.RowKit
open Sc (Mng mnone put localM putAll Dc declM bad meansOf firstBad none0 ScAt KeepX)
theorem leave_all_d (u:FrameMode) {X:Nat->Prop} {bs n:Nat} {st:St} {w:World} (h:ScAt X bs n st.f st.ls w) (hlen:st.ls.length<1000000) (mark:Nat):
 CallsD Tryz.prog 69 #[.pointer (some ⟨bs,0,none⟩),.int .i64 mark] u w fun e u' w'=>u'=u/\(e=.returned (.tuple #[])/\ScAt X bs n (leaveP st mark).f (leaveP st mark).ls w'/\KeepX X w w'):=by
 by_cases hm:mark<st.ls.length
 · have e:leaveP st mark=⟨putAll st.f (st.ls.drop mark),st.ls.take mark⟩:=by unfold leaveP;rw [if_pos hm]
   rw [e]
   exact Sc.leave_yes_d u h hlen mark hm
 · have e:leaveP st mark=st:=by unfold leaveP;rw [if_neg hm]
   rw [e]
   refine (Sc.leave_no_d u h mark (.inr (by omega))).mono ?_
   rintro e u' w' ⟨rfl,rfl,rfl⟩
   exact ⟨rfl,rfl,h,KeepX.refl _ _⟩
theorem leave_len (st:St) (mark:Nat):(leaveP st mark).ls.length<=st.ls.length:=by
 unfold leaveP
 split
 · simp;omega
 · exact Nat.le_refl _
theorem leave_ok {st:St} (h:okF st.f) (mark:Nat):okF (leaveP st mark).f:=by
 unfold leaveP
 split
 · exact okF_putAll _ h
 · exact h
theorem seq_at (S:St->Int->Stm->Except Er St) (pc:Int) (ss:List Stm) (st:St) (j:Nat) (x:Stm) (hx:ss[j]?=some x):seqP S pc st (ss.drop j)=match S st pc x with | .error y=>.error y | .ok st'=>seqP S pc st' (ss.drop (j+1)):=by
 have hlt:j<ss.length:=(List.getElem?_eq_some_iff.1 hx).1
 have e:ss.drop j=x :: ss.drop (j+1):=by
  rw [List.drop_eq_getElem_cons hlt,(List.getElem?_eq_some_iff.1 hx).2]
 rw [e]
 rfl
theorem tot_at (f:Stm->Nat) (ss:List Stm) (j:Nat) (x:Stm) (hx:ss[j]?=some x):tot f (ss.take j)+f x=tot f (ss.take (j+1)):=by
 have hlt:j<ss.length:=(List.getElem?_eq_some_iff.1 hx).1
 unfold tot
 rw [List.take_add_one,hx]
 simp
theorem tot_take (f:Stm->Nat) (ss:List Stm) (j:Nat):tot f (ss.take j)<=tot f ss:=by
 have e:tot f ss=tot f (ss.take j)+tot f (ss.drop j):=by
  unfold tot
  rw [<- List.sum_append,<- List.map_append,List.take_append_drop]
 omega
def endP (mark:Nat):Except Er St->Except Er St
 | .error x=>.error x
 | .ok st'=>.ok (leaveP st' mark)
theorem blkP_eq (S:St->Int->Stm->Except Er St) (st:St) (pc:Int) (ss:List Stm):blkP S st pc ss=endP st.ls.length (seqP S pc st ss):=by
 unfold blkP endP
 rfl
theorem end_err (mark:Nat) (x:Er):endP mark (.error x)=.error x:=rfl
theorem end_ok (mark:Nat) (q:St):endP mark (.ok q)=.ok (leaveP q mark):=rfl
theorem cutAt {P:Program} {c:Code} {Q:Exit->Act->World->Prop} {a:Act} {w:World} (A:Act) (W:World) (h:c.wp P (fun e a w=>match e with | .normal=>a=A/\w=W | _=>False) a w) (h2:Q .normal A W):c.wp P Q a w:=by
 refine Go.wp_mono h ?_
 intro e a w h
 cases e with
 | normal=>
   obtain ⟨rfl,rfl⟩:=h
   exact h2
 | _=>exact h.elim
theorem block_any {m n:Nat} (hst:∀ n',n=n'+1->StC 71 m n' (stmtP m (n'+1))):BlockC m n:=by
 intro X B bs k st pc v ss w hS hX hXB hf hl hk hd hn
 have HD:=Lib.hid hd
 obtain ⟨ao,cap,rfl,hlen,_⟩:=hd
 have hB:=below_size hX hXB
 have PM:=fun w1 (hb:Below w.heap.size w w1)=>Sc.mark_any (hS.below hb)
 have hb1:∀ o,Below w.heap.size w (w.alloc o).drew:=fun o=>((Below.refl _ _).alloc (Nat.le_refl _) o).drew
 obtain ⟨Y,hY⟩:∃ Y:Nat->Prop,Y=fun j=>X j\/j=w.heap.size:=⟨_,rfl⟩
 have hXY:∀ j,X j->Y j:=fun j h=>by rw [hY];exact .inl h
 have hY0:Y w.heap.size:=by rw [hY];exact .inr rfl
 have hYs:∀ w2:World,w.heap.size+1<=w2.heap.size->∀ j,Y j->j<w2.heap.size:=fun w2 h2 j h=>by
    rw [hY] at h
    rcases h with h | h
    · have:=hX j h
      omega
    · omega
 have HS0:=Lib.hid (fun o=>(hS.more (Y:=Y) fun j hj h=>by rw [hY] at h;exact h.elim id fun e=>by omega).below (hb1 o))
 have HYB:=Lib.hid (fun j h=>hXY j (hXB j h):∀ j,j<B->Y j)
 have HYs:=Lib.hid hYs
 have HXB:=Lib.hid hXB
 have HX:=Lib.hid hX
 have HXY:=Lib.hid hXY
 have HY0:=Lib.hid hY0
 have HF:=Lib.hid hf
 have HL:=Lib.hid hl
 have HK:=Lib.hid hk
 have HN:=Lib.hid hn
 have HB:=Lib.hid hB
 have HST:=Lib.hid hst
 rw [blkP_eq]
 obtain ⟨R,hR⟩:∃ R,seqP (stmtP m n) pc st ss=R:=⟨_,rfl⟩
 rw [hR]
 have HR:=Lib.hid hR
 clear hS hX hXB hf hl hk hn hB hst hY hXY hY0 hYs hR
 go_enter_defers Tryz.func40,Tryz.ntmps40
 go_wp2
 refine cutAt ⟨#[.agg #[.pointer (some ⟨bs,0,none⟩)],.slice ao ss.length cap,.int .i64 pc,.pointer (some ⟨w.heap.size,0,none⟩),undef,undef,.nilIface,undef,undef,undef,.pointer (some ⟨w.heap.size,0,none⟩),.pointer (some ⟨bs,0,none⟩),.pointer (some ⟨w.heap.size,0,none⟩),.pointer (some ⟨bs,0,none⟩),.int .i64 st.ls.length,undef,undef,undef,undef,undef,undef,undef,undef,undef,undef,undef,undef,undef,undef],[{ target:=.fn (.func 69) #[],args:=#[.pointer (some ⟨bs,0,none⟩),.int .i64 st.ls.length] }]⟩ (w.alloc (.cells #[.pointer (some ⟨bs,0,none⟩)] 106)).drew ?_ ?_
 · go_region_with (go_at_call 70;refine (PM _ ?_).mono ?_;(first | exact hb1 _ | exact Sc.below_drewq (hb1 _) _);rintro ed w2 ⟨rfl,hw⟩;subst hw)
   all_goals exact ⟨rfl,rfl⟩
 · clear PM
   go_wp2
   go_loopw [17] (fun i wr=>∃ (j:Nat) (st':St),j<=ss.length/\i=.int .i64 j/\KeepX X w wr/\wr.heap[w.heap.size]?=some (.cells #[.pointer (some ⟨bs,0,none⟩)] 106 (0,0))/\ScAt Y bs (k+tot (cntS n) (ss.take j)) st'.f st'.ls wr/\okF st'.f/\st'.ls.length<=k+tot (cntS n) (ss.take j)/\seqP (stmtP m n) pc st' (ss.drop j)=R) (fun i _=>ss.length-(intOf i).toNat)
   case atStart=>exact ⟨0,st,Nat.zero_le _,rfl,KeepX.of_below (hb1 _),heap_alloc_new w _,HS0.out _,HF.out,HL.out,HR.out⟩
   case round=>
    obtain ⟨j,st',hj,rfl,hkx,hcb,hsc,hf',hl',hres⟩:=hrel
    have hzr:=hkx.size
    have hcl:=Sc.heap_lt hcb
    have hcc:wr.cell? ⟨w.heap.size,0,none⟩=some (.pointer (some ⟨bs,0,none⟩)):=(Lib.cell_of_heap hcb 0).trans rfl
    have hkb:Below B w wr:=(hkx.mono (Y:=(· < B)) fun i _ h=>HXB.out i h).below HB.out
    have hk9:=HK.out
    have ht9:=tot_take (cntS n) ss j
    by_cases hlt:j<ss.length
    · obtain ⟨x,hx⟩:∃ x,ss[j]?=some x:=⟨ss[j],by simp [hlt]⟩
      have hxn:=HN.out x (List.mem_of_getElem? hx)
      rw [seq_at _ _ _ _ _ _ hx] at hres
      obtain ⟨_,_,er,_,hKr⟩:=HD.out.on hkb
      cases er
      obtain ⟨g,off,c0,c1,c2,c3,c4,c5,c6,rfl,_,hg,_,i0,i1,i2,i3,i4,i5,i6,hr⟩:=hKr j x hx
      cases n with
      | zero=>exact hr.elim
      | succ n=>
      obtain ⟨hc1,hc2,hsn,eao,ecap,bao,bcap,lao,lcap,hv,hKe,hSb,hSe⟩:=hr
      simp only [Value.agg.injEq,Array.mk.injEq,List.cons.injEq,and_true] at hv
      obtain ⟨rfl,rfl,rfl,rfl,rfl,rfl,rfl⟩:=hv
      have hb2:∀ o,Below wr.heap.size wr (wr.alloc o):=fun o=>(Below.refl _ _).alloc (Nat.le_refl _) o
      have hbB:∀ o,Below B wr (wr.alloc o):=fun o=>(hb2 o).mono (Nat.le_trans HB.out hzr)
      have htx:=tot_at (cntS (n+1)) ss j x hx
      have htk:=tot_take (cntS (n+1)) ss (j+1)
      have PS:=fun o=>HST.out n rfl Y B bs (k+tot (cntS (n+1)) (ss.take j)) st' pc x eao ecap bao bcap lao lcap (wr.alloc o) (hsc.below (hb2 o)) (HYs.out _ (by rw [alloc_size];omega)) HYB.out hf' hl' (by omega) (hKe.on (hbB o)) (hSb.on (hbB o)) (hSe.on (hbB o)) hsn hc1 hc2 hxn
      obtain ⟨R2,hR2⟩:∃ R,stmtP m (n+1) st' pc x=R:=⟨_,rfl⟩
      rw [hR2] at PS hres
      clear hR2 hKr hx hxn hKe hSb hSe
      unfold sval at PS
      cases R2 with
      | error y=>
        have HRs:=Lib.hid hres
        clear hres
        go_wp2_with (go_at_call 71;refine (PS _).mono ?_;rintro ed w1 ⟨hk1,fb,f2,ls2,rfl,hfb,hzf,hS2,hl2⟩)
        refine leaves_cons (f:=69) (args:=#[.pointer (some ⟨bs,0,none⟩),.int .i64 st.ls.length]) (by simp) (by simp [go_sem]) ?_
        refine (leave_all_d .returning (st:=⟨f2,ls2⟩) hS2 (by simp only;omega) st.ls.length).mono ?_
        rintro e u' w4 ⟨rfl,rfl,hS4,hk4⟩
        refine ⟨_,results_tmp rfl _ _ _,?_⟩
        rw [<- HRs.out,end_err]
        have hz9:=(hb2 (.cells #[.int .i64 x.kind,.string x.name,.slice eao x.exprs.length ecap,.int .i64 x.count,.slice bao x.body.length bcap,.slice lao x.els.length lcap,.int .i64 x.at_] 45)).size
        have hkk:KeepX X w w1:=hkx.trans ((KeepX.of_below (hb2 _)).trans (hk1.mono fun i _ h=>HXY.out i h))
        refine ⟨hkk.trans (hk4.mono fun i _ h=>.inl (HXY.out i h)),fb,_,_,rfl,(hk4.block fb (.inr rfl) (Sc.heap_lt hfb)).trans hfb,by omega,(hS4.more fun i _ h=>h.imp (HXY.out i) id).mono (by omega),Nat.le_trans (leave_len _ _) (by simp only;omega)⟩
      | ok st2=>
        have HRs:=Lib.hid hres
        clear hres
        go_wp2_with (go_at_call 71;refine (PS _).mono ?_;rintro ed w1 ⟨hk1,rfl,hS1,hf1,hl1⟩)
        go_roundw
        case rel=>
         exact ⟨j+1,st2,by omega,by go_num,hkx.trans ((KeepX.of_below (hb2 _)).trans (hk1.mono fun i _ h=>HXY.out i h)),(hk1.block _ HY0.out (by rw [alloc_size];omega)).trans (alloc_keep hcb _),by rw [<- htx,<- Nat.add_assoc];exact hS1,hf1,by omega,HRs.out⟩
        case measure=>simp [intOf];omega
    · obtain rfl:j=ss.length:=by omega
      rw [List.drop_length] at hres
      subst hres
      go_wp2
      refine leaves_cons (f:=69) (args:=#[.pointer (some ⟨bs,0,none⟩),.int .i64 st.ls.length]) (by simp) (by simp [go_sem]) ?_
      refine (leave_all_d .returning (st:=st') hsc (by omega) st.ls.length).mono ?_
      rintro e u' w4 ⟨rfl,rfl,hS4,hk4⟩
      refine ⟨_,results_tmp rfl _ _ _,?_⟩
      show FlowX X bs _ w (.ok (leaveP st' st.ls.length)) _ _
      exact ⟨hkx.trans (hk4.mono fun i _ h=>HXY.out i h),rfl,(hS4.more fun i _ h=>HXY.out i h).mono (by omega),leave_ok hf' _,Nat.le_trans (leave_len _ _) (by omega)⟩
theorem loop_no {S:St->Int->Stm->Except Er St} {st:St} {pc:Int} {s:Stm} (h:(st.f s.name).kind≠0):loopP S st pc s=.error (3,s.at_):=by
 unfold loopP enterP
 rw [if_neg h]
theorem loop_yes {S:St->Int->Stm->Except Er St} {st:St} {pc:Int} {s:Stm} (h:(st.f s.name).kind=0):loopP S st pc s=endP st.ls.length (blkP S ⟨put st.f s.name (localM 0 s.count),st.ls++[s.name]⟩ pc s.body):=by
 unfold loopP enterP
 rw [if_pos h]
 rfl
theorem loop_any {m n:Nat} (ih:BlockC m n):StC 107 m n (loopP (stmtP m n)):=by
 intro X B bs k st pc s ea ec ba bc la lc w hS hX hXB hf hl hk hE hbd hel hns hc1 hc2 hn
 have hB:=below_size hX hXB
 have hcn:cntS (n+1) s=1+tot (cntS n) s.body+tot (cntS n) s.els:=rfl
 rw [hcn] at hk ⊢
 obtain ⟨K,hKK⟩:∃ K,k+(1+tot (cntS n) s.body+tot (cntS n) s.els)=K:=⟨_,rfl⟩
 rw [hKK] at hk ⊢
 have PM:=fun w1 (hb:Below w.heap.size w w1)=>Sc.mark_any (hS.below hb)
 have hb1:∀ o o',Below w.heap.size w ((w.alloc o).alloc o').drew:=fun o o'=>(two_below w o o').drew
 obtain ⟨Y,hY⟩:∃ Y:Nat->Prop,Y=fun j=>X j\/j=w.heap.size\/j=w.heap.size+1:=⟨_,rfl⟩
 have hXY:∀ j,X j->Y j:=fun j h=>by rw [hY];exact .inl h
 have hY0:Y w.heap.size:=by rw [hY];exact .inr (.inl rfl)
 have hY1:Y (w.heap.size+1):=by rw [hY];exact .inr (.inr rfl)
 have hYs:∀ w2:World,w.heap.size+2<=w2.heap.size->∀ j,Y j->j<w2.heap.size:=fun w2 h2 j h=>by
    rw [hY] at h
    rcases h with h | h | h
    · have:=hX j h
      omega
    · omega
    · omega
 have hYB:∀ j,j<B->Y j:=fun j h=>hXY j (hXB j h)
 obtain ⟨W1,hW1⟩:∃ W1,W1=((w.alloc (.cells #[.pointer (some ⟨bs,0,none⟩)] 106)).alloc (.cells #[.int .i64 s.kind,.string s.name,.slice ea s.exprs.length ec,.int .i64 s.count,.slice ba s.body.length bc,.slice la s.els.length lc,.int .i64 s.at_] 45)).drew:=⟨_,rfl⟩
 have hz1:Below w.heap.size w W1:=by rw [hW1];exact hb1 _ _
 have hs1:w.heap.size+2<=W1.heap.size:=by rw [hW1];exact Nat.le_of_eq (two_size _ _ _).symm
 have hH1:W1.heap[w.heap.size+1]?=some (.cells #[.int .i64 s.kind,.string s.name,.slice ea s.exprs.length ec,.int .i64 s.count,.slice ba s.body.length bc,.slice la s.els.length lc,.int .i64 s.at_] 45 (0,0)):=by rw [hW1];exact two_second _ _ _
 have k1:W1.heap[w.heap.size]?=some (.cells #[.pointer (some ⟨bs,0,none⟩)] 106 (0,0)):=by rw [hW1];exact two_first _ _ _
 have hSY:ScAt Y bs k st.f st.ls W1:=(hS.more fun j hj h=>by rw [hY] at h;exact h.elim id fun e=>by omega).below hz1
 have c1:W1.cell? ⟨w.heap.size,0,none⟩=some (.pointer (some ⟨bs,0,none⟩)):=(Lib.cell_of_heap k1 0).trans rfl
 obtain ⟨q0,q1,q2,q3,q4,q5,q6⟩:=stmt_cells hH1
 have HXY:=Lib.hid hXY
 have HY0:=Lib.hid hY0
 have HY1:=Lib.hid hY1
 by_cases h0:(st.f s.name).kind=0
 · rw [loop_yes h0]
   have EY:=Sc.enter_yes hSY (hYs W1 hs1) (by unfold maxLen;omega) (by omega) s.name (nm_le hns) 0 s.count h0
   have PB:=fun w2 (hb:Below B w w2) (h2:w.heap.size+2<=w2.heap.size) (hS2:ScAt Y bs (k+1) (put st.f s.name (localM 0 s.count)) (st.ls++[s.name]) w2)=>ih Y B bs (k+1) ⟨put st.f s.name (localM 0 s.count),st.ls++[s.name]⟩ pc _ s.body w2 hS2 (hYs w2 h2) hYB (okF_enter hf s.name 0 s.count hc2) (by simp;omega) (by omega) (hbd.on hb) hn.2.1
   have HYB:=Lib.hid hYB
   have HB:=Lib.hid hB
   clear hS hX hXB hf hl hE hbd hel hns hc1 hn hY hYs hSY h0 hXY hY0 hY1 ih hcn hYB
   obtain ⟨R,hR⟩:∃ R,blkP (stmtP m n) ⟨put st.f s.name (localM 0 s.count),st.ls++[s.name]⟩ pc s.body=R:=⟨_,rfl⟩
   rw [hR] at PB ⊢
   clear hR
   cases R with
   | error x=>
     rw [end_err]
     unfold sval
     go_enter_defers Tryz.func107,Tryz.ntmps107
     go_wp2
     refine cutAt ⟨#[.agg #[.pointer (some ⟨bs,0,none⟩)],.agg #[.int .i64 s.kind,.string s.name,.slice ea s.exprs.length ec,.int .i64 s.count,.slice ba s.body.length bc,.slice la s.els.length lc,.int .i64 s.at_],.int .i64 pc,.pointer (some ⟨w.heap.size,0,none⟩),.pointer (some ⟨w.heap.size+1,0,none⟩),undef,.nilIface,.pointer (some ⟨w.heap.size,0,none⟩),.pointer (some ⟨bs,0,none⟩),.pointer (some ⟨w.heap.size,0,none⟩),.pointer (some ⟨bs,0,none⟩),.int .i64 st.ls.length,undef,undef,undef,undef,undef,undef,undef,undef,undef,undef,undef,undef,undef,undef,undef],[{ target:=.fn (.func 69) #[],args:=#[.pointer (some ⟨bs,0,none⟩),.int .i64 st.ls.length] }]⟩ W1 ?_ ?_
     · rw [hW1]
       go_region_with (go_at_call 70;refine (PM _ ?_).mono ?_;(first | exact hb1 _ _ | exact Sc.below_drewq (hb1 _ _) _ | exact two_below _ _ _ | exact Sc.below_drewq (two_below _ _ _) _);rintro ed w2 ⟨rfl,hw⟩;subst hw)
       all_goals exact ⟨rfl,rfl⟩
     clear PM hW1
     go_wp2_with (first
       | (go_at_call 40;refine PB3.mono ?_;rintro ed w3 ⟨hk3,fb,f2,ls2,rfl,hfb,hzf,hS3,hl3⟩)
       | (go_at_call 18;refine EY.mono ?_;rintro ed w2 ⟨rfl,hS2,hk2⟩;have hK2:=(KeepX.of_below (X:=Y) hz1).trans hk2;have hH2:=(hk2.block _ HY1.out (by omega)).trans hH1;have k2:=(hk2.block _ HY0.out (by omega)).trans k1;obtain ⟨r0,r1,r2,r3,r4,r5,r6⟩:=stmt_cells hH2;have c2:w2.cell? ⟨w.heap.size,0,none⟩=some (.pointer (some ⟨bs,0,none⟩)):=(Lib.cell_of_heap k2 0).trans rfl;have hs2:=Nat.le_trans hs1 hk2.size;have PB3:=PB w2 ((hK2.mono fun j _ h=>HYB.out j h).below HB.out) hs2 hS2))
     refine leaves_cons (f:=69) (args:=#[.pointer (some ⟨bs,0,none⟩),.int .i64 st.ls.length]) (by simp) (by simp [go_sem]) ?_
     refine (leave_all_d .returning (st:=⟨f2,ls2⟩) hS3 (by simp only;omega) st.ls.length).mono ?_
     rintro e u' w4 ⟨rfl,rfl,hS4,hk4⟩
     refine ⟨_,results_tmp rfl _ _ _,?_⟩
     refine ⟨((hK2.trans hk3).trans (hk4.mono fun i _ h=>.inl h)).mono fun i _ h=>HXY.out i h,fb,_,_,rfl,(hk4.block fb (.inr rfl) (Sc.heap_lt hfb)).trans hfb,by omega,(hS4.more fun i _ h=>h.imp (HXY.out i) id).mono (by omega),Nat.le_trans (leave_len _ _) (by simp only;omega)⟩
   | ok st2=>
     rw [end_ok]
     unfold sval
     go_enter_defers Tryz.func107,Tryz.ntmps107
     go_wp2
     refine cutAt ⟨#[.agg #[.pointer (some ⟨bs,0,none⟩)],.agg #[.int .i64 s.kind,.string s.name,.slice ea s.exprs.length ec,.int .i64 s.count,.slice ba s.body.length bc,.slice la s.els.length lc,.int .i64 s.at_],.int .i64 pc,.pointer (some ⟨w.heap.size,0,none⟩),.pointer (some ⟨w.heap.size+1,0,none⟩),undef,.nilIface,.pointer (some ⟨w.heap.size,0,none⟩),.pointer (some ⟨bs,0,none⟩),.pointer (some ⟨w.heap.size,0,none⟩),.pointer (some ⟨bs,0,none⟩),.int .i64 st.ls.length,undef,undef,undef,undef,undef,undef,undef,undef,undef,undef,undef,undef,undef,undef,undef],[{ target:=.fn (.func 69) #[],args:=#[.pointer (some ⟨bs,0,none⟩),.int .i64 st.ls.length] }]⟩ W1 ?_ ?_
     · rw [hW1]
       go_region_with (go_at_call 70;refine (PM _ ?_).mono ?_;(first | exact hb1 _ _ | exact Sc.below_drewq (hb1 _ _) _ | exact two_below _ _ _ | exact Sc.below_drewq (two_below _ _ _) _);rintro ed w2 ⟨rfl,hw⟩;subst hw)
       all_goals exact ⟨rfl,rfl⟩
     clear PM hW1
     go_wp2_with (first
       | (go_at_call 40;refine PB3.mono ?_;rintro ed w3 ⟨hk3,rfl,hS3,hf3,hl3⟩)
       | (go_at_call 18;refine EY.mono ?_;rintro ed w2 ⟨rfl,hS2,hk2⟩;have hK2:=(KeepX.of_below (X:=Y) hz1).trans hk2;have hH2:=(hk2.block _ HY1.out (by omega)).trans hH1;have k2:=(hk2.block _ HY0.out (by omega)).trans k1;obtain ⟨r0,r1,r2,r3,r4,r5,r6⟩:=stmt_cells hH2;have c2:w2.cell? ⟨w.heap.size,0,none⟩=some (.pointer (some ⟨bs,0,none⟩)):=(Lib.cell_of_heap k2 0).trans rfl;have hs2:=Nat.le_trans hs1 hk2.size;have PB3:=PB w2 ((hK2.mono fun j _ h=>HYB.out j h).below HB.out) hs2 hS2))
     refine leaves_cons (f:=69) (args:=#[.pointer (some ⟨bs,0,none⟩),.int .i64 st.ls.length]) (by simp) (by simp [go_sem]) ?_
     refine (leave_all_d .returning (st:=st2) hS3 (by omega) st.ls.length).mono ?_
     rintro e u' w4 ⟨rfl,rfl,hS4,hk4⟩
     refine ⟨_,results_tmp rfl _ _ _,?_⟩
     exact ⟨((hK2.trans hk3).trans hk4).mono fun i _ h=>HXY.out i h,rfl,(hS4.more fun i _ h=>HXY.out i h).mono (by omega),leave_ok hf3 _,Nat.le_trans (leave_len _ _) (by omega)⟩
 · rw [loop_no h0]
   have EN:=Sc.enter_no hSY s.name (nm_le hns) 0 s.count h0
   have HM:=fun w=>mistake_any s ea ec ba bc la lc w
   have HSY:=Lib.hid hSY
   have HL:=Lib.hid hl
   clear hS hX hXB hf hl hE hbd hel hns hc1 hn hY hYs hSY h0 hXY hY0 hY1 ih hcn hYB
   unfold sval at HM ⊢
   go_enter_defers Tryz.func107,Tryz.ntmps107
   go_wp2
   refine cutAt ⟨#[.agg #[.pointer (some ⟨bs,0,none⟩)],.agg #[.int .i64 s.kind,.string s.name,.slice ea s.exprs.length ec,.int .i64 s.count,.slice ba s.body.length bc,.slice la s.els.length lc,.int .i64 s.at_],.int .i64 pc,.pointer (some ⟨w.heap.size,0,none⟩),.pointer (some ⟨w.heap.size+1,0,none⟩),undef,.nilIface,.pointer (some ⟨w.heap.size,0,none⟩),.pointer (some ⟨bs,0,none⟩),.pointer (some ⟨w.heap.size,0,none⟩),.pointer (some ⟨bs,0,none⟩),.int .i64 st.ls.length,undef,undef,undef,undef,undef,undef,undef,undef,undef,undef,undef,undef,undef,undef,undef],[{ target:=.fn (.func 69) #[],args:=#[.pointer (some ⟨bs,0,none⟩),.int .i64 st.ls.length] }]⟩ W1 ?_ ?_
   · rw [hW1]
     go_region_with (go_at_call 70;refine (PM _ ?_).mono ?_;(first | exact hb1 _ _ | exact Sc.below_drewq (hb1 _ _) _ | exact two_below _ _ _ | exact Sc.below_drewq (two_below _ _ _) _);rintro ed w2 ⟨rfl,hw⟩;subst hw)
     all_goals exact ⟨rfl,rfl⟩
   clear PM hW1
   go_wp2_with (first
    | (go_at_call 131;refine (HM _).mono ?_;rintro ed w3 ⟨hbl,fb,rfl,hfb,hzf⟩)
    | (go_at_call 18;refine EN.mono ?_;rintro ed w2 ⟨rfl,rfl⟩))
   refine leaves_cons (f:=69) (args:=#[.pointer (some ⟨bs,0,none⟩),.int .i64 st.ls.length]) (by simp) (by simp [go_sem]) ?_
   have hS3:ScAt (fun j=>Y j\/j=fb) bs k st.f st.ls w3:=(HSY.out.more fun j hj h=>h.elim id fun e=>by omega).below hbl
   have hL:=HL.out
   refine (leave_all_d .returning (st:=st) hS3 (by omega) st.ls.length).mono ?_
   rintro e u' w4 ⟨rfl,rfl,hS4,hk4⟩
   refine ⟨_,results_tmp rfl _ _ _,?_⟩
   refine ⟨((KeepX.of_below (X:=Y) (hz1.trans (hbl.mono hz1.size))).trans (hk4.mono fun i _ h=>.inl h)).mono fun i _ h=>HXY.out i h,fb,_,_,rfl,(hk4.block fb (.inr rfl) (Sc.heap_lt hfb)).trans hfb,by omega,(hS4.more fun i _ h=>h.imp (HXY.out i) id).mono (by omega),Nat.le_trans (leave_len _ _) (by omega)⟩
theorem store_c (m n:Nat):StC 105 m n (storeP m):=by
 intro X B bs k st pc s ea ec ba bc la lc w hS hX hXB hf hl hk hE hbd hel hns hc1 hc2 hn
 exact (store_any (B:=0) (hS.more fun j _ h=>absurd h (Nat.not_lt_zero _)) hf (data_of hX hXB hE) hn.1 hns).mono fun ed w' h=>(ErrR.flow hS hf hl h fun st' e=>store_st st' e).more (by omega)
def locInv (w1:World) (l pc:Int) (Post:World->Prop) (L:Nat->Bool) (g:Nat) (w:World):Prop:=
 (L 8=false->Below w1.heap.size w1 w/\(L 6=true->PairAt w l pc (.slice (some ⟨g,0,none⟩) 2 2)))/\(L 8=true->Post w)
def locV (w:World) (bs:Nat) (s:ByteArray) (l pc:Int) (g:Nat):Nat->Value
 | 0=>.pointer (some ⟨w.heap.size,0,none⟩)
 | 1=>.pointer (some ⟨bs,0,none⟩)
 | 2=>.pointer (some ⟨w.heap.size+1,1,none⟩)
 | 3=>.string s
 | 4=>.int .i64 l
 | 5=>.int .i64 pc
 | 6=>.slice (some ⟨g,0,none⟩) 2 2
 | 7=>.int .i64 (joinI l pc)
 | 8=>.bool true
 | 9=>.bool false
 | _=>undef
theorem local_c (m n:Nat):StC 103 m n (localP m):=by
 intro X B bs k st pc s ea ec ba bc la lc w hS hX hXB hf hl hk hE hbd hel hns hc1 hc2 hn
 have hB:=below_size hX hXB
 have hcp:=cnt_pos (n+1) s
 have hS0:ScAt (· < 0) bs k st.f st.ls w:=hS.more fun j _ h=>absurd h (Nat.not_lt_zero _)
 have hE0:=data_of hX hXB hE
 have PV:=fun o o'=>value_any (m:=m) (B:=0) (st:=st) (s:=s) (ea:=ea) (ba:=ba) (la:=la) (ec:=ec) (bc:=bc) (lc:=lc) (hS0.below (two_below w o o')) hf (kids_later hE0 (two_below w o o')) hn.1
 have HM:=fun w=>mistake_any s ea ec ba bc la lc w
 unfold localP
 obtain ⟨R,hR⟩:∃ R,valueP m st.f s=R:=⟨_,rfl⟩
 rw [hR] at PV ⊢
 have HS:=Lib.hid hS
 have HL:=Lib.hid hl
 have HF:=Lib.hid hf
 clear hR hS0 hE0 hE
 cases R with
 | error x=>
   have hfin:=fun ed w' h=>(ErrR.flow (r:=.error x) (w':=w') (ed:=ed) HS.out HF.out HL.out h (fun _ h=>by cases h)).more (Nat.le_add_right k (cntS (n+1) s))
   clear hS hX hXB hf hl hk hbd hel hn hns hc1 hc2 hB HM
   unfold sval at PV ⊢
   go_enter Tryz.func103,Tryz.ntmps103
   go_wp2_with (go_at_call 130;refine (PV _ _).mono ?_;rintro ed w1 ⟨hb2,fb,rfl,hfb,hzf⟩)
   go_returns
   exact hfin _ _ ⟨((two_below w _ _).trans (hb2.mono (two_below w _ _).size)),fb,rfl,hfb,Nat.le_trans (two_below w _ _).size hzf⟩
 | ok l=>
   obtain ⟨Y,hY⟩:∃ Y:Nat->Prop,Y=fun j=>X j\/j=w.heap.size\/j=w.heap.size+1:=⟨_,rfl⟩
   have hXY:∀ j,X j->Y j:=fun j h=>by rw [hY];exact .inl h
   have hYs:∀ w2:World,w.heap.size+2<=w2.heap.size->∀ j,Y j->j<w2.heap.size:=fun w2 h2 j h=>by
    rw [hY] at h
    rcases h with h | h | h
    · have:=hX j h
      omega
    · omega
    · omega
   have hSY:∀ w2,Below w.heap.size w w2->ScAt Y bs k st.f st.ls w2:=fun w2 hb=>(hS.more fun j hj h=>by rw [hY] at h;exact h.elim id fun e=>by omega).below hb
   by_cases h0:(st.f s.name).kind=0
   · have hP:enterP st s.name (joinI l pc) 0=some ⟨put st.f s.name (localM (joinI l pc) 0),st.ls++[s.name]⟩:=by unfold enterP;rw [if_pos h0]
     show Calls _ _ _ _ (FlowX X bs (k+cntS (n+1) s) w (match enterP st s.name (joinI l pc) 0 with | none=>.error (3,s.at_) | some st'=>.ok st'))
     rw [hP]
     show Calls _ _ _ _ (FlowX X bs (k+cntS (n+1) s) w (.ok ⟨put st.f s.name (localM (joinI l pc) 0),st.ls++[s.name]⟩))
     obtain ⟨f2,hf2⟩:∃ f2,f2=put st.f s.name (localM (joinI l pc) 0):=⟨_,rfl⟩
     obtain ⟨ls2,hls2⟩:∃ ls2,ls2=st.ls++[s.name]:=⟨_,rfl⟩
     have hok2:okF f2:=by rw [hf2];exact okF_enter hf _ _ _ (by omega)
     have hlen2:ls2.length<=k+1:=by rw [hls2];simp;omega
     have EY0:=fun wr (hb:Below w.heap.size w wr) (h2:w.heap.size+2<=wr.heap.size)=>Sc.enter_yes (hSY wr hb) (hYs wr h2) (by unfold maxLen;omega) (by omega) s.name (nm_le hns) (joinI l pc) 0 h0
     rw [<- hf2,<- hls2] at EY0
     rw [<- hf2,<- hls2]
     clear hf2 hls2 hP hS hX hXB hf hl hk hbd hel hn hns hc1 hc2 hB HM hY hYs hSY h0
     unfold sval at PV ⊢
     go_enter Tryz.func103,Tryz.ntmps103
     go_wp2_with (go_at_call 130;refine (PV _ _).mono ?_;rintro ed w1 ⟨hb2,rfl⟩;have hH1:=keep hb2 (two_second w _ _);have k0:=keep hb2 (two_first w _ _);have hz1:=((two_below w _ _).trans (hb2.mono (two_below w _ _).size));have hs1:w.heap.size+2<=w1.heap.size:=Nat.le_trans (Nat.le_of_eq (two_size _ _ _).symm) hb2.size)
     obtain ⟨Post,hPost⟩:∃ Post:World->Prop,Post=fun wz=>ScAt Y bs (k+1) f2 ls2 wz/\KeepX Y w1 wz:=⟨_,rfl⟩
     have EY:∀ wr,Below w1.heap.size w1 wr->Calls Tryz.prog 18 #[.pointer (some ⟨bs,0,none⟩),.string s.name,.int .i64 (joinI l pc),.int .i64 0] wr fun e w'=>e=.returned (.bool true)/\Post w':=fun wr hb=>(EY0 wr (hz1.trans (hb.mono hz1.size)) (Nat.le_trans hs1 hb.size)).mono fun e w' h=>⟨h.1,by rw [hPost];exact ⟨h.2.1,(KeepX.of_below hb).trans h.2.2⟩⟩
     have hfin:∀ wz,Post wz->FlowX X bs (k+cntS (n+1) s) w (.ok ⟨f2,ls2⟩) (.returned .nilIface) wz:=fun wz h=>by
        rw [hPost] at h
        exact FlowX.more (k:=k+1) ⟨(KeepX.of_below hz1).trans (h.2.mono fun j _ h=>hXY j h),rfl,h.1.more fun j _ h=>hXY j h,hok2,hlen2⟩ (by omega)
     clear hPost EY0 hok2 hlen2 hXY hcp hs1
     refine wp_region_slots (by kernel_rfl) (by kernel_rfl) (by kernel_rfl) (by kernel_rfl) (locV w bs s.name l pc) (locInv w1 l pc Post) 0 ⟨fun _=>⟨(Below.refl _ _).drew,fun e=>by cases e⟩,fun e=>by cases e⟩ ?_ ?_
     · intro L g a wr i op hop hLi hpre hC hI hS K hK
       have s2:a.tmps[2]?.getD undef=.int .i64 pc:=(hS.old2 2 (by kernel_rfl)).trans rfl
       have s3:a.tmps[3]?.getD undef=.pointer (some ⟨w.heap.size,0,none⟩):=(hS.old2 3 (by kernel_rfl)).trans rfl
       have s4:a.tmps[4]?.getD undef=.pointer (some ⟨w.heap.size+1,0,none⟩):=(hS.old2 4 (by kernel_rfl)).trans rfl
       have s7:a.tmps[7]?.getD undef=.int .i64 l:=(hS.old2 7 (by kernel_rfl)).trans rfl
       match i with
       | 0=>
         obtain rfl:=Option.some.inj hop
         have no8:L 8=false:=by cases h:L 8 with | false=>rfl | true=>exact absurd (hC.at 1 0 (by kernel_rfl) (hC.at 8 1 (by kernel_rfl) h)) (by simp [hLi])
         have u:=hI.1 no8
         have kk:=keep u.1 k0
         have k1:wr.cell? ⟨w.heap.size,0,none⟩=some (.pointer (some ⟨bs,0,none⟩)):=by rw [Lib.cell_of_heap kk];rfl
         obtain ⟨q0,q1,q2,q3,q4,q5,q6⟩:=stmt_cells (keep u.1 hH1)
         go_simp
         exact hK _ _ ⟨g,fun _=>rfl,fun _ _ _=>rfl,fun _=>⟨u.1,fun e=>u.2 (by simpa using e)⟩,fun e=>by simp only [show ¬ (8=0) by decide,if_false,no8] at e;cases e⟩
       | 1=>
         obtain rfl:=Option.some.inj hop
         have no8:L 8=false:=by cases h:L 8 with | false=>rfl | true=>exact absurd (hC.at 8 1 (by kernel_rfl) h) (by simp [hLi])
         have u:=hI.1 no8
         have kk:=keep u.1 k0
         have k1:wr.cell? ⟨w.heap.size,0,none⟩=some (.pointer (some ⟨bs,0,none⟩)):=by rw [Lib.cell_of_heap kk];rfl
         obtain ⟨q0,q1,q2,q3,q4,q5,q6⟩:=stmt_cells (keep u.1 hH1)
         have n0:=hS.new2 0 18 (by kernel_rfl) (pre_at hpre 0 (by kernel_rfl)) (show 18<30 by decide)
         simp only [locV] at n0
         go_simp
         exact hK _ _ ⟨g,fun _=>rfl,fun _ _ _=>rfl,fun _=>⟨u.1,fun e=>u.2 (by simpa using e)⟩,fun e=>by simp only [show ¬ (8=1) by decide,if_false,no8] at e;cases e⟩
       | 2=>
         obtain rfl:=Option.some.inj hop
         have no8:L 8=false:=by cases h:L 8 with | false=>rfl | true=>exact absurd (hC.at 3 2 (by kernel_rfl) (hC.at 8 3 (by kernel_rfl) h)) (by simp [hLi])
         have u:=hI.1 no8
         have kk:=keep u.1 k0
         have k1:wr.cell? ⟨w.heap.size,0,none⟩=some (.pointer (some ⟨bs,0,none⟩)):=by rw [Lib.cell_of_heap kk];rfl
         obtain ⟨q0,q1,q2,q3,q4,q5,q6⟩:=stmt_cells (keep u.1 hH1)
         go_simp
         exact hK _ _ ⟨g,fun _=>rfl,fun _ _ _=>rfl,fun _=>⟨u.1,fun e=>u.2 (by simpa using e)⟩,fun e=>by simp only [show ¬ (8=2) by decide,if_false,no8] at e;cases e⟩
       | 3=>
         obtain rfl:=Option.some.inj hop
         have no8:L 8=false:=by cases h:L 8 with | false=>rfl | true=>exact absurd (hC.at 8 3 (by kernel_rfl) h) (by simp [hLi])
         have u:=hI.1 no8
         have kk:=keep u.1 k0
         have k1:wr.cell? ⟨w.heap.size,0,none⟩=some (.pointer (some ⟨bs,0,none⟩)):=by rw [Lib.cell_of_heap kk];rfl
         obtain ⟨q0,q1,q2,q3,q4,q5,q6⟩:=stmt_cells (keep u.1 hH1)
         have n2:=hS.new2 2 20 (by kernel_rfl) (pre_at hpre 2 (by kernel_rfl)) (show 20<30 by decide)
         simp only [locV] at n2
         go_simp
         exact hK _ _ ⟨g,fun _=>rfl,fun _ _ _=>rfl,fun _=>⟨u.1,fun e=>u.2 (by simpa using e)⟩,fun e=>by simp only [show ¬ (8=3) by decide,if_false,no8] at e;cases e⟩
       | 4=>
         obtain rfl:=Option.some.inj hop
         have no8:L 8=false:=by cases h:L 8 with | false=>rfl | true=>exact absurd (hC.at 6 4 (by kernel_rfl) (hC.at 7 6 (by kernel_rfl) (hC.at 8 7 (by kernel_rfl) h))) (by simp [hLi])
         have u:=hI.1 no8
         have kk:=keep u.1 k0
         have k1:wr.cell? ⟨w.heap.size,0,none⟩=some (.pointer (some ⟨bs,0,none⟩)):=by rw [Lib.cell_of_heap kk];rfl
         obtain ⟨q0,q1,q2,q3,q4,q5,q6⟩:=stmt_cells (keep u.1 hH1)
         go_simp
         exact hK _ _ ⟨g,fun _=>rfl,fun _ _ _=>rfl,fun _=>⟨u.1,fun e=>u.2 (by simpa using e)⟩,fun e=>by simp only [show ¬ (8=4) by decide,if_false,no8] at e;cases e⟩
       | 5=>
         obtain rfl:=Option.some.inj hop
         have no8:L 8=false:=by cases h:L 8 with | false=>rfl | true=>exact absurd (hC.at 6 5 (by kernel_rfl) (hC.at 7 6 (by kernel_rfl) (hC.at 8 7 (by kernel_rfl) h))) (by simp [hLi])
         have u:=hI.1 no8
         have kk:=keep u.1 k0
         have k1:wr.cell? ⟨w.heap.size,0,none⟩=some (.pointer (some ⟨bs,0,none⟩)):=by rw [Lib.cell_of_heap kk];rfl
         obtain ⟨q0,q1,q2,q3,q4,q5,q6⟩:=stmt_cells (keep u.1 hH1)
         go_simp
         exact hK _ _ ⟨g,fun _=>rfl,fun _ _ _=>rfl,fun _=>⟨u.1,fun e=>u.2 (by simpa using e)⟩,fun e=>by simp only [show ¬ (8=5) by decide,if_false,no8] at e;cases e⟩
       | 6=>
         obtain rfl:=Option.some.inj hop
         have no8:L 8=false:=by cases h:L 8 with | false=>rfl | true=>exact absurd (hC.at 7 6 (by kernel_rfl) (hC.at 8 7 (by kernel_rfl) h)) (by simp [hLi])
         have u:=hI.1 no8
         have kk:=keep u.1 k0
         have k1:wr.cell? ⟨w.heap.size,0,none⟩=some (.pointer (some ⟨bs,0,none⟩)):=by rw [Lib.cell_of_heap kk];rfl
         obtain ⟨q0,q1,q2,q3,q4,q5,q6⟩:=stmt_cells (keep u.1 hH1)
         have n4:=hS.new2 4 22 (by kernel_rfl) (pre_at hpre 4 (by kernel_rfl)) (show 22<30 by decide)
         simp only [locV] at n4
         have n5:=hS.new2 5 23 (by kernel_rfl) (pre_at hpre 5 (by kernel_rfl)) (show 23<30 by decide)
         simp only [locV] at n5
         go_simp
         refine hK _ _ ⟨wr.heap.size,fun _=>rfl,fun j hj hLj=>?_,fun _=>⟨u.1.alloc u.1.size _,fun _=>⟨wr.heap.size,rfl,by rw [alloc_size];omega,by rw [Lib.cell_of_heap (heap_alloc_new _ _)];rfl,by rw [Lib.cell_of_heap (heap_alloc_new _ _)];rfl⟩⟩,fun e=>by simp only [show ¬ (8=6) by decide,if_false,no8] at e;cases e⟩
         unfold locV;split <;> first | rfl | exact absurd rfl hj
       | 7=>
         obtain rfl:=Option.some.inj hop
         have no8:L 8=false:=by cases h:L 8 with | false=>rfl | true=>exact absurd (hC.at 8 7 (by kernel_rfl) h) (by simp [hLi])
         have u:=hI.1 no8
         have kk:=keep u.1 k0
         have k1:wr.cell? ⟨w.heap.size,0,none⟩=some (.pointer (some ⟨bs,0,none⟩)):=by rw [Lib.cell_of_heap kk];rfl
         obtain ⟨q0,q1,q2,q3,q4,q5,q6⟩:=stmt_cells (keep u.1 hH1)
         have n6:=hS.new2 6 24 (by kernel_rfl) (pre_at hpre 6 (by kernel_rfl)) (show 24<30 by decide)
         simp only [locV] at n6
         obtain ⟨gg,eg,hgl,hg0,hg1⟩:=u.2 (pre_at hpre 6 (by kernel_rfl))
         simp only [Value.slice.injEq,Option.some.injEq,Addr.mk.injEq,and_true] at eg
         subst eg
         go_simp
         go_at_call 72
         refine (join_two _ l pc wr hg0 hg1).mono ?_
         rintro ed w5 ⟨rfl,rfl⟩
         go_simp
         exact hK _ _ ⟨g,fun _=>rfl,fun _ _ _=>rfl,fun _=>⟨u.1,fun e=>u.2 (by simpa using e)⟩,fun e=>by simp only [show ¬ (8=7) by decide,if_false,no8] at e;cases e⟩
       | 8=>
         obtain rfl:=Option.some.inj hop
         have u:=hI.1 hLi
         have n1:=hS.new2 1 19 (by kernel_rfl) (pre_at hpre 1 (by kernel_rfl)) (show 19<30 by decide)
         simp only [locV] at n1
         have n3:=hS.new2 3 21 (by kernel_rfl) (pre_at hpre 3 (by kernel_rfl)) (show 21<30 by decide)
         simp only [locV] at n3
         have n7:=hS.new2 7 25 (by kernel_rfl) (pre_at hpre 7 (by kernel_rfl)) (show 25<30 by decide)
         simp only [locV] at n7
         go_simp
         go_at_call 18
         refine (EY wr u.1).mono ?_
         rintro ed w5 ⟨rfl,hP5⟩
         go_simp
         exact hK _ _ ⟨g,fun _=>rfl,fun _ _ _=>rfl,fun e=>by simp at e,fun _=>hP5⟩
       | 9=>
         obtain rfl:=Option.some.inj hop
         have h8:=pre_at hpre 8 (by kernel_rfl)
         have u:=hI.2 h8
         have n8:=hS.new2 8 26 (by kernel_rfl) (pre_at hpre 8 (by kernel_rfl)) (show 26<30 by decide)
         simp only [locV] at n8
         go_simp
         exact hK _ _ ⟨g,fun _=>rfl,fun _ _ _=>rfl,⟨fun e=>absurd ((show L 8=false from e).symm.trans h8) (by decide),fun _=>u⟩⟩
       | _+10=>simp at hop
     · intro L g wz hL hI
       have hP:=hI.2 (hL 8 (by decide))
       clear hI EY
       refine at_all (prs [18,19,20,21,22,23,24,25,26,27] (locV w bs s.name l pc g)) (fun t=>by kernel_rfl) ?_
       simp only [prs,List.zipIdx,List.map,List.foldl,Nat.zero_add,Nat.reduceAdd,List.setIfInBounds_toArray,List.set_cons_zero,List.set_cons_succ,locV]
       go_wp2
       go_returns
       exact hfin wz hP
   · have hP:enterP st s.name (joinI l pc) 0=none:=by unfold enterP;rw [if_neg h0]
     show Calls _ _ _ _ (FlowX X bs (k+cntS (n+1) s) w (match enterP st s.name (joinI l pc) 0 with | none=>.error (3,s.at_) | some st'=>.ok st'))
     rw [hP]
     show Calls _ _ _ _ (FlowX X bs (k+cntS (n+1) s) w (.error (3,s.at_)))
     have hfin:=fun ed w' h=>(ErrR.flow (r:=.error (3,s.at_)) (w':=w') (ed:=ed) HS.out HF.out HL.out h (fun _ h=>by cases h)).more (Nat.le_add_right k (cntS (n+1) s))
     have EN0:=fun wr (hb:Below w.heap.size w wr)=>Sc.enter_no (hSY wr hb) s.name (nm_le hns) (joinI l pc) 0 h0
     clear hP hS hX hXB hf hl hk hbd hel hn hns hc1 hc2 hB hY hYs hSY h0 hXY hcp
     unfold sval at PV HM ⊢
     go_enter Tryz.func103,Tryz.ntmps103
     go_wp2_with (go_at_call 130;refine (PV _ _).mono ?_;rintro ed w1 ⟨hb2,rfl⟩;have hH1:=keep hb2 (two_second w _ _);have k0:=keep hb2 (two_first w _ _);have hz1:=((two_below w _ _).trans (hb2.mono (two_below w _ _).size));have hs1:w.heap.size+2<=w1.heap.size:=Nat.le_trans (Nat.le_of_eq (two_size _ _ _).symm) hb2.size)
     have EN:=fun wr (hb:Below w1.heap.size w1 wr)=>EN0 wr (hz1.trans (hb.mono hz1.size))
     clear EN0 hs1
     refine wp_region_mono (by kernel_rfl) (by kernel_rfl) (by kernel_rfl) (by kernel_rfl) (by kernel_rfl) (fun (i:Nat) (v:Value) (wv:World)=>match i with | 0=>v=.pointer (some ⟨w.heap.size,0,none⟩) | 1=>v=.pointer (some ⟨bs,0,none⟩) | 2=>v=.pointer (some ⟨w.heap.size+1,1,none⟩) | 3=>v=.string s.name | 4=>v=.int .i64 l | 5=>v=.int .i64 pc | 6=>PairAt wv l pc v | 7=>v=.int .i64 (joinI l pc) | 8=>v=.bool false | 9=>v=.bool true | _=>True) ?_ [] (by kernel_rfl) ?_ ?_ ?_
     · intro i v w w' hb h
       match i with
       | 0=>exact h
       | 1=>exact h
       | 2=>exact h
       | 3=>exact h
       | 4=>exact h
       | 5=>exact h
       | 6=>exact PairAt.on h hb
       | 7=>exact h
       | 8=>exact h
       | 9=>exact h
       | _+10=>trivial
     · intro p hp v w h
       cases hp
     · intro a wr i op hop hb hF hP K hK
       have s2:a.tmps[2]?.getD undef=.int .i64 pc:=(hF 2 (by kernel_rfl)).trans rfl
       have s3:a.tmps[3]?.getD undef=.pointer (some ⟨w.heap.size,0,none⟩):=(hF 3 (by kernel_rfl)).trans rfl
       have s4:a.tmps[4]?.getD undef=.pointer (some ⟨w.heap.size+1,0,none⟩):=(hF 4 (by kernel_rfl)).trans rfl
       have s7:a.tmps[7]?.getD undef=.int .i64 l:=(hF 7 (by kernel_rfl)).trans rfl
       have kk:=keep hb k0
       have k1:wr.cell? ⟨w.heap.size,0,none⟩=some (.pointer (some ⟨bs,0,none⟩)):=by rw [Lib.cell_of_heap kk];rfl
       obtain ⟨q0,q1,q2,q3,q4,q5,q6⟩:=stmt_cells (keep hb hH1)
       match i with
       | 0=>
         obtain rfl:=Option.some.inj hop
         go_simp
         exact hK _ _ (Below.refl _ _) fun _=>by first | rfl | exact wrap_val (by omega)
       | 1=>
         obtain rfl:=Option.some.inj hop
         have n0:a.tmps[18]?.getD undef=.pointer (some ⟨w.heap.size,0,none⟩):=hP 0 18 (by kernel_rfl) (by kernel_rfl)
         go_simp
         exact hK _ _ (Below.refl _ _) fun _=>by first | rfl | exact wrap_val (by omega)
       | 2=>
         obtain rfl:=Option.some.inj hop
         go_simp
         exact hK _ _ (Below.refl _ _) fun _=>by first | rfl | exact wrap_val (by omega)
       | 3=>
         obtain rfl:=Option.some.inj hop
         have n2:a.tmps[20]?.getD undef=.pointer (some ⟨w.heap.size+1,1,none⟩):=hP 2 20 (by kernel_rfl) (by kernel_rfl)
         go_simp
         exact hK _ _ (Below.refl _ _) fun _=>by first | rfl | exact wrap_val (by omega)
       | 4=>
         obtain rfl:=Option.some.inj hop
         go_simp
         exact hK _ _ (Below.refl _ _) fun _=>by first | rfl | exact wrap_val (by omega)
       | 5=>
         obtain rfl:=Option.some.inj hop
         go_simp
         exact hK _ _ (Below.refl _ _) fun _=>by first | rfl | exact wrap_val (by omega)
       | 6=>
         obtain rfl:=Option.some.inj hop
         have n4:a.tmps[22]?.getD undef=.int .i64 l:=hP 4 22 (by kernel_rfl) (by kernel_rfl)
         have n5:a.tmps[23]?.getD undef=.int .i64 pc:=hP 5 23 (by kernel_rfl) (by kernel_rfl)
         go_simp
         exact hK _ _ ((Below.refl _ _).alloc (Nat.le_refl _) _) fun _=>⟨wr.heap.size,rfl,by rw [alloc_size];omega,by rw [Lib.cell_of_heap (heap_alloc_new _ _)];rfl,by rw [Lib.cell_of_heap (heap_alloc_new _ _)];rfl⟩
       | 7=>
         obtain rfl:=Option.some.inj hop
         obtain ⟨gg,n6,hgl,hg0,hg1⟩:PairAt wr l pc (a.tmps[24]?.getD undef):=(hP 6 24 (by kernel_rfl) (by kernel_rfl))
         go_simp
         go_at_call 72
         refine (join_two gg l pc wr hg0 hg1).mono ?_
         rintro ed w5 ⟨rfl,rfl⟩
         go_simp
         exact hK _ _ (Below.refl _ _) fun _=>by first | rfl | exact wrap_val (by omega)
       | 8=>
         obtain rfl:=Option.some.inj hop
         have n1:a.tmps[19]?.getD undef=.pointer (some ⟨bs,0,none⟩):=hP 1 19 (by kernel_rfl) (by kernel_rfl)
         have n3:a.tmps[21]?.getD undef=.string s.name:=hP 3 21 (by kernel_rfl) (by kernel_rfl)
         have n7:a.tmps[25]?.getD undef=.int .i64 (joinI l pc):=hP 7 25 (by kernel_rfl) (by kernel_rfl)
         go_simp
         go_at_call 18
         refine (EN wr hb).mono ?_
         rintro ed w5 ⟨rfl,hw5⟩
         obtain rfl:=hw5.symm
         go_simp
         exact hK _ _ (Below.refl _ _) fun _=>by first | rfl | exact wrap_val (by omega)
       | 9=>
         obtain rfl:=Option.some.inj hop
         have n8:a.tmps[26]?.getD undef=.bool false:=hP 8 26 (by kernel_rfl) (by kernel_rfl)
         go_simp
         exact hK _ _ (Below.refl _ _) fun _=>by first | rfl | exact wrap_val (by omega)
       | _+10=>simp at hop
     · intro V wz hbz hR
       have e9:V 9=.bool true:=hR 9 (by kernel_rfl)
       clear hR EN
       refine at_all (prs [18,19,20,21,22,23,24,25,26,27] V) (fun t=>by kernel_rfl) ?_
       simp only [prs,List.zipIdx,List.map,List.foldl,Nat.zero_add,Nat.reduceAdd,List.setIfInBounds_toArray,List.set_cons_zero,List.set_cons_succ,e9]
       have hHz:=keep hbz hH1
       have h0z:=hz1.trans (hbz.mono hz1.size)
       obtain ⟨r0,r1,r2,r3,r4,r5,r6⟩:=stmt_cells hHz
       go_wp2_with (go_at_call 131;refine (HM _).mono ?_;rintro ed w3 ⟨hbl,fb,rfl,hfb,hzf⟩)
       go_returns
       exact hfin _ _ ⟨h0z.trans (hbl.mono h0z.size),fb,rfl,hfb,Nat.le_trans h0z.size hzf⟩
end Go.Proofs.YtlepckjmdjjolaaGreatDoor.Fl
namespace Go.Proofs.YtlepckjmdjjolaaGreatDoor.Fl
open Go.ChangeShapes Go.WideShapes Go.ChangeAt Go.RowKit
open Sc (Mng mnone put localM putAll Dc declM bad meansOf firstBad none0 ScAt KeepX DsAt OfPost)
theorem block_all (m:Nat):∀ n,BlockC m n
 | 0=>block_any (fun n' e=>by omega)
 | n+1=>block_any (fun n' e=>by
    obtain rfl:n=n':=by omega
    exact stmt_any (local_c m n) (store_c m n) (loop_any (block_all m n)) (block_all m n))
theorem ds_of {w:World} {v:Value} {ds:List Dcl} (h:Dcls 0 w.heap.size w v ds):DsAt w v (ds.map toDc):=by
 obtain ⟨ao,cap,rfl,hl,hr⟩:=h
 refine ⟨ao,cap,by simp,by simp;omega,fun i d hd=>?_⟩
 rw [List.getElem?_map] at hd
 cases hx:ds[i]? with
 | none=>rw [hx] at hd;cases hd
 | some x=>
   rw [hx] at hd
   simp only [Option.map_some,Option.some.injEq] at hd
   subst hd
   obtain ⟨⟨_,_,n1,n2⟩,g,off,e,_,hg,_,h0,h1,h2,h3,h4,h5⟩:=hr i x hx
   exact ⟨by show x.name.size<=maxLen;unfold maxLen;omega,by show x.by_.size<=maxLen;unfold maxLen;omega,g,off,e,hg,h0,h1,h2,h3,h4,h5⟩
def cntT (n:Nat) (ts:List (List Stm)):Nat:=(ts.map (tot (cntS n))).sum
theorem cntT_at (n:Nat) (ts:List (List Stm)) (j:Nat) (x:List Stm) (hx:ts[j]?=some x):cntT n (ts.take j)+tot (cntS n) x=cntT n (ts.take (j+1)):=by
 rw [List.take_add_one,hx]
 simp [cntT]
theorem cntT_take (n:Nat) (ts:List (List Stm)) (j:Nat):cntT n (ts.take j)<=cntT n ts:=by
 have e:cntT n ts=cntT n (ts.take j)+cntT n (ts.drop j):=by
    unfold cntT
    rw [<- List.sum_append,<- List.map_append,List.take_append_drop]
 omega
theorem thr_at (m n:Nat) (st:St) (ts:List (List Stm)) (j:Nat) (x:List Stm) (hx:ts[j]?=some x):threadsP m n st (ts.drop j)=match blkP (stmtP m n) st 0 x with | .error y=>some y | .ok st'=>threadsP m n st' (ts.drop (j+1)):=by
 have hj:j<ts.length:=(List.getElem?_eq_some_iff.1 hx).1
 rw [List.drop_eq_getElem_cons hj]
 have:ts[j]=x:=by rw [List.getElem?_eq_getElem hj] at hx;exact Option.some.inj hx
 rw [this]
 rfl
def ChkR (w:World) (r:Option Er) (ed:Ending) (w':World):Prop:=
 Below w.heap.size w w'/\match r with
 | none=>ed=.returned .nilIface
 | some x=>∃ fb,ed=.returned (faultV fb)/\FaultAt w' x.1 x.2 fb/\w.heap.size<=fb
theorem box_two {w:World} {k:Nat} {t:TypeId} {x0 x1:Value} (h:w.heap[k]?=some (.cells #[x0,x1] t (0,0))):w.cell? ⟨k,0,none⟩=some x0/\w.cell? ⟨k,1,none⟩=some x1:=⟨by rw [Lib.cell_of_heap h];rfl,by rw [Lib.cell_of_heap h];rfl⟩
theorem check_any {m n:Nat} {p:Prg} {dv tv:Value} {w:World} (hD:Dcls 0 w.heap.size w dv p.decls) (hT:Thrs 0 w.heap.size m n w tv p.threads) (hk:p.decls.length+cntT n p.threads<=900000) (hn:∀ ss ∈ p.threads,∀ s ∈ ss,nmS m n s):
    Calls Tryz.prog 16 #[.agg #[dv,tv]] w (ChkR w (checkP m n p)):=by
 obtain ⟨decls,threads⟩:=p
 simp only at hD hT hk hn
 have HD:=Lib.hid hD
 have HT:=Lib.hid hT
 have HN:=Lib.hid hn
 have hbx:∀ o,Below w.heap.size w (w.alloc o):=fun o=>(Below.refl _ _).alloc (Nat.le_refl _) o
 obtain ⟨dao,dcap,rfl,hdl,_⟩:=hD
 obtain ⟨tao,tcap,rfl,htl,_⟩:=hT
 have PO:=Sc.of_any (decls.map toDc) (.slice dao decls.length dcap) (w.alloc (.cells #[.slice dao decls.length dcap,.slice tao threads.length tcap] 26)) ((ds_of HD.out).below (hbx _)) (by simp;omega)
 clear hn
 unfold checkP
 cases hF:firstBad none0 (decls.map toDc) with
 | some d=>
   have HF:=Lib.hid hF
   clear hF
   go_enter Tryz.func16,Tryz.ntmps16
   go_wp2_with fail
   go_at_call 17
   refine PO.mono ?_
   rintro e w1 ⟨hb1,⟨h,_⟩ | ⟨d',fb,h,rfl,hfb,hft⟩⟩
   · rw [HF.out] at h;cases h
   · rw [HF.out] at h
     cases h
     go_wp2
     go_returns
     exact ⟨(hbx _).trans (hb1.mono (hbx _).size),fb,rfl,hft,Nat.le_trans (hbx _).size hfb⟩
 | none=>
   have HF:=Lib.hid hF
   clear hF
   show Calls _ _ _ _ (ChkR w (threadsP m n ⟨meansOf none0 (decls.map toDc),[]⟩ threads))
   obtain ⟨R,hR⟩:∃ R,threadsP m n ⟨meansOf none0 (decls.map toDc),[]⟩ threads=R:=⟨_,rfl⟩
   rw [hR]
   have HR:=Lib.hid hR
   clear hR
   go_enter Tryz.func16,Tryz.ntmps16
   go_wp2_with fail
   go_at_call 17
   refine PO.mono ?_
   rintro e w1 ⟨hb1,⟨_,bs,rfl,hS1⟩ | ⟨d',fb,h,_⟩⟩
   · have h01:Below w.heap.size w w1:=(hbx _).trans (hb1.mono (hbx _).size)
     have hP1:w1.heap[w.heap.size]?=some (.cells #[.slice dao decls.length dcap,.slice tao threads.length tcap] 26 (0,0)):=(hb1.block _ (by rw [alloc_size];omega)).trans (heap_alloc_new _ _)
     have hz1:=hb1.size
     rw [alloc_size] at hz1
     rw [alloc_size] at hS1
     obtain ⟨p0,p1⟩:=box_two hP1
     obtain ⟨w2,hw2⟩:∃ w2,w2=w1.alloc (.cells #[.pointer (some ⟨bs,0,none⟩)] 106):=⟨_,rfl⟩
     have hC2:w2.heap[w1.heap.size]?=some (.cells #[.pointer (some ⟨bs,0,none⟩)] 106 (0,0)):=by rw [hw2];exact heap_alloc_new _ _
     have hb12:Below w1.heap.size w1 w2:=by rw [hw2];exact (Below.refl _ _).alloc (Nat.le_refl _) _
     have h02:=h01.trans (hb12.mono h01.size)
     obtain ⟨Y,hY⟩:∃ Y:Nat->Prop,Y=fun j=>j<w.heap.size\/j=w.heap.size\/j=w1.heap.size:=⟨_,rfl⟩
     have hlt1:=hS1.lt
     have hS2:ScAt Y bs decls.length (meansOf none0 (decls.map toDc)) [] w2:=by
        have hq:(decls.map toDc).length=decls.length:=by simp
        rw [hq] at hS1
        refine (hS1.more fun j hj h=>?_).below hb12
        rw [hY] at h
        rcases h with h | h | h <;> omega
     have hYs:∀ w3:World,w2.heap.size<=w3.heap.size->∀ j,Y j->j<w3.heap.size:=fun w3 h3 j h=>by
        have:=hb12.size
        have:=heap_lt hC2
        rw [hY] at h
        rcases h with h | h | h <;> omega
     have HYB:Hid (∀ j,j<w.heap.size->Y j):=Lib.hid fun j h=>by rw [hY];exact .inl h
     have HY1:Hid (Y w1.heap.size):=Lib.hid (by rw [hY];exact .inr (.inr rfl))
     have HYs:=Lib.hid hYs
     have HS2:=Lib.hid hS2
     have H02:=Lib.hid h02
     have HC2:=Lib.hid hC2
     have hP2:w2.heap[w.heap.size]?=some (.cells #[.slice dao decls.length dcap,.slice tao threads.length tcap] 26 (0,0)):=(hb12.block _ (by omega)).trans hP1
     obtain ⟨pp0,pp1⟩:=box_two hP2
     have hz2:=h02.size
     have HW:=Lib.hid hw2
     rw [hw2] at pp0 pp1
     clear hS2 hS1 hYs h02 hC2 hP1 hb1 h01 hY hw2
     go_wp2
     go_loopw [23] (fun i wr=>∃ (j:Nat) (st':St),j<=threads.length/\i=.int .i64 j/\KeepX Y w2 wr/\ScAt Y bs (decls.length+cntT n (threads.take j)) st'.f st'.ls wr/\okF st'.f/\st'.ls.length<=decls.length+cntT n (threads.take j)/\threadsP m n st' (threads.drop j)=R) (fun i _=>threads.length-(intOf i).toNat)
     case atStart=>exact ⟨0,⟨meansOf none0 (decls.map toDc),[]⟩,Nat.zero_le _,rfl,HW.out ▸ KeepX.refl _ _,HW.out ▸ HS2.out,okF_means _ okF_none,Nat.zero_le _,HR.out⟩
     case round=>
        obtain ⟨j,st',hj,rfl,hkx,hsc,hf',hl',hres⟩:=hrel
        have hkb:Below w.heap.size w wr:=H02.out.trans ((hkx.mono (Y:=(· < w.heap.size)) fun i _ h=>HYB.out i h).below hz2)
        have hcc:wr.cell? ⟨w1.heap.size,0,none⟩=some (.pointer (some ⟨bs,0,none⟩)):=(Lib.cell_of_heap ((hkx.block _ HY1.out (heap_lt HC2.out)).trans HC2.out) 0).trans rfl
        by_cases hlt:j<threads.length
        · obtain ⟨x,hx⟩:∃ x,threads[j]?=some x:=⟨threads[j],by simp [hlt]⟩
          have hxn:=HN.out x (List.mem_of_getElem? hx)
          rw [thr_at _ _ _ _ _ _ hx] at hres
          obtain ⟨_,_,er,_,hKr⟩:=HT.out.on hkb
          cases er
          obtain ⟨g,off,sao,scap,rfl,_,hg,_,i0,hSs⟩:=hKr j x hx
          have htx:=cntT_at n threads j x hx
          have htk:=cntT_take n threads (j+1)
          have PB:=block_all m n Y w.heap.size bs _ st' 0 _ x wr hsc (HYs.out wr hkx.size) HYB.out hf' hl' (by omega) hSs hxn
          obtain ⟨R2,hR2⟩:∃ R,blkP (stmtP m n) st' 0 x=R:=⟨_,rfl⟩
          rw [hR2] at PB hres
          have HX:=Lib.hid htx
          clear hR2 hKr hx hxn hSs htx htk
          cases R2 with
          | error y=>
            have HRs:=Lib.hid hres
            clear hres
            go_wp2_with (go_at_call 40;refine PB.mono ?_;rintro ed w3 ⟨hk3,fb,f2,ls2,rfl,hfb,hzf,_⟩)
            go_returns
            rw [<- HRs.out]
            exact ⟨H02.out.trans (((hkx.trans hk3).mono (Y:=(· < w.heap.size)) fun i _ h=>HYB.out i h).below hz2),fb,rfl,hfb,by have:=hkx.size;omega⟩
          | ok st2=>
            have HRs:=Lib.hid hres
            clear hres
            go_wp2_with (go_at_call 40;refine PB.mono ?_;rintro ed w3 ⟨hk3,rfl,hS3,hf3,hl3⟩)
            go_roundw
            case rel=>exact ⟨j+1,st2,by omega,by go_num,hkx.trans hk3,by rw [<- HX.out,<- Nat.add_assoc];exact hS3,hf3,by rw [<- HX.out];omega,HRs.out⟩
            case measure=>simp [intOf];omega
        · obtain rfl:j=threads.length:=by omega
          rw [List.drop_length] at hres
          subst hres
          go_wp2
          go_returns
          exact ⟨hkb,rfl⟩
   · rw [HF.out] at h;cases h
end Go.Proofs.YtlepckjmdjjolaaGreatDoor.Fl
