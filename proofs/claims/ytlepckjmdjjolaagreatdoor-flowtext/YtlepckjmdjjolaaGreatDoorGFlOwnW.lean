/- Own texts laid together: FlOwnK, FlWant. Conditions: as each theorem says. -/
import Derived.Test.YtlepckjmdjjolaaGreatDoorGFlOwnS
import Derived.Test.YtlepckjmdjjolaaGreatDoorGFlD
set_option maxHeartbeats 8000000
set_option maxRecDepth 100000
set_option linter.unusedVariables false
set_option linter.unusedSimpArgs false
namespace Go.Proofs.YtlepckjmdjjolaaGreatDoor.Fl
open Go.ChangeShapes Go.WideShapes Go.ChangeAt Go.RowKit
open Sc (Mng mnone put localM putAll Dc declM bad meansOf firstBad none0 ScAt KeepX)
theorem OwnX.more {X:Nat->Prop} {bs k k':Nat} {w:World} {r:Except Er St} {e:Ending} {w':World} (h:OwnX X bs k w r e w') (hk:k<=k'):OwnX X bs k' w r e w':=by
 obtain ⟨h1,h2⟩:=h
 refine ⟨h1,?_⟩
 cases r with
 | ok st=>
   obtain ⟨a,b,c,d,e⟩:=h2
   exact ⟨a,b.mono hk,c,d,Nat.le_trans e hk⟩
 | error x=>
   obtain ⟨a,b,f,ls,c,d⟩:=h2
   exact ⟨a,b,f,ls,c.mono hk,Nat.le_trans d hk⟩
theorem stmt_k0 {m n:Nat} {st:St} {pc:Int} {s:Stm} (h:s.kind=0):stmtP m (n+1) st pc s=localP m st pc s:=by simp [stmtP,h]
theorem stmt_k1 {m n:Nat} {st:St} {pc:Int} {s:Stm} (h:s.kind=1):stmtP m (n+1) st pc s=assignP m st pc s:=by simp [stmtP,h]
theorem stmt_k2 {m n:Nat} {st:St} {pc:Int} {s:Stm} (h:s.kind=2):stmtP m (n+1) st pc s=storeP m st pc s:=by simp [stmtP,h]
theorem stmt_k3 {m n:Nat} {st:St} {pc:Int} {s:Stm} (h:s.kind=3):stmtP m (n+1) st pc s=choiceP m (stmtP m n) st pc s:=by simp [stmtP,h]
theorem stmt_k4 {m n:Nat} {st:St} {pc:Int} {s:Stm} (h:s.kind=4):stmtP m (n+1) st pc s=loopP (stmtP m n) st pc s:=by simp [stmtP,h]
theorem stmt_leak {m n:Nat} {st:St} {pc:Int} {s:Stm} (h:4<s.kind) (hp:pc≠0):stmtP m (n+1) st pc s=.error (4,s.at_):=by
 have a:¬ s.kind=0:=by omega
 have b:¬ s.kind=1:=by omega
 have c:¬ s.kind=2:=by omega
 have d:¬ s.kind=3:=by omega
 have e:¬ s.kind=4:=by omega
 simp [stmtP,a,b,c,d,e,hp]
theorem stmt_seen {m n:Nat} {st:St} {s:Stm} (h:4<s.kind):stmtP m (n+1) st 0 s=seenP m st s:=by
 have a:¬ s.kind=0:=by omega
 have b:¬ s.kind=1:=by omega
 have c:¬ s.kind=2:=by omega
 have d:¬ s.kind=3:=by omega
 have e:¬ s.kind=4:=by omega
 simp [stmtP,a,b,c,d,e]
theorem seen_lock {m:Nat} {st:St} {s:Stm} (h:s.kind=5\/s.kind=6):seenP m st s=if (st.f s.name).kind=1 then .ok st else .error (3,s.at_):=by unfold seenP;rw [if_pos h]
theorem seen_9 {m:Nat} {st:St} {s:Stm} (h:s.kind=9):seenP m st s=match valueP m st.f s with | .error x=>.error x | .ok l=>intoP st s l 0:=by unfold seenP;rw [if_neg (by omega),if_pos h];rfl
theorem seen_7 {m:Nat} {st:St} {s:Stm} (h:s.kind=7):seenP m st s=match valueP m st.f s with | .error x=>.error x | .ok l=>if (st.f s.name).kind=2 then intoP st s l (st.f s.name).label else .error (3,s.at_):=by unfold seenP;rw [if_neg (by omega),if_neg (by omega),if_pos h];rfl
theorem seen_8 {m:Nat} {st:St} {s:Stm} (h:s.kind=8):seenP m st s=.ok st:=by unfold seenP;rw [if_neg (by omega),if_neg (by omega),if_neg (by omega)]
theorem store_res {m:Nat} {st:St} {pc:Int} {sn:ByteArray} {sc sa:Int} {a b:Tree} {sb sl:List Stm} : storeP m st pc ⟨2,sn,[a,b],sc,sb,sl,sa⟩=resS st sa pc (cellP st.f (labelP st.f m) (boundP st.f m) sn [a] sa) (labelP st.f m b):=by
 unfold storeP
 simp only
 cases cellP st.f (labelP st.f m) (boundP st.f m) sn [a] sa with
 | error x=>rfl
 | ok to=>cases labelP st.f m b <;> rfl
def StW (m n:Nat):Prop:=∀ (X:Nat->Prop) (B bs k:Nat) (st:St) (pc:Int) (s:Stm) (ea:Option Addr) (ec:Nat) (ba:Option Addr) (bc:Nat) (la:Option Addr) (lc:Nat) (w:World),ScAt X bs k st.f st.ls w->(∀ j,X j->j<w.heap.size)->(∀ j,j<B->X j)->okF st.f->okB st.f->st.ls.length<=k->k+cntS (n+1) s<=900000 ->
 Kids 0 B w (fun v' t'=>ERep 0 B w m v' t') (.slice ea s.exprs.length ec) s.exprs->Stms 0 B w (fun v' s'=>SRep 0 B w m n v' s') (.slice ba s.body.length bc) s.body->Stms 0 B w (fun v' s'=>SRep 0 B w m n v' s') (.slice la s.els.length lc) s.els->s.name.size<=35184372088832->nmS m (n+1) s->Pr.gS m (n+1) s ->
 Calls Tryz.prog 90 #[.pointer (some ⟨bs,0,none⟩),sval s ea ec ba bc la lc,.int .i64 pc] w (OwnX X bs (k+cntS (n+1) s) w (stmtP m (n+1) st pc s))
theorem ostmt_all {m n:Nat} (ih:BlockW m n):StW m n:=by
 intro X B bs k st pc s ea ec ba bc la lc w hS hX hXB hf hfb hl hk hE hbd hel hns hn hg
 have hcp:=cnt_pos (n+1) s
 have hct:cntS (n+1) s=1+tot (cntS n) s.body+tot (cntS n) s.els:=rfl
 obtain ⟨hnE,hnb,hne⟩:=hn
 obtain ⟨sk,sn,sx,sc,sb,sl,sa⟩:=s
 simp only at hE hbd hel hns hnE hnb hne hct
 unfold sval
 rcases hg with ⟨h0,_,⟨e,h1,_⟩,_,_,_⟩ | ⟨h0,_,⟨e,h1,_⟩,_,_,_⟩ | ⟨h0,_,⟨a,b,h1,_,_⟩,_,_,_⟩ | ⟨h0,_,⟨e,h1,_⟩,_,hgb,hge⟩ | ⟨h0,_,_,⟨c,hc,hc1,hc2⟩,hgb,hle⟩ | ⟨h0,_⟩ | ⟨h0,_⟩ | ⟨h0,_,⟨e,h1,_⟩,_⟩ | ⟨h0,_⟩ | ⟨h0,_,⟨e,h1,_⟩,_⟩
 · simp only at h0 h1
   subst h0 h1
   rw [stmt_k0 rfl]
   exact (os_0 (d:=0) hS hX hXB hf hfb hl hns hE (hnE e (by simp)) (by omega)).mono fun _ _ h=>h.more (by omega)
 · simp only at h0 h1
   subst h0 h1
   rw [stmt_k1 rfl]
   exact (os_1 (d:=0) hS hX hXB hf hfb hl hns hE (hnE e (by simp))).mono fun _ _ h=>h.more (by omega)
 · simp only at h0 h1
   subst h0 h1
   rw [stmt_k2 rfl,store_res]
   exact (os_2 (d:=0) hS hX hXB hf hfb hl hns hE (hnE a (by simp)) (hnE b (by simp))).mono fun _ _ h=>h.more (by omega)
 · simp only at h0 h1 hgb hge
   subst h0 h1
   rw [stmt_k3 rfl]
   exact (os_3 (d:=tot (cntS n) sb+tot (cntS n) sl) hS hX hXB hf hfb hl hns hE (hnE e (by simp)) (by omega) (Nat.le_refl _) ih hbd hel hnb hne hgb hge).mono fun _ _ h=>h.more (by omega)
 · simp only at h0 hc hgb
   subst h0
   rw [stmt_k4 rfl]
   have hc':sc=(c:Int):=hc
   exact (os_4 (sc:=sc) (d:=tot (cntS n) sb) hS hX hXB hf hfb hl hns (by omega) (by omega) (Nat.le_refl _) ih hbd hnb hgb).mono fun _ _ h=>h.more (by omega)
 · simp only at h0
   subst h0
   by_cases hp:pc=0
   · subst hp
     rw [stmt_seen (by simp),seen_lock (.inl rfl)]
     exact (os_lock5 (d:=0) hS hX hf hfb hl hns).mono fun _ _ h=>h.more (by omega)
   · rw [stmt_leak (by simp) hp]
     exact (os_leak (d:=0) hS hX hf hfb hl hns (by simp) hp).mono fun _ _ h=>h.more (by omega)
 · simp only at h0
   subst h0
   by_cases hp:pc=0
   · subst hp
     rw [stmt_seen (by simp),seen_lock (.inr rfl)]
     exact (os_lock6 (d:=0) hS hX hf hfb hl hns).mono fun _ _ h=>h.more (by omega)
   · rw [stmt_leak (by simp) hp]
     exact (os_leak (d:=0) hS hX hf hfb hl hns (by simp) hp).mono fun _ _ h=>h.more (by omega)
 · simp only at h0 h1
   subst h0 h1
   by_cases hp:pc=0
   · subst hp
     rw [stmt_seen (by simp),seen_7 rfl]
     exact (os_7 (d:=0) hS hX hXB hf hfb hl hns hE (hnE e (by simp)) rfl).mono fun _ _ h=>h.more (by omega)
   · rw [stmt_leak (by simp) hp]
     exact (os_leak (d:=0) hS hX hf hfb hl hns (by simp) hp).mono fun _ _ h=>h.more (by omega)
 · simp only at h0
   subst h0
   by_cases hp:pc=0
   · subst hp
     rw [stmt_seen (by simp),seen_8 rfl]
     exact (os_fence (d:=0) hS hX hf hfb hl hns).mono fun _ _ h=>h.more (by omega)
   · rw [stmt_leak (by simp) hp]
     exact (os_leak (d:=0) hS hX hf hfb hl hns (by simp) hp).mono fun _ _ h=>h.more (by omega)
 · simp only at h0 h1
   subst h0 h1
   by_cases hp:pc=0
   · subst hp
     rw [stmt_seen (by simp),seen_9 rfl]
     exact (os_9 (d:=0) hS hX hXB hf hfb hl hns hE (hnE e (by simp)) rfl).mono fun _ _ h=>h.more (by omega)
   · rw [stmt_leak (by simp) hp]
     exact (os_leak (d:=0) hS hX hf hfb hl hns (by simp) hp).mono fun _ _ h=>h.more (by omega)
theorem oblock_any {m n:Nat} (hst:∀ n',n=n'+1->StW m n'):BlockW m n:=by
 intro X B bs k st pc v ss w hS hX hXB hf hfb hl hk hd hn hgs
 have HD:=Lib.hid hd
 obtain ⟨ao,cap,rfl,hlen,_⟩:=hd
 have hB:=below_size hX hXB
 have PM:=fun w1 (hb:Below w.heap.size w w1)=>Sc.mark_any (hS.below hb)
 have hb1:∀ o,Below w.heap.size w (w.alloc o):=fun o=>(Below.refl _ _).alloc (Nat.le_refl _) o
 obtain ⟨Y,hY⟩:∃ Y:Nat->Prop,Y=fun j=>X j\/j=w.heap.size:=⟨_,rfl⟩
 have hXY:∀ j,X j->Y j:=fun j h=>by rw [hY];exact .inl h
 have hY0:Y w.heap.size:=by rw [hY];exact .inr rfl
 have hYs:∀ w2:World,w.heap.size+1<=w2.heap.size->∀ j,Y j->j<w2.heap.size:=fun w2 h2 j h=>by
    rw [hY] at h
    rcases h with h | h
    · have:=hX j h
      omega
    · omega
 have HS0:=Lib.hid (fun o=>(hS.more (Y:=Y) fun j hj h=>by rw [hY] at h;exact h.elim id fun e=>by omega).below (hb1 o))
 have HYB:=Lib.hid (fun j h=>hXY j (hXB j h):∀ j,j<B->Y j)
 have HYs:=Lib.hid hYs
 have HXB:=Lib.hid hXB
 have HX:=Lib.hid hX
 have HXY:=Lib.hid hXY
 have HY0:=Lib.hid hY0
 have HF:=Lib.hid hf
 have HFB:=Lib.hid hfb
 have HL:=Lib.hid hl
 have HK:=Lib.hid hk
 have HN:=Lib.hid hn
 have HG:=Lib.hid hgs
 have HB:=Lib.hid hB
 have HST:=Lib.hid hst
 rw [blkP_eq]
 obtain ⟨R,hR⟩:∃ R,seqP (stmtP m n) pc st ss=R:=⟨_,rfl⟩
 rw [hR]
 have HR:=Lib.hid hR
 clear hS hX hXB hf hfb hl hk hn hgs hB hst hY hXY hY0 hYs hR
 go_enter Tryz.func62,Tryz.ntmps62
 go_wp2_with (go_at_call 70;refine (PM _ (hb1 _)).mono ?_;rintro ed w2 ⟨rfl,hw2⟩;subst hw2)
 clear PM
 go_loopw [15] (fun i wr=>∃ (j:Nat) (st':St),j<=ss.length/\i=.int .i64 j/\KeepX X w wr/\wr.heap[w.heap.size]?=some (.cells #[.int .i64 0,.int .i64 0,.int .i64 0] 67 (0,0))/\ScAt Y bs (k+tot (cntS n) (ss.take j)) st'.f st'.ls wr/\okF st'.f/\okB st'.f/\st'.ls.length<=k+tot (cntS n) (ss.take j)/\seqP (stmtP m n) pc st' (ss.drop j)=R) (fun i _=>ss.length-(intOf i).toNat)
 case atStart=>exact ⟨0,st,Nat.zero_le _,rfl,KeepX.of_below (hb1 _),heap_alloc_new w _,HS0.out _,HF.out,HFB.out,HL.out,HR.out⟩
 case round=>
    obtain ⟨j,st',hj,rfl,hkx,hcb,hsc,hf',hfb',hl',hres⟩:=hrel
    have hzr:=hkx.size
    have hcl:=Sc.heap_lt hcb
    have hkb:Below B w wr:=(hkx.mono (Y:=(· < B)) fun i _ h=>HXB.out i h).below HB.out
    have hk9:=HK.out
    have ht9:=tot_take (cntS n) ss j
    by_cases hlt:j<ss.length
    · obtain ⟨x,hx⟩:∃ x,ss[j]?=some x:=⟨ss[j],by simp [hlt]⟩
      have hxn:=HN.out x (List.mem_of_getElem? hx)
      have hxg:=HG.out x (List.mem_of_getElem? hx)
      rw [seq_at _ _ _ _ _ _ hx] at hres
      obtain ⟨_,_,er,_,hKr⟩:=HD.out.on hkb
      cases er
      obtain ⟨g,off,c0,c1,c2,c3,c4,c5,c6,rfl,_,hg,_,i0,i1,i2,i3,i4,i5,i6,hr⟩:=hKr j x hx
      cases n with
      | zero=>exact hr.elim
      | succ n=>
      obtain ⟨hc1,hc2,hsn,eao,ecap,bao,bcap,lao,lcap,hv,hKe,hSb,hSe⟩:=hr
      simp only [Value.agg.injEq,Array.mk.injEq,List.cons.injEq,and_true] at hv
      obtain ⟨rfl,rfl,rfl,rfl,rfl,rfl,rfl⟩:=hv
      have hb2:∀ o,Below wr.heap.size wr (wr.alloc o):=fun o=>(Below.refl _ _).alloc (Nat.le_refl _) o
      have hbB:∀ o,Below B wr (wr.alloc o):=fun o=>(hb2 o).mono (Nat.le_trans HB.out hzr)
      have htx:=tot_at (cntS (n+1)) ss j x hx
      have htk:=tot_take (cntS (n+1)) ss (j+1)
      have PS:=fun o=>HST.out n rfl Y B bs (k+tot (cntS (n+1)) (ss.take j)) st' pc x eao ecap bao bcap lao lcap (wr.alloc o) (hsc.below (hb2 o)) (HYs.out _ (by rw [alloc_size];omega)) HYB.out hf' hfb' hl' (by omega) (hKe.on (hbB o)) (hSb.on (hbB o)) (hSe.on (hbB o)) hsn hxn hxg
      obtain ⟨R2,hR2⟩:∃ R,stmtP m (n+1) st' pc x=R:=⟨_,rfl⟩
      rw [hR2] at hres
      simp only [hR2] at PS
      clear hR2 hKr hx hxn hxg hKe hSb hSe
      unfold sval at PS
      have hkk:∀ o,KeepX X w (wr.alloc o):=fun o=>hkx.trans (KeepX.of_below (hb2 o))
      cases R2 with
      | error y=>
        have HRs:=Lib.hid hres
        clear hres
        go_wp2_with (go_at_call 90;refine (PS _).mono ?_;rintro ed w1 ⟨hk1,rfl,hx,f2,ls2,hS2,hl2⟩;have hxb:(y.1 != 0)=true:=(by simpa using hx);have H1:=(hk1.block _ HY0.out (by rw [alloc_size];omega)).trans (alloc_keep hcb _);have r0:=fun o=>(wr_cells (alloc_keep H1 o)).1;have r1:=fun o=>(wr_cells (alloc_keep H1 o)).2.1;have r2:=fun o=>(wr_cells (alloc_keep H1 o)).2.2;have f0:=fun o=>Lib.frozen_of_heap (alloc_keep H1 o) 0;have f1:=fun o=>Lib.frozen_of_heap (alloc_keep H1 o) 1;have f3:=fun o=>Lib.frozen_of_heap (alloc_keep H1 o) 2)
        obtain ⟨z0,z1,z2,_⟩:=put3 (alloc_keep H1 (.cells #[.int .i64 y.1,.int .i64 y.2,.int .i64 0] 67)) (.int .i64 y.1) (.int .i64 y.2) (.int .i64 0)
        try simp only [Exit.inBlock,Exit.then]
        refine bodyPost_ret (v:=.agg #[.int .i64 y.1,.int .i64 y.2,.int .i64 0]) (by simp [results,Tryz.results62,go_sem,z0,z1,z2,Result.andThen]) rfl ?_
        rw [<- HRs.out,end_err]
        obtain ⟨h1,h2⟩:=own_endZ HX.out HXY.out (hkk _) hk1 hS2 ((Below.refl _ _).alloc (Nat.le_refl _) (.cells #[.int .i64 y.1,.int .i64 y.2,.int .i64 0] 67)) (Nat.le_refl w.heap.size) HY0.out (heap_lt (alloc_keep H1 _)) (.int .i64 y.1) (.int .i64 y.2) (.int .i64 0)
        exact ⟨h1,rfl,hx,f2,ls2,h2.mono (by omega),by omega⟩
      | ok st2=>
        have HRs:=Lib.hid hres
        clear hres
        go_wp2_with (go_at_call 90;refine (PS _).mono ?_;rintro ed w1 ⟨hk1,⟨l1,rfl⟩,hS1,hf1,hfb1,hl1⟩)
        have hbn:Below w1.heap.size w1 (w1.alloc (.cells #[.int .i64 0,.int .i64 0,.int .i64 l1] 67)):=(Below.refl _ _).alloc (Nat.le_refl _) _
        go_roundw
        case rel=>
          exact ⟨j+1,st2,by omega,by go_num,((hkk _).trans (hk1.mono fun i _ h=>HXY.out i h)).trans (KeepX.of_below hbn),alloc_keep ((hk1.block _ HY0.out (by rw [alloc_size];omega)).trans (alloc_keep hcb _)) _,by rw [<- htx,<- Nat.add_assoc];exact hS1.below hbn,hf1,hfb1,by omega,HRs.out⟩
        case measure=>simp [intOf];omega
    · obtain rfl:j=ss.length:=by omega
      rw [List.drop_length] at hres
      subst hres
      go_wp2_with (go_at_call 69;refine (leave_all (st:=st') hsc (by omega) st.ls.length).mono ?_;rintro ed w4 ⟨rfl,hS4,hk4⟩;have H4:=(hk4.block _ HY0.out hcl).trans hcb;obtain ⟨r0,r1,r2⟩:=wr_cells H4;have f0:=Lib.frozen_of_heap H4 0;have f1:=Lib.frozen_of_heap H4 1;have f3:=Lib.frozen_of_heap H4 2)
      obtain ⟨z0,z1,z2,_⟩:=put3 H4 (.int .i64 0) (.int .i64 0) (.int .i64 0)
      try simp only [Exit.inBlock,Exit.then]
      refine bodyPost_ret (v:=.agg #[.int .i64 0,.int .i64 0,.int .i64 0]) (by simp [results,Tryz.results62,go_sem,z0,z1,z2,Result.andThen]) rfl ?_
      obtain ⟨h1,h2⟩:=own_endZ HX.out HXY.out hkx hk4 hS4 (Below.refl _ _) (Nat.le_refl w.heap.size) HY0.out (heap_lt H4) (.int .i64 0) (.int .i64 0) (.int .i64 0)
      rw [List.take_length] at h2 hl'
      exact ⟨h1,⟨0,rfl⟩,h2,leave_ok hf' _,okB_leave hfb' _,Nat.le_trans (leave_len _ _) hl'⟩
theorem oblock_all (m:Nat):∀ n,BlockW m n
 | 0=>oblock_any fun n' h=>by omega
 | n+1=>oblock_any fun n' h=>by obtain rfl:n=n':=by omega
                                exact ostmt_all (oblock_all m n)
def plE:Option Er->Int
 | none=>0
 | some x=>x.2
theorem okB_none0:okB none0:=fun s h=>by simp [none0,mnone] at h
theorem okB_meansOf:∀ (ds:List Dc) {f:ByteArray->Mng},okB f->okB (meansOf f ds)
 | [],f,h=>h
 | d :: ds,f,h=>okB_meansOf ds (f:=put f d.name (declM d)) (okB_put h d.name _ fun hk=>by
     exfalso
     unfold declM at hk
     split at hk
     · simp at hk
     · split at hk <;> simp at hk)
def WantR (w:World) (r:Option Er) (e:Ending) (w':World):Prop:=e=.returned (.tuple #[.int .i64 (numE r),.int .i64 (plE r)])/\Below w.heap.size w w'/\∀ x,r=some x->x.1≠0
theorem want_any {m n:Nat} {p:Prg} {dv tv:Value} {w:World} (hD:Dcls 0 w.heap.size w dv p.decls) (hT:Thrs 0 w.heap.size m n w tv p.threads) (hk:p.decls.length+cntT n p.threads<=900000) (hn:∀ ss ∈ p.threads,∀ s ∈ ss,nmS m n s) (hg:∀ ss ∈ p.threads,∀ s ∈ ss,Pr.gS m n s) (hTV:TypeVar w):
    Calls Tryz.prog 32 #[.agg #[dv,tv]] w (WantR w (checkP m n p)):=by
 obtain ⟨decls,threads⟩:=p
 simp only at hD hT hk hn hg
 have HD:=Lib.hid hD
 have HT:=Lib.hid hT
 have HN:=Lib.hid hn
 have HG:=Lib.hid hg
 have HTV:=Lib.hid hTV
 have hbx:∀ o,Below w.heap.size w (w.alloc o):=fun o=>(Below.refl _ _).alloc (Nat.le_refl _) o
 obtain ⟨dao,dcap,rfl,hdl,_⟩:=hD
 obtain ⟨tao,tcap,rfl,htl,_⟩:=hT
 have PO:=Sc.of_any (decls.map toDc) (.slice dao decls.length dcap) (w.alloc (.cells #[.slice dao decls.length dcap,.slice tao threads.length tcap] 26)) ((ds_of HD.out).below (hbx _)) (by simp;omega)
 clear hn hg hTV
 unfold checkP
 cases hF:firstBad none0 (decls.map toDc) with
 | some d=>
   have HF:=Lib.hid hF
   clear hF
   show Calls _ _ _ _ (WantR w (some (3,d.at_)))
   go_enter Tryz.func32,Tryz.ntmps32
   go_wp2_with fail
   go_at_call 17
   refine PO.mono ?_
   rintro e w1 ⟨hb1,⟨h,_⟩ | ⟨d',fb,h,rfl,hfb,hft⟩⟩
   · rw [HF.out] at h;cases h
   · rw [HF.out] at h
     cases h
     have h01:=(hbx _).trans (hb1.mono (hbx _).size)
     go_wp2_with (first
        | (go_at_call 24;refine (place_any fb d.at_ _ w3 (tv_on HTV.out h03) (keep hb3 hft)).mono ?_;rintro e w4 ⟨rfl,hb4⟩)
        | (go_at_call 23;refine (number_any fb d.at_ 3 w1 (tv_on HTV.out h01) hft).mono ?_;rintro e w3 ⟨rfl,hb3⟩;have h03:=h01.trans (hb3.mono h01.size)))
     go_ret2
     exact ⟨rfl,h03.trans (hb4.mono h03.size),fun x hx=>by cases hx;simp⟩
 | none=>
   have HF:=Lib.hid hF
   clear hF
   show Calls _ _ _ _ (WantR w (threadsP m n ⟨meansOf none0 (decls.map toDc),[]⟩ threads))
   obtain ⟨R,hR⟩:∃ R,threadsP m n ⟨meansOf none0 (decls.map toDc),[]⟩ threads=R:=⟨_,rfl⟩
   rw [hR]
   have HR:=Lib.hid hR
   clear hR
   go_enter Tryz.func32,Tryz.ntmps32
   go_wp2_with fail
   go_at_call 17
   refine PO.mono ?_
   rintro e w1 ⟨hb1,⟨_,bs,rfl,hS1⟩ | ⟨d',fb,h,_⟩⟩
   · have h01:Below w.heap.size w w1:=(hbx _).trans (hb1.mono (hbx _).size)
     have hP1:w1.heap[w.heap.size]?=some (.cells #[.slice dao decls.length dcap,.slice tao threads.length tcap] 26 (0,0)):=(hb1.block _ (by rw [alloc_size];omega)).trans (heap_alloc_new _ _)
     have hz1:=hb1.size
     rw [alloc_size] at hz1
     rw [alloc_size] at hS1
     obtain ⟨p0,p1⟩:=box_two hP1
     have hq:(decls.map toDc).length=decls.length:=by simp
     rw [hq] at hS1
     obtain ⟨Y,hY⟩:∃ Y:Nat->Prop,Y=fun j=>j<w.heap.size+1:=⟨_,rfl⟩
     rw [<- hY] at hS1
     have HYs:Hid (∀ w3:World,w1.heap.size<=w3.heap.size->∀ j,Y j->j<w3.heap.size):=Lib.hid fun w3 h3 j h=>by
        rw [hY] at h
        omega
     have HYB:Hid (∀ j,j<w.heap.size->Y j):=Lib.hid fun j h=>by rw [hY];omega
     have HS1:=Lib.hid hS1
     have H01:=Lib.hid h01
     have hzw:=h01.size
     clear hS1 h01 hP1 hb1 hY hq PO
     go_wp2
     go_loopw [24] (fun i wr=>∃ (j:Nat) (st':St),j<=threads.length/\i=.int .i64 j/\KeepX Y w1 wr/\ScAt Y bs (decls.length+cntT n (threads.take j)) st'.f st'.ls wr/\okF st'.f/\okB st'.f/\st'.ls.length<=decls.length+cntT n (threads.take j)/\threadsP m n st' (threads.drop j)=R) (fun i _=>threads.length-(intOf i).toNat)
     case atStart=>exact ⟨0,⟨meansOf none0 (decls.map toDc),[]⟩,Nat.zero_le _,rfl,KeepX.refl _ _,HS1.out,okF_means _ okF_none,okB_meansOf _ okB_none0,Nat.zero_le _,HR.out⟩
     case round=>
        obtain ⟨j,st',hj,rfl,hkx,hsc,hf',hfb',hl',hres⟩:=hrel
        have hkb:Below w.heap.size w wr:=H01.out.trans ((hkx.mono (Y:=(· < w.heap.size)) fun i _ h=>HYB.out i h).below hzw)
        by_cases hlt:j<threads.length
        · obtain ⟨x,hx⟩:∃ x,threads[j]?=some x:=⟨threads[j],by simp [hlt]⟩
          have hxn:=HN.out x (List.mem_of_getElem? hx)
          have hxg:=HG.out x (List.mem_of_getElem? hx)
          rw [thr_at _ _ _ _ _ _ hx] at hres
          obtain ⟨_,_,er,_,hKr⟩:=HT.out.on hkb
          cases er
          obtain ⟨g,off,sao,scap,rfl,_,hg,_,i0,hSs⟩:=hKr j x hx
          have htx:=cntT_at n threads j x hx
          have htk:=cntT_take n threads (j+1)
          have PB:=oblock_all m n Y w.heap.size bs _ st' 0 _ x wr hsc (HYs.out wr hkx.size) HYB.out hf' hfb' hl' (by omega) hSs hxn hxg
          obtain ⟨R2,hR2⟩:∃ R,blkP (stmtP m n) st' 0 x=R:=⟨_,rfl⟩
          rw [hR2] at PB hres
          have HX:=Lib.hid htx
          clear hR2 hKr hx hxn hxg hSs htx htk
          cases R2 with
          | error y=>
            have HRs:=Lib.hid hres
            clear hres
            go_wp2_with (go_at_call 62;refine PB.mono ?_;rintro ed w3 ⟨hk3,rfl,hy,f2,ls2,_⟩;have hyb:(y.1 != 0)=true:=(by simpa using hy))
            go_region
            all_goals
             go_wp2
             go_ret2
             rw [<- HRs.out]
             exact ⟨rfl,((H01.out.trans (((hkx.trans hk3).mono (Y:=(· < w.heap.size)) fun i _ h=>HYB.out i h).below hzw)).alloc (by have:=hkx.size;have:=hk3.size;omega) _).drew,fun x hx=>by cases hx;exact hy⟩
          | ok st2=>
            have HRs:=Lib.hid hres
            clear hres
            go_wp2_with (go_at_call 62;refine PB.mono ?_;rintro ed w3 ⟨hk3,⟨l3,rfl⟩,hS3,hf3,hfb3,hl3⟩)
            have hbn:Below w3.heap.size w3 (w3.alloc (.cells #[.int .i64 0,.int .i64 0,.int .i64 l3] 67)):=(Below.refl _ _).alloc (Nat.le_refl _) _
            go_roundw
            case rel=>exact ⟨j+1,st2,by omega,by go_num,(hkx.trans hk3).trans (KeepX.of_below hbn),by rw [<- HX.out,<- Nat.add_assoc];exact hS3.below hbn,hf3,hfb3,by rw [<- HX.out];omega,HRs.out⟩
            case measure=>simp [intOf];omega
        · obtain rfl:j=threads.length:=by omega
          rw [List.drop_length] at hres
          subst hres
          go_wp2
          go_ret2
          exact ⟨rfl,hkb,fun x hx=>by cases hx⟩
   · rw [HF.out] at h;cases h
end Go.Proofs.YtlepckjmdjjolaaGreatDoor.Fl
