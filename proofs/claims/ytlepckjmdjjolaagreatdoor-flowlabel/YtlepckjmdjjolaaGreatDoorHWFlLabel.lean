/- The walk of FlowLabel: on every input it returns true. Conditions: lex's variables, and that of errors, are as they are laid. -/
import Derived.Test.YtlepckjmdjjolaaGreatDoorHWFlTakes
import Derived.Test.YtlepckjmdjjolaaGreatDoorHFlOwnE
import Derived.Test.YtlepckjmdjjolaaGreatDoorHFlHalf
import Derived.Test.YtlepckjmdjjolaaGreatDoorHRegMono2
import Derived.Test.YtlepckjmdjjolaaGreatDoorGPDeclA
set_option maxHeartbeats 4000000
set_option maxRecDepth 100000
namespace Go.Proofs.YtlepckjmdjjolaaGreatDoor.Fl
open Go.ChangeShapes Go.WideShapes Go.ChangeAt Go.RowKit
open Sc (Mng mnone put localM putAll Dc declM bad meansOf firstBad none0 ScAt KeepX DsAt OfPost)
set_option linter.unusedVariables false
set_option linter.unusedSimpArgs false
theorem grow_below {B:Nat} {v w w':World} {x:Option Nat} (hb:Below B v w) (hB:B<=w.heap.size) (hg:w.grownBy w' x) (hx:∀ k,x=some k->B<=k):Below B v w':=
 hb.trans { os:=hg.os,tape:=hg.tape,output:=hg.output,size:=by have:=hg.size;omega,block:=fun k hk=>hg.block k (by omega) (fun e=>by have:=hx k e.symm;omega) }
theorem dl_base {lo:Nat} {w:World} {v:Value} {ds:List Dcl} (h:DlRow lo w v ds):∀ k,v.ownBlock=some k->lo<=k:=fun k hk=>by
 rcases h.2 with ⟨rfl,h0⟩ | ⟨g,cap,cur,rfl,hg,_⟩
 · cases hk
 · cases hk;exact hg
theorem len_all:((List.range 4).all fun k=>decide ((declsK k).length<=64))=true:=by kernel_rfl
theorem len_k {k:Nat} (hk:k<4):(declsK k).length<=64:=of_decide_eq_true (List.all_eq_true.1 len_all k (by simp;omega))
theorem six_of {w:World} {g:Nat} {t:TypeId} {x0 x1 x2 x3 x4 x5:Value} (h:w.heap[g]?=some (.cells #[x0,x1,x2,x3,x4,x5] t (0,0))):
 w.cell? ⟨g,0,none⟩=some x0/\w.cell? ⟨g,1,none⟩=some x1/\w.cell? ⟨g,2,none⟩=some x2/\w.cell? ⟨g,3,none⟩=some x3/\w.cell? ⟨g,4,none⟩=some x4/\w.cell? ⟨g,5,none⟩=some x5:=by
 refine ⟨?_,?_,?_,?_,?_,?_⟩ <;> (rw [Lib.cell_of_heap h];rfl)
theorem okB_none:okB none0:=fun s h=>by simp [none0,mnone] at h
theorem okB_means:∀ (ds:List Dc) {f:ByteArray->Mng},okB f->okB (meansOf f ds)
 | [],f,h=>h
 | d :: ds,f,h=>okB_means ds (f:=put f d.name (declM d)) (fun t ht=>by
     by_cases e:t=d.name
     · subst e
       exfalso
       rw [Sc.put_same] at ht
       unfold declM at ht
       split at ht
       · simp at ht
       · split at ht <;> simp at ht
     · rw [Sc.put_ne _ _ _ _ e] at ht ⊢
       exact h t ht)
theorem label_walk (v0:Value) (zs0:List Int) (a1:Int) (w:World) (h0:IntsAt w .u8 v0 zs0) (z0:∀ n ∈ zs0,(Lit.int .u8 n).wf=true) (n0:zs0.length*1<=140737488351232) (b1:0<=a1/\a1<256) (hV:Lx.Vars w) (hTV:TypeVar w):
 Calls Tryz.prog 7 #[v0,.int .u8 a1] w fun e w'=>e=.returned (.bool true)/\Below w.heap.size w w':=by
 have HA:=awake_any w hV hTV
 obtain ⟨ns,hl,HM⟩:=made_for h0 z0 n0
 obtain ⟨hk,hn⟩:=small_made ns hl
 have ed:(makeM ns).decls=declsK (1+nxV ns 3):=threads_decls _ _
 have HN:=Lib.hid hn
 generalize (makeM ns).threads=ts at *
 rw [ed] at HM hk
 have hx3:nxV ns 3<3:=nxV_lt ns 3 (by decide)
 obtain ⟨K,hK⟩:∃ K,K=1+nxV ns 3:=⟨_,rfl⟩
 rw [<- hK] at HM hk
 have hK0:0<K:=by omega
 have hK4:K<4:=by omega
 have hdl:(declsK K).length<=900000:=by omega
 clear hk hn h0 hV ed hx3 hK
 go_enter Tryz.func7,Tryz.ntmps7
 go_wp2_with fail
 go_at_call 11
 refine HA.mono ?_
 rintro e w1 ⟨rfl,hb1⟩
 go_wp2_with fail
 go_at_call 14
 refine (HM _ hb1).mono ?_
 rintro e w2 ⟨dv,tv,rfl,D2,T2,hb2⟩
 have DZ:=dcls_zero D2
 have TZ:=thrs_zero T2
 obtain ⟨dao,dcap,rfl⟩:=Pr.dcls_slice DZ
 obtain ⟨tao,tcap,rfl⟩:=Pr.thrs_slice TZ
 have HD:=Lib.hid DZ
 have HT:=Lib.hid TZ
 clear D2 T2 DZ TZ HA HM
 have hfit:∀ d ∈ declsK K,dfit d:=fun d hd=>by
  obtain ⟨i,hi⟩:=List.getElem?_of_mem hd
  obtain ⟨_,_,_,_,hr⟩:=HD.out
  exact (hr i d hi).1
 have HFT:=Lib.hid hfit
 have hl64:=len_k hK4
 obtain ⟨D0,hD0⟩:=decls_ne K hK0 hK4
 have HHG:Hid (∀ r:List Dcl,(dFirst K :: r).Sublist (declsK K)->firstBad none0 ((dFirst K :: r).map toDc)=none):=Lib.hid fun r h=>half_good hK0 hK4 h
 have HD0:Hid ((declsK K)[0]?=some (dFirst K)):=Lib.hid (by rw [hD0];rfl)
 have hDp:0<(declsK K).length:=by rw [hD0];simp
 generalize dFirst K=d0 at *
 generalize declsK K=D at *
 clear hfit hD0 hK0 hK4 hdl
 obtain ⟨w3,hw3⟩:∃ w3,w3=w2.alloc (.cells #[.slice dao D.length dcap,.slice tao ts.length tcap] 26):=⟨_,rfl⟩
 have hP3:w3.heap[w2.heap.size]?=some (.cells #[.slice dao D.length dcap,.slice tao ts.length tcap] 26 (0,0)):=by rw [hw3];exact heap_alloc_new _ _
 have hb23:Below w2.heap.size w2 w3:=by rw [hw3];exact (Below.refl _ _).alloc (Nat.le_refl _) _
 have HP3:=Lib.hid hP3
 have HW3:=Lib.hid hw3
 have H12:=Lib.hid hb2
 have H23:=Lib.hid hb23
 clear hP3 hw3 hb23 hb2
 go_wp2
 go_loopw [6,27] (fun dsv i wr=>∃ (k:Nat) (ds':List Dcl),k<=D.length/\i=.int .i64 k/\Below w3.heap.size w3 wr/\DlRow w3.heap.size wr dsv ds'/\Hid (ds'.Sublist (D.take k))/\Hid (0<k->∃ r,ds'=d0 :: r)) (fun _ i _=>D.length-(intOf i).toNat)
 case atStart=>exact ⟨0,[],Nat.zero_le _,rfl,by rw [HW3.out];exact Below.refl _ _,Pr.dl_nil _ _,Lib.hid (by simp),Lib.hid (by omega)⟩
 case round=>
  obtain ⟨k,ds',hk,rfl,hbr,hrow,HSub,HHd⟩:=hrel
  obtain ⟨rao,rcap,rfl⟩:=Pr.dl_slice hrow
  have hb2r:Below w2.heap.size w2 wr:=H23.out.trans (hbr.mono H23.out.size)
  have hzr:=hbr.size
  by_cases hlt:k<D.length
  · obtain ⟨d,hd⟩:∃ d,D[k]?=some d:=⟨D[k],by simp [hlt]⟩
    obtain ⟨_,_,er,_,hr⟩:=HD.out.on hb2r
    cases er
    obtain ⟨_,g,off,rfl,_,hg,_,i0,i1,i2,i3,i4,i5⟩:=hr k d hd
    have HRow:=Lib.hid hrow
    have HDK:=Lib.hid hd
    have hle:ds'.length<=64:=by have:=HSub.out.length_le;rw [List.length_take] at this;omega
    clear hr hrow hd
    have hbW:Below w3.heap.size w3 (wr.alloc (.cells #[.bool d.lock,.int .i64 d.label,.string d.name,.int .i64 d.size,.string d.by_,.int .i64 d.at_] 39)):=hbr.alloc hzr _
    have hbW2:=fun o=>hbW.alloc hbW.size o
    by_cases hk0:k=0
    · subst hk0
      obtain rfl:d=d0:=by have:=HD0.out;rw [HDK.out] at this;exact Option.some.inj this
      have he:ds'=[]:=by have:=HSub.out;simpa using this
      have HE:=Lib.hid he
      clear he
      simp only [Nat.zero_mul,Nat.add_zero] at i0 i1 i2 i3 i4 i5
      go_wp2_with (at_builtin;refine Pr.append_d1 (wr.alloc (.cells #[.bool d.lock,.int .i64 d.label,.string d.name,.int .i64 d.size,.string d.by_,.int .i64 d.at_] 39)) d rfl _ _ rfl w3.heap.size _ ds' rfl (by rw [alloc_size];rfl) (own_same HRow.out (TSame.alloc _ _ _)) (by rw [alloc_size];omega) (by omega) ?_;intro gg cap4 w4 hown4 hgrow4)
      go_roundw
      case rel=>exact ⟨0+1,ds'++[d],by omega,by go_num,grow_below (hbW2 _) (hbW2 (.cells #[.bool d.lock,.int .i64 d.label,.string d.name,.int .i64 d.size,.string d.by_,.int .i64 d.at_] 39)).size hgrow4 (dl_base HRow.out),hown4,Lib.hid (by rw [List.take_add_one,HDK.out];exact HSub.out.append (List.Sublist.refl _)),Lib.hid fun _=>⟨[],by rw [HE.out];rfl⟩⟩
      case measure=>simp [intOf];omega
    · have hk1:¬ (k:Int)<1:=by omega
      go_wp2_with (at_builtin;refine Pr.append_d1 (wr.alloc (.cells #[.bool d.lock,.int .i64 d.label,.string d.name,.int .i64 d.size,.string d.by_,.int .i64 d.at_] 39)) d rfl _ _ rfl w3.heap.size _ ds' rfl (by rw [alloc_size];rfl) (own_same HRow.out (TSame.alloc _ _ _)) (by rw [alloc_size];omega) (by omega) ?_;intro gg cap4 w4 hown4 hgrow4)
      · go_roundw
        case rel=>exact ⟨k+1,ds'++[d],by omega,by go_num,grow_below (hbW2 _) (hbW2 (.cells #[.bool d.lock,.int .i64 d.label,.string d.name,.int .i64 d.size,.string d.by_,.int .i64 d.at_] 39)).size hgrow4 (dl_base HRow.out),hown4,Lib.hid (by rw [List.take_add_one,HDK.out];exact HSub.out.append (List.Sublist.refl _)),Lib.hid fun _=>by obtain ⟨r,hr⟩:=HHd.out (by omega);exact ⟨r++[d],by rw [hr];rfl⟩⟩
        case measure=>simp [intOf];omega
      · go_roundw
        case rel=>exact ⟨k+1,ds',by omega,by go_num,hbW,own_same HRow.out (TSame.alloc _ _ _),Lib.hid (by rw [List.take_add_one,HDK.out];exact HSub.out.trans (List.sublist_append_left _ _)),Lib.hid fun _=>HHd.out (by omega)⟩
        case measure=>simp [intOf];omega
  · obtain rfl:k=D.length:=by omega
    have hsub:=HSub.out
    rw [List.take_length] at hsub
    obtain ⟨r,hr0⟩:=HHd.out hDp
    have hfb:firstBad none0 (ds'.map toDc)=none:=by rw [hr0] at hsub ⊢;exact HHG.out r hsub
    have hle:ds'.length<=64:=by have:=hsub.length_le;omega
    have hDl:=ds_of (dcls_zero (hrow.dcls (by omega) (fun d hd=>HFT.out d (hsub.subset hd))))
    have PO:=Sc.of_any (ds'.map toDc) (.slice rao ds'.length rcap) wr hDl (by rw [List.length_map];omega)
    have HFN:=Lib.hid hfb
    obtain ⟨F,hF⟩:∃ F,F=meansOf none0 (ds'.map toDc):=⟨_,rfl⟩
    have HF:Hid (okF F):=Lib.hid (by rw [hF];exact okF_means _ okF_none)
    have HFB:Hid (okB F):=Lib.hid (by rw [hF];exact okB_means _ okB_none)
    unfold OfPost at PO
    rw [<- hF] at PO
    clear hsub hr0 hfb hDl hrow hF HSub HHd HHG HD0 HD HFT
    go_wp2_with fail
    go_at_call 17
    refine PO.mono ?_
    rintro e w5 ⟨hb5,⟨_,bs,rfl,hS5⟩ | ⟨d',fb,h,_⟩⟩
    · have hb35:Below w3.heap.size w3 w5:=hbr.trans (hb5.mono hzr)
      have hb25:=hb2r.trans (hb5.mono hb2r.size)
      obtain ⟨p0,p1⟩:=box_two (keep hb35 HP3.out)
      have H05:=Lib.hid (hb1.trans ((H12.out.trans (hb25.mono H12.out.size)).mono hb1.size))
      have HT5:=Lib.hid (HT.out.on hb25)
      have hz25:=hb25.size
      have HS:=Lib.hid hS5
      clear hS5 PO hb5 hb2r hbr hb35 HP3 H12 H23 HW3 HT hb1 hb25
      generalize (ds'.map toDc).length=kk at *
      go_wp2
      go_loopw [57] (fun i wr=>∃ j:Nat,j<=ts.length/\i=.int .i64 j/\Below w5.heap.size w5 wr) (fun i _=>ts.length-(intOf i).toNat)
      case atStart=>exact ⟨0,Nat.zero_le _,rfl,Below.refl _ _⟩
      case round=>
          obtain ⟨j,hj,rfl,hbr⟩:=hrel
          by_cases hlt:j<ts.length
          · obtain ⟨ss,hss⟩:∃ ss,ts[j]?=some ss:=⟨ts[j],by simp [hlt]⟩
            have HSN:=Lib.hid (HN.out ss (List.mem_of_getElem? hss))
            obtain ⟨_,_,er,_,hKr⟩:=HT5.out
            cases er
            obtain ⟨g,off,sao,scap,rfl,_,hg,_,i0,hSs⟩:=hKr j ss hss
            have i0r:=(hbr.cell (p:=⟨g,off+j,none⟩) (show g<w5.heap.size by omega)).trans i0
            have HSs:=Lib.hid hSs
            clear hKr hss hSs i0
            go_wp2
            go_loopw [63] (fun i wr2=>∃ j2:Nat,j2<=ss.length/\i=.int .i64 j2/\Below w5.heap.size w5 wr2) (fun i _=>ss.length-(intOf i).toNat)
            case atStart=>exact ⟨0,Nat.zero_le _,rfl,hbr⟩
            case round=>
              obtain ⟨j2,hj2,rfl,hbr2⟩:=hrel
              clear hbr i0r
              by_cases hlt2:j2<ss.length
              · obtain ⟨s,hs⟩:∃ s,ss[j2]?=some s:=⟨ss[j2],by simp [hlt2]⟩
                have hsn:=HSN.out s (List.mem_of_getElem? hs)
                obtain ⟨_,_,er2,_,hKs⟩:=HSs.out
                cases er2
                obtain ⟨g2,off2,c0,c1,c2,c3,c4,c5,c6,rfl,_,hg2,_,s0,s1,s2,s3,s4,s5,s6,hrs⟩:=hKs j2 s hs
                obtain ⟨_,_,_,eao,ecap,bao,bcap,lao,lcap,hv,hKe,_,_⟩:=hrs
                simp only [Value.agg.injEq,Array.mk.injEq,List.cons.injEq,and_true] at hv
                obtain ⟨rfl,rfl,rfl,rfl,rfl,rfl,rfl⟩:=hv
                have ii:=fun {o:Nat} {u:Value} (h:w5.cell? ⟨g2,o,none⟩=some u)=>(hbr2.cell (p:=⟨g2,o,none⟩) (show g2<w5.heap.size by omega)).trans h
                replace s0:=ii s0
                replace s1:=ii s1
                replace s2:=ii s2
                replace s3:=ii s3
                replace s4:=ii s4
                replace s5:=ii s5
                replace s6:=ii s6
                have HKe:=Lib.hid hKe
                have HEN:=Lib.hid hsn.1
                have hbs:Below w5.heap.size w5 (wr.alloc (.cells #[.int .i64 s.kind,.string s.name,.slice eao s.exprs.length ecap,.int .i64 s.count,.slice bao s.body.length bcap,.slice lao s.els.length lcap,.int .i64 s.at_] 45)):=hbr2.alloc hbr2.size _
                clear hKs hs hKe hsn ii
                go_wp2
                go_loopw [70] (fun i wr3=>∃ j3:Nat,j3<=s.exprs.length/\i=.int .i64 j3/\Below w5.heap.size w5 wr3) (fun i _=>s.exprs.length-(intOf i).toNat)
                case atStart=>exact ⟨0,Nat.zero_le _,rfl,hbs⟩
                case round=>
                 obtain ⟨j3,hj3,rfl,hbr3⟩:=hrel
                 clear hbs hbr2 s0 s1 s2 s3 s4 s5 s6
                 by_cases hlt3:j3<s.exprs.length
                 · obtain ⟨y,hy⟩:∃ y,s.exprs[j3]?=some y:=⟨s.exprs[j3],by simp [hlt3]⟩
                   have hyn:=HEN.out y (List.mem_of_getElem? hy)
                   obtain ⟨_,_,er3,_,hKy⟩:=HKe.out
                   simp only [Value.slice.injEq] at er3
                   obtain ⟨rfl,-,rfl⟩:=er3
                   obtain ⟨g3,off3,c0,c1,c2,c3,c4,c5,rfl,_,hg3,_,t0,t1,t2,t3,t4,t5,hr⟩:=hKy j3 y hy
                   have hRp:=Lib.hid hr
                   obtain ⟨_,kvy,hv,kay,kcy,rfl,_,_⟩:=hr
                   simp only [Value.agg.injEq,Array.mk.injEq,List.cons.injEq,and_true] at hv
                   obtain ⟨rfl,rfl,rfl,rfl,rfl,rfl⟩:=hv
                   have ii:=fun {o:Nat} {u:Value} (h:w5.cell? ⟨g3,o,none⟩=some u)=>(hbr3.cell (p:=⟨g3,o,none⟩) (show g3<w5.heap.size by omega)).trans h
                   replace t0:=ii t0
                   replace t1:=ii t1
                   replace t2:=ii t2
                   replace t3:=ii t3
                   replace t4:=ii t4
                   replace t5:=ii t5
                   have hbe:Below w5.heap.size w5 (wr.alloc (.cells #[.int .i64 y.kind,.int .i64 y.op,.string y.name,.int .u64 y.value,.slice kay y.kids.length kcy,.int .i64 y.at_] 50)):=hbr3.alloc hbr3.size _
                   have PL:=fun w' (hb:Below w5.heap.size w5 w')=>label_all 13 _ bs _ ⟨F,[]⟩ _ y w' (HS.out.below hb) HF.out (hRp.out.mono (Nat.le_trans hz25 hb.size) (hb.mono hz25)) hyn
                   have PX:=fun w' (hb:Below w5.heap.size w5 w')=>ownE_all 13 _ bs _ ⟨F,[]⟩ _ y w' (HS.out.below hb) HF.out HFB.out (hRp.out.mono (Nat.le_trans hz25 hb.size) (hb.mono hz25)) hyn
                   clear hKy hy hyn ii
                   cases hL:labelP F 13 y with
                   | ok l=>
                     simp only [hL] at PL PX
                     clear hL
                     go_wp2_with (first
                        | (go_at_call 23;refine (number_nil _).mono ?_;rintro e w8 ⟨rfl,hb8⟩)
                        | (go_at_call 22;refine (PX _ hb6).mono ?_;rintro e w7 ⟨rfl,hb7⟩;have hbx:=hb6.trans (hb7.mono hb6.size))
                        | (go_at_call 21;refine (PL _ hbe).mono ?_;rintro e w6 ⟨hbl,rfl⟩;have hb6:=hbe.trans (hbl.mono hbe.size);obtain ⟨y0,y1,y2,y3,y4,y5⟩:=six_cells (keep hbl (heap_alloc_new wr _))))
                     obtain ⟨g9,hg9⟩:∃ g9,g9=w7.heap.size:=⟨_,rfl⟩
                     have H9:Hid ((w7.alloc (.cells #[.int .i64 0,.int .i64 0,.int .i64 l] 67)).heap[g9]?=some (.cells #[.int .i64 0,.int .i64 0,.int .i64 l] 67 (0,0))):=Lib.hid (by rw [hg9];exact heap_alloc_new _ _)
                     have HB9:=Lib.hid (hbx.alloc hbx.size (.cells #[.int .i64 0,.int .i64 0,.int .i64 l] 67))
                     rw [<- hg9]
                     clear hg9 hbx hb6 hb7 hbl PL PX t0 t1 t2 t3 t4 t5 y0 y1 y2 y3 y4 y5
                     refine wp_region_mono2 (by kernel_rfl) (by kernel_rfl) (by kernel_rfl) (by kernel_rfl) (by kernel_rfl) (fun (i:Nat) (v:Value) (wv:World)=>match i with | 0=>v=.int .i64 l | 1=>v=.pointer (some ⟨g9,2,none⟩) | 2=>v=.int .i64 l | 3=>v=.bool false | 4=>v=.bool false | 5=>v=.nilIface | 6=>v=.int .i64 0 | 7=>v=.pointer (some ⟨g9,0,none⟩) | 8=>v=.int .i64 0 | 9=>v=.bool false | 10=>v=.bool false | 11=>v=.bool false | 12=>v=.pointer (some ⟨g9,0,none⟩) | 13=>v=.int .i64 0 | 14=>v=.bool false | 15=>v=.bool false | 16=>True | 17=>True | 18=>True | 19=>True | 20=>True | 21=>v=.bool false | 22=>v=.bool false | _=>True) ?_ [(4,false),(11,false)] [(15,true)] (by kernel_rfl) ?_ ?_ ?_ ?_ ?_
                     · intro i v w w' hb h
                       match i with
                       | 0=>exact h
                       | 1=>exact h
                       | 2=>exact h
                       | 3=>exact h
                       | 4=>exact h
                       | 5=>exact h
                       | 6=>exact h
                       | 7=>exact h
                       | 8=>exact h
                       | 9=>exact h
                       | 10=>exact h
                       | 11=>exact h
                       | 12=>exact h
                       | 13=>exact h
                       | 14=>exact h
                       | 15=>exact h
                       | 16=>exact h
                       | 17=>exact h
                       | 18=>exact h
                       | 19=>exact h
                       | 20=>exact h
                       | 21=>exact h
                       | 22=>exact h
                       | _+23=>trivial
                     · intro p hp v w h
                       simp only [List.mem_cons,List.not_mem_nil,or_false] at hp
                       rcases hp with rfl | rfl
                       · exact h
                       · exact h
                     · intro p hp v w h
                       simp only [List.mem_cons,List.not_mem_nil,or_false] at hp
                       subst hp
                       exact h
                     · intro i o p ho hg hp v w
                       simp only [List.mem_cons,List.not_mem_nil,or_false] at hp
                       subst hp
                       match i with
                       | 0=>simp only [List.getElem?_toArray,List.getElem?_cons_zero,List.getElem?_cons_succ,Option.some.injEq] at ho;subst ho;simp at hg
                       | 1=>simp only [List.getElem?_toArray,List.getElem?_cons_zero,List.getElem?_cons_succ,Option.some.injEq] at ho;subst ho;simp at hg
                       | 2=>simp only [List.getElem?_toArray,List.getElem?_cons_zero,List.getElem?_cons_succ,Option.some.injEq] at ho;subst ho;simp at hg
                       | 3=>simp only [List.getElem?_toArray,List.getElem?_cons_zero,List.getElem?_cons_succ,Option.some.injEq] at ho;subst ho;simp at hg
                       | 4=>simp only [List.getElem?_toArray,List.getElem?_cons_zero,List.getElem?_cons_succ,Option.some.injEq] at ho;subst ho;simp at hg
                       | 5=>simp only [List.getElem?_toArray,List.getElem?_cons_zero,List.getElem?_cons_succ,Option.some.injEq] at ho;subst ho;simp at hg
                       | 6=>simp only [List.getElem?_toArray,List.getElem?_cons_zero,List.getElem?_cons_succ,Option.some.injEq] at ho;subst ho;simp at hg
                       | 7=>simp only [List.getElem?_toArray,List.getElem?_cons_zero,List.getElem?_cons_succ,Option.some.injEq] at ho;subst ho;simp at hg
                       | 8=>simp only [List.getElem?_toArray,List.getElem?_cons_zero,List.getElem?_cons_succ,Option.some.injEq] at ho;subst ho;simp at hg
                       | 9=>simp only [List.getElem?_toArray,List.getElem?_cons_zero,List.getElem?_cons_succ,Option.some.injEq] at ho;subst ho;simp at hg
                       | 10=>simp only [List.getElem?_toArray,List.getElem?_cons_zero,List.getElem?_cons_succ,Option.some.injEq] at ho;subst ho;simp at hg
                       | 11=>simp only [List.getElem?_toArray,List.getElem?_cons_zero,List.getElem?_cons_succ,Option.some.injEq] at ho;subst ho;simp at hg
                       | 12=>simp only [List.getElem?_toArray,List.getElem?_cons_zero,List.getElem?_cons_succ,Option.some.injEq] at ho;subst ho;simp at hg
                       | 13=>simp only [List.getElem?_toArray,List.getElem?_cons_zero,List.getElem?_cons_succ,Option.some.injEq] at ho;subst ho;simp at hg
                       | 14=>simp only [List.getElem?_toArray,List.getElem?_cons_zero,List.getElem?_cons_succ,Option.some.injEq] at ho;subst ho;simp at hg
                       | 15=>simp only [List.getElem?_toArray,List.getElem?_cons_zero,List.getElem?_cons_succ,Option.some.injEq] at ho;subst ho;simp at hg
                       | 16=>exact trivial
                       | 17=>exact trivial
                       | 18=>exact trivial
                       | 19=>exact trivial
                       | 20=>exact trivial
                       | 21=>simp only [List.getElem?_toArray,List.getElem?_cons_zero,List.getElem?_cons_succ,Option.some.injEq] at ho;subst ho;simp at hg
                       | 22=>simp only [List.getElem?_toArray,List.getElem?_cons_zero,List.getElem?_cons_succ,Option.some.injEq] at ho;subst ho;simp at hg
                       | _+23=>exact trivial
                     · intro a wr i op hop hno hb hF hP K hK
                       have s17:a.tmps[17]?.getD undef=.int .i64 l:=(hF 17 (by kernel_rfl)).trans rfl
                       have s18:a.tmps[18]?.getD undef=.nilIface:=(hF 18 (by kernel_rfl)).trans rfl
                       have s19:a.tmps[19]?.getD undef=.pointer (some ⟨g9,0,none⟩):=(hF 19 (by kernel_rfl)).trans rfl
                       obtain ⟨z0,z1,z2⟩:=wr_cells (keep hb H9.out)
                       match i with
                       | 0=>
                         obtain rfl:=Option.some.inj hop
                         go_simp
                         exact hK _ _ (Below.refl _ _) fun _=>by first | rfl | exact wrap_val (by omega)
                       | 1=>
                         obtain rfl:=Option.some.inj hop
                         go_simp
                         exact hK _ _ (Below.refl _ _) fun _=>by first | rfl | exact wrap_val (by omega)
                       | 2=>
                         obtain rfl:=Option.some.inj hop
                         have n1:a.tmps[84]?.getD undef=.pointer (some ⟨g9,2,none⟩):=hP 1 84 (by kernel_rfl) (by kernel_rfl)
                         go_simp
                         exact hK _ _ (Below.refl _ _) fun _=>by first | rfl | exact wrap_val (by omega)
                       | 3=>
                         obtain rfl:=Option.some.inj hop
                         have n0:a.tmps[83]?.getD undef=.int .i64 l:=hP 0 83 (by kernel_rfl) (by kernel_rfl)
                         have n2:a.tmps[85]?.getD undef=.int .i64 l:=hP 2 85 (by kernel_rfl) (by kernel_rfl)
                         go_simp
                         exact hK _ _ (Below.refl _ _) fun _=>by first | rfl | exact wrap_val (by omega)
                       | 4=>
                         obtain rfl:=Option.some.inj hop
                         have n3:a.tmps[86]?.getD undef=.bool false:=hP 3 86 (by kernel_rfl) (by kernel_rfl)
                         go_simp
                         exact hK _ _ (Below.refl _ _) fun _=>by first | rfl | exact wrap_val (by omega)
                       | 5=>
                         obtain rfl:=Option.some.inj hop
                         go_simp
                         exact hK _ _ (Below.refl _ _) fun _=>by first | rfl | exact wrap_val (by omega)
                       | 6=>
                         obtain rfl:=Option.some.inj hop
                         have n5:a.tmps[88]?.getD undef=.nilIface:=hP 5 88 (by kernel_rfl) (by kernel_rfl)
                         go_simp
                         go_at_call 23
                         refine (number_nil wr).mono ?_
                         rintro ed w9 ⟨rfl,hb9⟩
                         go_simp
                         exact hK _ _ hb9 fun _=>rfl
                       | 7=>
                         obtain rfl:=Option.some.inj hop
                         go_simp
                         exact hK _ _ (Below.refl _ _) fun _=>by first | rfl | exact wrap_val (by omega)
                       | 8=>
                         obtain rfl:=Option.some.inj hop
                         have n7:a.tmps[90]?.getD undef=.pointer (some ⟨g9,0,none⟩):=hP 7 90 (by kernel_rfl) (by kernel_rfl)
                         go_simp
                         exact hK _ _ (Below.refl _ _) fun _=>by first | rfl | exact wrap_val (by omega)
                       | 9=>
                         obtain rfl:=Option.some.inj hop
                         have n6:a.tmps[89]?.getD undef=.int .i64 0:=hP 6 89 (by kernel_rfl) (by kernel_rfl)
                         have n8:a.tmps[91]?.getD undef=.int .i64 0:=hP 8 91 (by kernel_rfl) (by kernel_rfl)
                         go_simp
                         exact hK _ _ (Below.refl _ _) fun _=>by first | rfl | exact wrap_val (by omega)
                       | 10=>
                         obtain rfl:=Option.some.inj hop
                         have n4:a.tmps[87]?.getD undef=.bool false:=hP 4 87 (by kernel_rfl) (by kernel_rfl)
                         have n9:a.tmps[92]?.getD undef=.bool false:=hP 9 92 (by kernel_rfl) (by kernel_rfl)
                         go_simp
                         exact hK _ _ (Below.refl _ _) fun _=>by first | rfl | exact wrap_val (by omega)
                       | 11=>
                         obtain rfl:=Option.some.inj hop
                         have n10:a.tmps[93]?.getD undef=.bool false:=hP 10 93 (by kernel_rfl) (by kernel_rfl)
                         go_simp
                         exact hK _ _ (Below.refl _ _) fun _=>by first | rfl | exact wrap_val (by omega)
                       | 12=>
                         obtain rfl:=Option.some.inj hop
                         go_simp
                         exact hK _ _ (Below.refl _ _) fun _=>by first | rfl | exact wrap_val (by omega)
                       | 13=>
                         obtain rfl:=Option.some.inj hop
                         have n12:a.tmps[95]?.getD undef=.pointer (some ⟨g9,0,none⟩):=hP 12 95 (by kernel_rfl) (by kernel_rfl)
                         go_simp
                         exact hK _ _ (Below.refl _ _) fun _=>by first | rfl | exact wrap_val (by omega)
                       | 14=>
                         obtain rfl:=Option.some.inj hop
                         have n13:a.tmps[96]?.getD undef=.int .i64 0:=hP 13 96 (by kernel_rfl) (by kernel_rfl)
                         go_simp
                         exact hK _ _ (Below.refl _ _) fun _=>by first | rfl | exact wrap_val (by omega)
                       | 15=>
                         obtain rfl:=Option.some.inj hop
                         have n14:a.tmps[97]?.getD undef=.bool false:=hP 14 97 (by kernel_rfl) (by kernel_rfl)
                         go_simp
                         exact hK _ _ (Below.refl _ _) fun _=>by first | rfl | exact wrap_val (by omega)
                       | 16=>
                         obtain rfl:=Option.some.inj hop
                         exact absurd (List.mem_singleton.2 rfl) (hno _ rfl)
                       | 17=>
                         obtain rfl:=Option.some.inj hop
                         exact absurd (List.mem_singleton.2 rfl) (hno _ rfl)
                       | 18=>
                         obtain rfl:=Option.some.inj hop
                         exact absurd (List.mem_singleton.2 rfl) (hno _ rfl)
                       | 19=>
                         obtain rfl:=Option.some.inj hop
                         exact absurd (List.mem_singleton.2 rfl) (hno _ rfl)
                       | 20=>
                         obtain rfl:=Option.some.inj hop
                         exact absurd (List.mem_singleton.2 rfl) (hno _ rfl)
                       | 21=>
                         obtain rfl:=Option.some.inj hop
                         have n15:a.tmps[98]?.getD undef=.bool false:=hP 15 98 (by kernel_rfl) (by kernel_rfl)
                         go_simp
                         exact hK _ _ (Below.refl _ _) fun _=>by first | rfl | exact wrap_val (by omega)
                       | 22=>
                         obtain rfl:=Option.some.inj hop
                         have n11:a.tmps[94]?.getD undef=.bool false:=hP 11 94 (by kernel_rfl) (by kernel_rfl)
                         have n21:a.tmps[104]?.getD undef=.bool false:=hP 21 104 (by kernel_rfl) (by kernel_rfl)
                         go_simp
                         exact hK _ _ (Below.refl _ _) fun _=>by first | rfl | exact wrap_val (by omega)
                       | _+23=>simp at hop
                     · intro V wz hbz hR
                       have e22:V 22=.bool false:=hR 22 (by kernel_rfl)
                       clear hR
                       refine at_all (prs [83,84,85,86,87,88,89,90,91,92,93,94,95,96,97,98,99,100,101,102,103,104,105] V) (fun t=>by kernel_rfl) ?_
                       simp only [prs,List.zipIdx,List.map,List.foldl,Nat.zero_add,Nat.reduceAdd,List.setIfInBounds_toArray,List.set_cons_zero,List.set_cons_succ,e22]
                       go_wp2
                       go_roundw
                       case rel=>exact ⟨j3+1,by omega,by go_num,HB9.out.trans (hbz.mono HB9.out.size)⟩
                       case measure=>simp [intOf];omega
                   | error x=>
                     simp only [hL] at PL PX
                     have hy0:=label_err _ _ _ _ hL
                     have hyb:(x.1 != 0)=true:=by simpa using hy0
                     clear hL
                     go_wp2_with (first
                        | (go_at_call 22;refine (PX _ hb6).mono ?_;rintro e w7 ⟨rfl,hb7⟩;have hbx:=hb6.trans (hb7.mono hb6.size))
                        | (go_at_call 21;refine (PL _ hbe).mono ?_;rintro e w6 ⟨hbl,fb,rfl,hft,hfz⟩;have hb6:=hbe.trans (hbl.mono hbe.size);obtain ⟨y0,y1,y2,y3,y4,y5⟩:=six_cells (keep hbl (heap_alloc_new wr _))))
                     obtain ⟨g9,hg9⟩:∃ g9,g9=w7.heap.size:=⟨_,rfl⟩
                     have H9:Hid ((w7.alloc (.cells #[.int .i64 x.1,.int .i64 x.2,.int .i64 0] 67)).heap[g9]?=some (.cells #[.int .i64 x.1,.int .i64 x.2,.int .i64 0] 67 (0,0))):=Lib.hid (by rw [hg9];exact heap_alloc_new _ _)
                     have HF9:=Lib.hid (alloc_keep (keep hb7 hft) (.cells #[.int .i64 x.1,.int .i64 x.2,.int .i64 0] 67))
                     have HB9:=Lib.hid (hbx.alloc hbx.size (.cells #[.int .i64 x.1,.int .i64 x.2,.int .i64 0] 67))
                     have HT9:=Lib.hid (tv_on hTV (H05.out.trans (HB9.out.mono H05.out.size)))
                     rw [<- hg9]
                     clear hg9 hbx hb6 hb7 hbl hft PL PX t0 t1 t2 t3 t4 t5 y0 y1 y2 y3 y4 y5
                     refine wp_region_mono (by kernel_rfl) (by kernel_rfl) (by kernel_rfl) (by kernel_rfl) (by kernel_rfl) (fun (i:Nat) (v:Value) (wv:World)=>match i with | 0=>v=.int .i64 0 | 1=>v=.pointer (some ⟨g9,2,none⟩) | 2=>v=.int .i64 0 | 3=>v=.bool false | 4=>v=.bool false | 5=>v=.iface 124 (.pointer (some ⟨fb,0,none⟩)) | 6=>v=.int .i64 x.1 | 7=>v=.pointer (some ⟨g9,0,none⟩) | 8=>v=.int .i64 x.1 | 9=>v=.bool false | 10=>v=.bool false | 11=>v=.bool false | 12=>v=.pointer (some ⟨g9,0,none⟩) | 13=>v=.int .i64 x.1 | 14=>v=.bool true | 15=>v=.bool true | 16=>v=.iface 124 (.pointer (some ⟨fb,0,none⟩)) | 17=>v=.int .i64 x.2 | 18=>v=.pointer (some ⟨g9,1,none⟩) | 19=>v=.int .i64 x.2 | 20=>v=.bool false | 21=>v=.bool false | 22=>v=.bool false | _=>True) ?_ [(4,false),(11,false),(15,true)] (by kernel_rfl) ?_ ?_ ?_
                     · intro i v w w' hb h
                       match i with
                       | 0=>exact h
                       | 1=>exact h
                       | 2=>exact h
                       | 3=>exact h
                       | 4=>exact h
                       | 5=>exact h
                       | 6=>exact h
                       | 7=>exact h
                       | 8=>exact h
                       | 9=>exact h
                       | 10=>exact h
                       | 11=>exact h
                       | 12=>exact h
                       | 13=>exact h
                       | 14=>exact h
                       | 15=>exact h
                       | 16=>exact h
                       | 17=>exact h
                       | 18=>exact h
                       | 19=>exact h
                       | 20=>exact h
                       | 21=>exact h
                       | 22=>exact h
                       | _+23=>trivial
                     · intro p hp v w h
                       simp only [List.mem_cons,List.not_mem_nil,or_false] at hp
                       rcases hp with rfl | rfl | rfl
                       · exact h
                       · exact h
                       · exact h
                     · intro a wr i op hop hb hF hP K hK
                       have s17:a.tmps[17]?.getD undef=.int .i64 0:=(hF 17 (by kernel_rfl)).trans rfl
                       have s18:a.tmps[18]?.getD undef=.iface 124 (.pointer (some ⟨fb,0,none⟩)):=(hF 18 (by kernel_rfl)).trans rfl
                       have s19:a.tmps[19]?.getD undef=.pointer (some ⟨g9,0,none⟩):=(hF 19 (by kernel_rfl)).trans rfl
                       obtain ⟨z0,z1,z2⟩:=wr_cells (keep hb H9.out)
                       match i with
                       | 0=>
                         obtain rfl:=Option.some.inj hop
                         go_simp
                         exact hK _ _ (Below.refl _ _) fun _=>by first | rfl | exact wrap_val (by omega)
                       | 1=>
                         obtain rfl:=Option.some.inj hop
                         go_simp
                         exact hK _ _ (Below.refl _ _) fun _=>by first | rfl | exact wrap_val (by omega)
                       | 2=>
                         obtain rfl:=Option.some.inj hop
                         have n1:a.tmps[84]?.getD undef=.pointer (some ⟨g9,2,none⟩):=hP 1 84 (by kernel_rfl) (by kernel_rfl)
                         go_simp
                         exact hK _ _ (Below.refl _ _) fun _=>by first | rfl | exact wrap_val (by omega)
                       | 3=>
                         obtain rfl:=Option.some.inj hop
                         have n0:a.tmps[83]?.getD undef=.int .i64 0:=hP 0 83 (by kernel_rfl) (by kernel_rfl)
                         have n2:a.tmps[85]?.getD undef=.int .i64 0:=hP 2 85 (by kernel_rfl) (by kernel_rfl)
                         go_simp
                         exact hK _ _ (Below.refl _ _) fun _=>by first | rfl | exact wrap_val (by omega)
                       | 4=>
                         obtain rfl:=Option.some.inj hop
                         have n3:a.tmps[86]?.getD undef=.bool false:=hP 3 86 (by kernel_rfl) (by kernel_rfl)
                         go_simp
                         exact hK _ _ (Below.refl _ _) fun _=>by first | rfl | exact wrap_val (by omega)
                       | 5=>
                         obtain rfl:=Option.some.inj hop
                         go_simp
                         exact hK _ _ (Below.refl _ _) fun _=>by first | rfl | exact wrap_val (by omega)
                       | 6=>
                         obtain rfl:=Option.some.inj hop
                         have n5:a.tmps[88]?.getD undef=.iface 124 (.pointer (some ⟨fb,0,none⟩)):=hP 5 88 (by kernel_rfl) (by kernel_rfl)
                         go_simp
                         go_at_call 23
                         refine (number_any fb x.2 x.1 wr (tv_on HT9.out hb) (keep hb HF9.out)).mono ?_
                         rintro ed w9 ⟨rfl,hb9⟩
                         go_simp
                         exact hK _ _ hb9 fun _=>rfl
                       | 7=>
                         obtain rfl:=Option.some.inj hop
                         go_simp
                         exact hK _ _ (Below.refl _ _) fun _=>by first | rfl | exact wrap_val (by omega)
                       | 8=>
                         obtain rfl:=Option.some.inj hop
                         have n7:a.tmps[90]?.getD undef=.pointer (some ⟨g9,0,none⟩):=hP 7 90 (by kernel_rfl) (by kernel_rfl)
                         go_simp
                         exact hK _ _ (Below.refl _ _) fun _=>by first | rfl | exact wrap_val (by omega)
                       | 9=>
                         obtain rfl:=Option.some.inj hop
                         have n6:a.tmps[89]?.getD undef=.int .i64 x.1:=hP 6 89 (by kernel_rfl) (by kernel_rfl)
                         have n8:a.tmps[91]?.getD undef=.int .i64 x.1:=hP 8 91 (by kernel_rfl) (by kernel_rfl)
                         go_simp
                         exact hK _ _ (Below.refl _ _) fun _=>by first | rfl | exact wrap_val (by omega)
                       | 10=>
                         obtain rfl:=Option.some.inj hop
                         have n4:a.tmps[87]?.getD undef=.bool false:=hP 4 87 (by kernel_rfl) (by kernel_rfl)
                         have n9:a.tmps[92]?.getD undef=.bool false:=hP 9 92 (by kernel_rfl) (by kernel_rfl)
                         go_simp
                         exact hK _ _ (Below.refl _ _) fun _=>by first | rfl | exact wrap_val (by omega)
                       | 11=>
                         obtain rfl:=Option.some.inj hop
                         have n10:a.tmps[93]?.getD undef=.bool false:=hP 10 93 (by kernel_rfl) (by kernel_rfl)
                         go_simp
                         exact hK _ _ (Below.refl _ _) fun _=>by first | rfl | exact wrap_val (by omega)
                       | 12=>
                         obtain rfl:=Option.some.inj hop
                         go_simp
                         exact hK _ _ (Below.refl _ _) fun _=>by first | rfl | exact wrap_val (by omega)
                       | 13=>
                         obtain rfl:=Option.some.inj hop
                         have n12:a.tmps[95]?.getD undef=.pointer (some ⟨g9,0,none⟩):=hP 12 95 (by kernel_rfl) (by kernel_rfl)
                         go_simp
                         exact hK _ _ (Below.refl _ _) fun _=>by first | rfl | exact wrap_val (by omega)
                       | 14=>
                         obtain rfl:=Option.some.inj hop
                         have n13:a.tmps[96]?.getD undef=.int .i64 x.1:=hP 13 96 (by kernel_rfl) (by kernel_rfl)
                         go_simp
                         exact hK _ _ (Below.refl _ _) fun _=>by first | rfl | exact wrap_val (by omega)
                       | 15=>
                         obtain rfl:=Option.some.inj hop
                         have n14:a.tmps[97]?.getD undef=.bool true:=hP 14 97 (by kernel_rfl) (by kernel_rfl)
                         go_simp
                         exact hK _ _ (Below.refl _ _) fun _=>by first | rfl | exact wrap_val (by omega)
                       | 16=>
                         obtain rfl:=Option.some.inj hop
                         go_simp
                         exact hK _ _ (Below.refl _ _) fun _=>by first | rfl | exact wrap_val (by omega)
                       | 17=>
                         obtain rfl:=Option.some.inj hop
                         have n16:a.tmps[99]?.getD undef=.iface 124 (.pointer (some ⟨fb,0,none⟩)):=hP 16 99 (by kernel_rfl) (by kernel_rfl)
                         go_simp
                         go_at_call 24
                         refine (place_any fb x.2 _ wr (tv_on HT9.out hb) (keep hb HF9.out)).mono ?_
                         rintro ed w9 ⟨rfl,hb9⟩
                         go_simp
                         exact hK _ _ hb9 fun _=>rfl
                       | 18=>
                         obtain rfl:=Option.some.inj hop
                         go_simp
                         exact hK _ _ (Below.refl _ _) fun _=>by first | rfl | exact wrap_val (by omega)
                       | 19=>
                         obtain rfl:=Option.some.inj hop
                         have n18:a.tmps[101]?.getD undef=.pointer (some ⟨g9,1,none⟩):=hP 18 101 (by kernel_rfl) (by kernel_rfl)
                         go_simp
                         exact hK _ _ (Below.refl _ _) fun _=>by first | rfl | exact wrap_val (by omega)
                       | 20=>
                         obtain rfl:=Option.some.inj hop
                         have n17:a.tmps[100]?.getD undef=.int .i64 x.2:=hP 17 100 (by kernel_rfl) (by kernel_rfl)
                         have n19:a.tmps[102]?.getD undef=.int .i64 x.2:=hP 19 102 (by kernel_rfl) (by kernel_rfl)
                         go_simp
                         exact hK _ _ (Below.refl _ _) fun _=>by first | rfl | exact wrap_val (by omega)
                       | 21=>
                         obtain rfl:=Option.some.inj hop
                         have n15:a.tmps[98]?.getD undef=.bool true:=hP 15 98 (by kernel_rfl) (by kernel_rfl)
                         have n20:a.tmps[103]?.getD undef=.bool false:=hP 20 103 (by kernel_rfl) (by kernel_rfl)
                         go_simp
                         exact hK _ _ (Below.refl _ _) fun _=>by first | rfl | exact wrap_val (by omega)
                       | 22=>
                         obtain rfl:=Option.some.inj hop
                         have n11:a.tmps[94]?.getD undef=.bool false:=hP 11 94 (by kernel_rfl) (by kernel_rfl)
                         have n21:a.tmps[104]?.getD undef=.bool false:=hP 21 104 (by kernel_rfl) (by kernel_rfl)
                         go_simp
                         exact hK _ _ (Below.refl _ _) fun _=>by first | rfl | exact wrap_val (by omega)
                       | _+23=>simp at hop
                     · intro V wz hbz hR
                       have e22:V 22=.bool false:=hR 22 (by kernel_rfl)
                       clear hR
                       refine at_all (prs [83,84,85,86,87,88,89,90,91,92,93,94,95,96,97,98,99,100,101,102,103,104,105] V) (fun t=>by kernel_rfl) ?_
                       simp only [prs,List.zipIdx,List.map,List.foldl,Nat.zero_add,Nat.reduceAdd,List.setIfInBounds_toArray,List.set_cons_zero,List.set_cons_succ,e22]
                       go_wp2
                       go_roundw
                       case rel=>exact ⟨j3+1,by omega,by go_num,HB9.out.trans (hbz.mono HB9.out.size)⟩
                       case measure=>simp [intOf];omega
                 · obtain rfl:j3=s.exprs.length:=by omega
                   go_wp2
                   go_roundw
                   case rel=>exact ⟨j2+1,by omega,by go_num,hbr3⟩
                   case measure=>simp [intOf];omega
              · obtain rfl:j2=ss.length:=by omega
                go_wp2
                go_roundw
                case rel=>exact ⟨j+1,by omega,by go_num,hbr2⟩
                case measure=>simp [intOf];omega
          · obtain rfl:j=ts.length:=by omega
            go_wp2
            go_ret
            exact ⟨rfl,H05.out.trans (hbr.mono H05.out.size)⟩
    · rw [HFN.out] at h;cases h
end Go.Proofs.YtlepckjmdjjolaaGreatDoor.Fl
