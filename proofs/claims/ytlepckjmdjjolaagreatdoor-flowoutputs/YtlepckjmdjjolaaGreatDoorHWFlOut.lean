/- The walk of FlowOutputs: on every list of numbers, and every thread, it returns true. Conditions: lex's variables, and that of errors, are as they are laid. -/
import Derived.Test.YtlepckjmdjjolaaGreatDoorHFlRowM
import Derived.Test.YtlepckjmdjjolaaGreatDoorHFlOutP
set_option maxHeartbeats 8000000
set_option maxRecDepth 100000
namespace Go.Proofs.YtlepckjmdjjolaaGreatDoor.Fl
open Go.ChangeShapes Go.WideShapes Go.ChangeAt Go.RowKit
set_option linter.unusedVariables false
set_option linter.unusedSimpArgs false
theorem out_rep {B:Nat} {w:World} {eb:Nat} {s:ByteArray} (h:w.heap[eb]?=some (.cells #[.int .i64 1,.int .i64 0,.string s,.int .u64 0,.slice none 0 0,.int .i64 0] 50 (0,0))) (hB:eb<B):SRep 0 B w 13 5 (.agg #[.int .i64 9,.string ⟨#[]⟩,.slice (some ⟨eb,0,none⟩) 1 1,.int .i64 0,.slice none 0 0,.slice none 0 0,.int .i64 77]) (outS s):=by
 refine ⟨by simp [outS],by simp [outS],by simp [outS,ByteArray.size],_,_,_,_,_,_,rfl,kids1 h (Nat.zero_le _) hB ⟨by simp [nameT],_,rfl,?_⟩,stms0,stms0⟩
 exact kids0
theorem five (w:World) (A B C D E:Obj):(((((w.alloc A).alloc B).alloc C).alloc D).alloc E).heap[w.heap.size]?=some A/\(((((w.alloc A).alloc B).alloc C).alloc D).alloc E).heap[w.heap.size+1]?=some B/\(((((w.alloc A).alloc B).alloc C).alloc D).alloc E).heap[w.heap.size+1+1]?=some C /\
 (((((w.alloc A).alloc B).alloc C).alloc D).alloc E).heap[w.heap.size+1+1+1]?=some D/\(((((w.alloc A).alloc B).alloc C).alloc D).alloc E).heap[w.heap.size+1+1+1+1]?=some E/\(((((w.alloc A).alloc B).alloc C).alloc D).alloc E).heap.size=w.heap.size+1+1+1+1+1/\Below w.heap.size w (((((w.alloc A).alloc B).alloc C).alloc D).alloc E):=by
 have hB:=heap_alloc_new (w.alloc A) B
 have hC:=heap_alloc_new ((w.alloc A).alloc B) C
 have hD:=heap_alloc_new (((w.alloc A).alloc B).alloc C) D
 have hE:=heap_alloc_new ((((w.alloc A).alloc B).alloc C).alloc D) E
 simp only [alloc_size] at hB hC hD hE
 refine ⟨alloc_keep (alloc_keep (alloc_keep (alloc_keep (heap_alloc_new w A) B) C) D) E,alloc_keep (alloc_keep (alloc_keep hB C) D) E,alloc_keep (alloc_keep hC D) E,alloc_keep hD E,hE,by simp only [alloc_size],?_⟩
 have h1:=(Below.refl w.heap.size w).alloc (Nat.le_refl _) A
 have h2:=h1.alloc h1.size B
 have h3:=h2.alloc h2.size C
 have h4:=h3.alloc h3.size D
 exact h4.alloc h4.size E
theorem cat_one (a b:UInt8):(⟨#[a]⟩++⟨#[b]⟩:ByteArray)=⟨#[a,b]⟩:=by
 apply ByteArray.ext
 rw [<- Array.toList_inj]
 simp [ByteArray.data_append]
theorem stms_wide {B:Nat} {w W:World} {v:Value} {ss:List Stm} (h:Stms 0 B w (fun v' s'=>SRep 0 B w 13 5 v' s') v ss) (hB:B<=w.heap.size) (hb:Below w.heap.size w W):Stms 0 W.heap.size W (fun v' s'=>SRep 0 W.heap.size W 13 5 v' s') v ss:=
 h.carry (Nat.le_refl _) (Nat.le_trans hB hb.size) (Same45.of_below (hb.mono hB)) fun _ _ hr=>hr.carry (Nat.le_refl _) (Nat.le_trans hB hb.size) (Same35.of_below (hb.mono hB)) (Same45.of_below (hb.mono hB))
theorem out_walk (v0:Value) (zs0:List Int) (a1:Int) (w:World) (h0:IntsAt w .u8 v0 zs0) (z0:∀ n ∈ zs0,(Lit.int .u8 n).wf=true) (n0:zs0.length*1<=140737488351232) (b1:0<=a1/\a1<256) (hV:Lx.Vars w) (hTV:TypeVar w):
 Calls Tryz.prog 9 #[v0,.int .u8 a1] w fun e w'=>e=.returned (.bool true)/\Below w.heap.size w w':=by
 have HA:=awake_any w hV hTV
 obtain ⟨ns,hl,HM⟩:=made_for h0 z0 n0
 have hTl:=made_thr_len ns
 have hx3:=nxV_lt ns 3 (by decide)
 obtain ⟨k,hmod,hk⟩:∃ k:Nat,Int.tmod a1 ((makeM ns).threads.length:Int)=(k:Int)/\k<(makeM ns).threads.length:=by
  refine ⟨(Int.tmod a1 ((makeM ns).threads.length:Int)).toNat,?_,?_⟩
  · rw [Int.tmod_eq_emod_of_nonneg b1.1]
    have:=Int.emod_nonneg a1 (show ((makeM ns).threads.length:Int)≠0 by omega)
    omega
  · rw [Int.tmod_eq_emod_of_nonneg b1.1]
    have:=Int.emod_nonneg a1 (show ((makeM ns).threads.length:Int)≠0 by omega)
    have:=Int.emod_lt_of_pos a1 (show 0<((makeM ns).threads.length:Int) by omega)
    omega
 obtain ⟨ss,hss⟩:∃ ss,(makeM ns).threads[k]?=some ss:=⟨_,List.getElem?_eq_getElem hk⟩
 obtain ⟨o1,o2⟩:=made_out ns k hk ss hss
 obtain ⟨hm1,hm35⟩:=thr_few ns k ss hss
 have hk4:k<4:=by omega
 have henc:Utf8.encode (48+(k:Int))=⟨#[digitB k]⟩:=by
  have:=enc_digit' k
  rwa [show (k:Int) % 10=k by omega] at this
 have S1:=small_out ns hl k ss hss ⟨#[112,digitB k]⟩ (by simp [ByteArray.size])
 have S2:=small_out ns hl k ss hss ⟨#[115,digitB k]⟩ (by simp [ByteArray.size])
 obtain ⟨ds,hds⟩:∃ ds,ds=(makeM ns).decls:=⟨_,rfl⟩
 obtain ⟨ts,hts⟩:∃ ts,ts=(makeM ns).threads:=⟨_,rfl⟩
 rw [<- hds,<- hts] at HM o1 o2 S1 S2
 rw [<- hts] at hmod hk hss hTl
 have PC1:=fun (dv tv:Value) (w1:World) (D:Dcls 0 w1.heap.size w1 dv ds) (T:Thrs 0 w1.heap.size 13 5 w1 tv (ts.set k (ss++[outS ⟨#[112,digitB k]⟩])))=>check_any (p:=⟨ds,ts.set k (ss++[outS ⟨#[112,digitB k]⟩])⟩) D T S1.1 S1.2
 rw [o1] at PC1
 have PC2:=fun (dv tv:Value) (w1:World) (D:Dcls 0 w1.heap.size w1 dv ds) (T:Thrs 0 w1.heap.size 13 5 w1 tv (ts.set k (ss++[outS ⟨#[115,digitB k]⟩])))=>check_any (p:=⟨ds,ts.set k (ss++[outS ⟨#[115,digitB k]⟩])⟩) D T S2.1 S2.2
 rw [o2] at PC2
 have hT0:¬ (ts.length:Int)=0:=by omega
 have hkI:(k:Int)<(ts.length:Int):=by omega
 have hT3:ts.length<=3:=by omega
 have HTV:=Lib.hid hTV
 clear S1 S2 o1 o2 hds hts hTl hx3 h0 z0 n0 hV hTV hl
 go_enter Tryz.func9,Tryz.ntmps9
 go_wp2_with fail
 go_at_call 11
 refine HA.mono ?_
 rintro e w1 ⟨rfl,hb1⟩
 go_wp2_with fail
 go_at_call 14
 refine (HM _ hb1).mono ?_
 rintro e w2 ⟨dv,tv,rfl,D2,T2,hb2⟩
 have HLO:=Lib.hid T2
 have DZ:=dcls_zero D2
 have TZ:=thrs_zero T2
 obtain ⟨dao,dcap,rfl⟩:=Pr.dcls_slice DZ
 obtain ⟨tao,tcap,rfl⟩:=Pr.thrs_slice TZ
 obtain ⟨gT,off,ta,tc,rfl,hgT,⟨csT,hcT⟩,i0,hSt,_⟩:=thrs_put TZ hss
 have hlo:w1.heap.size<=gT:=by
  obtain ⟨_,_,e,_,hr⟩:=HLO.out
  cases e
  obtain ⟨g',off',_,_,e,hlo,_⟩:=hr k ss hss
  cases e
  exact hlo
 have HD:=Lib.hid DZ
 have HT:=Lib.hid TZ
 have HST:=Lib.hid hSt
 have HCT:=Lib.hid hcT
 clear D2 T2 DZ TZ HA HM HLO hSt hcT
 have i0A:=fun o=>(Lib.alloc_old w2 o gT hgT)
 have j0:∀ o,(w2.alloc o).cell? ⟨gT,off+k,none⟩=some (.slice ta ss.length tc):=fun o=>(World.cell?_of_block (alloc_keep HCT.out o |>.trans HCT.out.symm)).trans i0
 clear i0A
 go_wp2
 rw [cat_one 115,cat_one 112]
 obtain ⟨W0,hW0⟩:∃ W0,W0=(((((w2.alloc (.cells #[.slice dao ds.length dcap,.slice (some ⟨gT,off,none⟩) ts.length tcap] 26)).alloc (.cells #[.int .i64 1,.int .i64 0,.string ⟨#[115,digitB k]⟩,.int .u64 0,.slice none 0 0,.int .i64 0] 50)).alloc (.cells #[.int .i64 9,.string ⟨#[]⟩,.slice (some ⟨w2.heap.size+1,0,none⟩) 1 1,.int .i64 0,.slice none 0 0,.slice none 0 0,.int .i64 77] 45)).alloc (.cells #[.int .i64 1,.int .i64 0,.string ⟨#[112,digitB k]⟩,.int .u64 0,.slice none 0 0,.int .i64 0] 50)).alloc (.cells #[.int .i64 9,.string ⟨#[]⟩,.slice (some ⟨w2.heap.size+1+1+1,0,none⟩) 1 1,.int .i64 0,.slice none 0 0,.slice none 0 0,.int .i64 77] 45)):=⟨_,rfl⟩
 obtain ⟨hPB,hE1,hG9,hE2,hG10,hsz0,hbW⟩:=five w2 (.cells #[.slice dao ds.length dcap,.slice (some ⟨gT,off,none⟩) ts.length tcap] 26) (.cells #[.int .i64 1,.int .i64 0,.string ⟨#[115,digitB k]⟩,.int .u64 0,.slice none 0 0,.int .i64 0] 50) (.cells #[.int .i64 9,.string ⟨#[]⟩,.slice (some ⟨w2.heap.size+1,0,none⟩) 1 1,.int .i64 0,.slice none 0 0,.slice none 0 0,.int .i64 77] 45) (.cells #[.int .i64 1,.int .i64 0,.string ⟨#[112,digitB k]⟩,.int .u64 0,.slice none 0 0,.int .i64 0] 50) (.cells #[.int .i64 9,.string ⟨#[]⟩,.slice (some ⟨w2.heap.size+1+1+1,0,none⟩) 1 1,.int .i64 0,.slice none 0 0,.slice none 0 0,.int .i64 77] 45)
 rw [<- hW0] at hPB hE1 hG9 hE2 hG10 hsz0 hbW
 rw [<- hW0]
 clear hW0 j0
 obtain ⟨pb,hpb⟩:∃ pb,pb=w2.heap.size:=⟨_,rfl⟩
 have HST0:=Lib.hid (stms_wide HST.out (Nat.le_refl _) hbW)
 have HT0:=Lib.hid (thrs_later HT.out hbW)
 have HD0:=Lib.hid (dcls_later HD.out hbW)
 have HTB:=Lib.hid (Fl.keep hbW HCT.out)
 have i0:=(hbW.cell (p:=⟨gT,off+k,none⟩) hgT).trans i0
 have hgT0:gT<W0.heap.size:=Nat.lt_of_lt_of_le hgT hbW.size
 have HB0:=Lib.hid (hb2.trans (hbW.mono hb2.size))
 rw [<- hpb] at hPB hE1 hG9 hE2 hG10 hsz0
 rw [<- hpb]
 have HPB:=Lib.hid hPB
 have HE1:=Lib.hid hE1
 have HG9:=Lib.hid hG9
 have HE2:=Lib.hid hE2
 have HG10:=Lib.hid hG10
 have HSZ:=Lib.hid hsz0
 clear hPB hE1 hG9 hE2 hG10 hsz0 hpb hbW hb2 HD HT HST HCT hgT
 obtain ⟨xs,hsrc,hcells,gs,cs0,es,hgs⟩:=stms_src HST0.out hm1
 have hsl:∀ g,(Value.slice ta ss.length tc).ownBlock=some g->g<W0.heap.size:=fun g hg=>by
  rw [es] at hg
  cases hg
  exact hgs
 clear es hgs
 refine wp_region_slots (by kernel_rfl) (by kernel_rfl) (by kernel_rfl) (by kernel_rfl) (rowV pb gT (off+k) k ts.length tcap ss.length (some ⟨gT,off,none⟩) (.slice ta ss.length tc) #[.int .i64 9,.string ⟨#[]⟩,.slice (some ⟨pb+1+1+1,0,none⟩) 1 1,.int .i64 0,.slice none 0 0,.slice none 0 0,.int .i64 77]) (rowInv W0 gT (off+k) ss.length xs [.int .i64 9,.string ⟨#[]⟩,.slice (some ⟨pb+1+1+1,0,none⟩) 1 1,.int .i64 0,.slice none 0 0,.slice none 0 0,.int .i64 77]) ⟨.slice none 0 0,0,0,0⟩ ⟨fun _=>⟨(Below.refl _ _).drew,fun h=>(by cases h),fun h=>(by cases h),fun h=>(by cases h)⟩,fun h=>(by cases h)⟩ ?_ ?_
 · intro L g a wr i op hop hLi hpre hC hI hSl K hK
   have s5:a.tmps[5]?.getD undef=.pointer (some ⟨pb,0,none⟩):=(hSl.old2 5 (by kernel_rfl)).trans rfl
   have s6:a.tmps[6]?.getD undef=.int .i64 k:=(hSl.old2 6 (by kernel_rfl)).trans rfl
   have s8:a.tmps[8]?.getD undef=.slice ta ss.length tc:=(hSl.old2 8 (by kernel_rfl)).trans rfl
   have sg:a.tmps[10]?.getD undef=.pointer (some ⟨pb+1+1+1+1,0,none⟩):=(hSl.old2 10 (by kernel_rfl)).trans rfl
   match i with
   | 0=>
     obtain rfl:=Option.some.inj hop
     have no9:L 9=false:=by cases h:L 9 with | false=>rfl | true=>exact absurd (hC.at 9 0 (by kernel_rfl) h) (by simp [hLi])
     have u:=hI.1 no9
     obtain ⟨p0,p1⟩:=box_two (Fl.keep u.1 HPB.out)
     obtain ⟨y0,y1,y2,y3,y4,y5,y6⟩:=stmt_cells (Fl.keep u.1 HG10.out)
     go_simp
     exact hK _ _ ⟨g,fun _=>rfl,fun _ _ _=>rfl,hI.move no9 0 (by decide)⟩
   | 1=>
     obtain rfl:=Option.some.inj hop
     have no9:L 9=false:=by cases h:L 9 with | false=>rfl | true=>exact absurd (hC.at 9 1 (by kernel_rfl) h) (by simp [hLi])
     have u:=hI.1 no9
     obtain ⟨p0,p1⟩:=box_two (Fl.keep u.1 HPB.out)
     obtain ⟨y0,y1,y2,y3,y4,y5,y6⟩:=stmt_cells (Fl.keep u.1 HG10.out)
     have n0:=hSl.new2 0 42 (by kernel_rfl) (pre_at hpre 0 (by kernel_rfl)) (show 42<76 by decide)
     simp only [rowV] at n0
     go_simp
     exact hK _ _ ⟨g,fun _=>rfl,fun _ _ _=>rfl,hI.move no9 1 (by decide)⟩
   | 2=>
     obtain rfl:=Option.some.inj hop
     have no9:L 9=false:=by cases h:L 9 with | false=>rfl | true=>exact absurd (hC.at 9 2 (by kernel_rfl) h) (by simp [hLi])
     have u:=hI.1 no9
     obtain ⟨p0,p1⟩:=box_two (Fl.keep u.1 HPB.out)
     obtain ⟨y0,y1,y2,y3,y4,y5,y6⟩:=stmt_cells (Fl.keep u.1 HG10.out)
     go_simp
     exact hK _ _ ⟨g,fun _=>rfl,fun _ _ _=>rfl,hI.move no9 2 (by decide)⟩
   | 3=>
     obtain rfl:=Option.some.inj hop
     have no9:L 9=false:=by cases h:L 9 with | false=>rfl | true=>exact absurd (hC.at 9 3 (by kernel_rfl) h) (by simp [hLi])
     have u:=hI.1 no9
     obtain ⟨p0,p1⟩:=box_two (Fl.keep u.1 HPB.out)
     obtain ⟨y0,y1,y2,y3,y4,y5,y6⟩:=stmt_cells (Fl.keep u.1 HG10.out)
     go_simp
     exact hK _ _ ⟨g,fun _=>rfl,fun _ _ _=>rfl,hI.move no9 3 (by decide)⟩
   | 4=>
     obtain rfl:=Option.some.inj hop
     have no9:L 9=false:=by cases h:L 9 with | false=>rfl | true=>exact absurd (hC.at 9 4 (by kernel_rfl) h) (by simp [hLi])
     have u:=hI.1 no9
     obtain ⟨p0,p1⟩:=box_two (Fl.keep u.1 HPB.out)
     obtain ⟨y0,y1,y2,y3,y4,y5,y6⟩:=stmt_cells (Fl.keep u.1 HG10.out)
     have n3:=hSl.new 3 45 (by kernel_rfl) (pre_at hpre 3 (by kernel_rfl)) (show 45<76 by decide)
     simp only [rowV] at n3
     have no7:L 7=false:=by cases h:L 7 with | false=>rfl | true=>exact absurd (hC.at 7 4 (by kernel_rfl) h) (by simp [hLi])
     obtain ⟨i0',hi,hz0,hz1,hz2⟩:=info_parts infoStmt
     refine wp_copy (.const (.slice none 0 0)) (.tmp 45) 40 (by rfl) W0.heap.size 45 i0' _ 7 112 Tryz.underlying40 hi hz0 hz1 hz2 rfl (by omega) rfl _ ss.length xs n3 (hsrc.on u.1 hsl) (by unfold maxLen;omega) (by omega) u.1.size ?_
     intro v1 w5 hown1 hgrow
     obtain ⟨a1,a3,a4,a5⟩:=u.below (below_none hgrow)
     refine hK _ _ ⟨{ g with v1:=v1 },fun _=>rfl,fun j hj hLj=>?_,fun _=>⟨a1,fun _ _=>hown1,fun h1 h2=>a4 (by simpa using h1) (by simpa using h2),fun h=>?_⟩,fun h=>?_⟩
     · unfold rowV;split <;> first | rfl | exact absurd rfl hj
     · simp [no7] at h
     · simp [no9] at h
   | 5=>
     obtain rfl:=Option.some.inj hop
     have no9:L 9=false:=by cases h:L 9 with | false=>rfl | true=>exact absurd (hC.at 9 5 (by kernel_rfl) h) (by simp [hLi])
     have u:=hI.1 no9
     obtain ⟨p0,p1⟩:=box_two (Fl.keep u.1 HPB.out)
     obtain ⟨y0,y1,y2,y3,y4,y5,y6⟩:=stmt_cells (Fl.keep u.1 HG10.out)
     go_simp
     exact hK _ _ ⟨g,fun _=>rfl,fun _ _ _=>rfl,hI.move no9 5 (by decide)⟩
   | 6=>
     obtain rfl:=Option.some.inj hop
     have no9:L 9=false:=by cases h:L 9 with | false=>rfl | true=>exact absurd (hC.at 9 6 (by kernel_rfl) h) (by simp [hLi])
     have u:=hI.1 no9
     obtain ⟨p0,p1⟩:=box_two (Fl.keep u.1 HPB.out)
     obtain ⟨y0,y1,y2,y3,y4,y5,y6⟩:=stmt_cells (Fl.keep u.1 HG10.out)
     have n5:=hSl.new2 5 47 (by kernel_rfl) (pre_at hpre 5 (by kernel_rfl)) (show 47<76 by decide)
     simp only [rowV] at n5
     have no7:L 7=false:=by cases h:L 7 with | false=>rfl | true=>exact absurd (hC.at 7 6 (by kernel_rfl) h) (by simp [hLi])
     go_simp
     obtain ⟨a1,a3,a4,a5⟩:=u.below ((Below.refl _ _).alloc (Nat.le_refl _) (.cells #[.int .i64 9,.string ⟨#[]⟩,.slice (some ⟨pb+1+1+1,0,none⟩) 1 1,.int .i64 0,.slice none 0 0,.slice none 0 0,.int .i64 77] 45))
     refine hK _ _ ⟨{ g with q:=wr.heap.size },fun _=>rfl,fun j hj hLj=>?_,fun _=>⟨a1,fun h1 h2=>a3 (by simpa using h1) (by simpa using h2),fun _ _=>heap_alloc_new _ _,fun h=>?_⟩,fun h=>?_⟩
     · unfold rowV;split <;> first | rfl | exact absurd rfl hj
     · simp [no7] at h
     · simp [no9] at h
   | 7=>
     obtain rfl:=Option.some.inj hop
     have no9:L 9=false:=by cases h:L 9 with | false=>rfl | true=>exact absurd (hC.at 9 7 (by kernel_rfl) h) (by simp [hLi])
     have u:=hI.1 no9
     obtain ⟨p0,p1⟩:=box_two (Fl.keep u.1 HPB.out)
     obtain ⟨y0,y1,y2,y3,y4,y5,y6⟩:=stmt_cells (Fl.keep u.1 HG10.out)
     have n4:=hSl.new 4 46 (by kernel_rfl) (pre_at hpre 4 (by kernel_rfl)) (show 46<76 by decide)
     simp only [rowV] at n4
     have n6:=hSl.new 6 48 (by kernel_rfl) (pre_at hpre 6 (by kernel_rfl)) (show 48<76 by decide)
     simp only [rowV] at n6
     obtain ⟨a1,a3,a4,a5⟩:=id u
     have hown:=a3 (pre_at hpre 4 (by kernel_rfl)) hLi
     have hone:=a4 (pre_at hpre 6 (by kernel_rfl)) hLi
     obtain ⟨i0',hi,hz0,hz1,hz2⟩:=info_parts infoStmt
     refine wp_append_lies wr (.tmp 46) (.tmp 48) 40 (by rfl) W0.heap.size 45 i0' _ 7 112 Tryz.underlying40 hi hz0 hz1 hz2 rfl (by omega) _ ss.length xs n4 hown ⟨g.q,0,none⟩ 1 1 [.int .i64 9,.string ⟨#[]⟩,.slice (some ⟨pb+1+1+1,0,none⟩) 1 1,.int .i64 0,.slice none 0 0,.slice none 0 0,.int .i64 77] n6 (by simp) (World.news_of_block hone) (by simp [Value.oneCell']) (by omega) (by unfold maxLen;omega) (by omega) a1.size _ rfl ?_
     intro gg cap w5 hown1 hgrow hat hlt1
     have hbl:Below W0.heap.size wr w5:=(Below.refl _ _).grown hgrow a1.size (fun k hk=>(hown.lt k hk).1)
     refine hK _ _ ⟨{ g with gg:=gg,cap:=cap },fun _=>rfl,fun j hj hLj=>?_,fun _=>⟨a1.trans hbl,fun _ h=>(by simp at h),fun _ h=>(by simp at h),fun _=>hown1⟩,fun h=>?_⟩
     · have no8:L 8=false:=by cases h:L 8 with | false=>rfl | true=>exact absurd (hC.at 8 7 (by kernel_rfl) h) (by simp [hLi])
       unfold rowV;split <;> first | rfl | exact absurd rfl hj | (rw [no8] at hLj;cases hLj) | (rw [no9] at hLj;cases hLj)
     · simp [no9] at h
   | 8=>
     obtain rfl:=Option.some.inj hop
     have no9:L 9=false:=by cases h:L 9 with | false=>rfl | true=>exact absurd (hC.at 9 8 (by kernel_rfl) h) (by simp [hLi])
     have u:=hI.1 no9
     obtain ⟨p0,p1⟩:=box_two (Fl.keep u.1 HPB.out)
     obtain ⟨y0,y1,y2,y3,y4,y5,y6⟩:=stmt_cells (Fl.keep u.1 HG10.out)
     have n1:=hSl.new2 1 43 (by kernel_rfl) (pre_at hpre 1 (by kernel_rfl)) (show 43<76 by decide)
     simp only [rowV] at n1
     have n2:=hSl.new2 2 44 (by kernel_rfl) (pre_at hpre 2 (by kernel_rfl)) (show 44<76 by decide)
     simp only [rowV] at n2
     go_simp
     exact hK _ _ ⟨g,fun _=>rfl,fun _ _ _=>rfl,hI.move no9 8 (by decide)⟩
   | 9=>
     obtain rfl:=Option.some.inj hop
     have u:=hI.1 hLi
     have n7:=hSl.new2 7 49 (by kernel_rfl) (pre_at hpre 7 (by kernel_rfl)) (show 49<76 by decide)
     simp only [rowV] at n7
     have n8:=hSl.new2 8 50 (by kernel_rfl) (pre_at hpre 8 (by kernel_rfl)) (show 50<76 by decide)
     simp only [rowV] at n8
     have kr:=(u.1.cell (p:=⟨gT,off+k,none⟩) hgT0).trans i0
     have fr:=Lib.frozen_of_heap (Fl.keep u.1 HTB.out) (off+k)
     go_simp
     exact hK undef _ ⟨g,fun h=>absurd rfl h,fun _ _ _=>rfl,fun e=>(by simp at e),fun _=>⟨wr,⟨u.1,fun _ h=>(by cases h),fun _ h=>(by cases h),fun _=>u.2.2.2 (pre_at hpre 7 (by kernel_rfl))⟩,rfl⟩⟩
   | _+10=>simp at hop
 · intro L g wz hL hI
   obtain ⟨w9,⟨hb9,_,_,hown9⟩,hwz⟩:=hI.2 (hL 9 (by decide))
   have hown:=hown9 rfl
   subst hwz
   clear hI hL
   refine at_all (prs [42,43,44,45,46,47,48,49,50] (rowV pb gT (off+k) k ts.length tcap ss.length (some ⟨gT,off,none⟩) (.slice ta ss.length tc) #[.int .i64 9,.string ⟨#[]⟩,.slice (some ⟨pb+1+1+1,0,none⟩) 1 1,.int .i64 0,.slice none 0 0,.slice none 0 0,.int .i64 77] g)) (fun t=>by kernel_rfl) ?_
   simp only [prs,List.zipIdx,List.map,List.foldl,Nat.zero_add,Nat.reduceAdd,List.setIfInBounds_toArray,List.set_cons_zero,List.set_cons_succ,rowV]
   obtain ⟨csz,hcz,hszz,hTz0⟩:=put_row HT0.out hss hb9 (by omega) hown hsrc.1 hcells (out_rep HE2.out (heap_lt HE2.out))
   obtain ⟨WZ,hWZ⟩:∃ WZ,WZ=w9.setCell ⟨gT,off+k,none⟩ (.slice (some ⟨g.gg,0,none⟩) (ss.length+1) g.cap):=⟨_,rfl⟩
   rw [<- hWZ] at hszz hTz0
   rw [<- hWZ]
   have k45:TSame 45 w9 WZ:=by rw [hWZ];exact TSame.of_set hcz (by decide) _ _
   have k35:TSame 50 w9 WZ:=by rw [hWZ];exact TSame.of_set hcz (by decide) _ _
   have kD:TSame 39 w9 WZ:=by rw [hWZ];exact TSame.of_set hcz (by decide) _ _
   have kP:TSame 26 w9 WZ:=by rw [hWZ];exact TSame.of_set hcz (by decide) _ _
   have HBz:=Lib.hid (show Below w1.heap.size w1 WZ from by rw [hWZ];exact (HB0.out.trans (hb9.mono HB0.out.size)).setCell hlo _)
   have hDz:Dcls 0 WZ.heap.size WZ (.slice dao ds.length dcap) ds:=by rw [hszz];exact Pr.Dcls.tsame (dcls_later HD0.out hb9) kD (Nat.le_refl _) (Nat.le_refl _)
   have hTz:Thrs 0 WZ.heap.size 13 5 WZ (.slice (some ⟨gT,off,none⟩) ts.length tcap) (ts.set k (ss++[outS ⟨#[112,digitB k]⟩])):=by rw [hszz];exact hTz0
   have HPBz:=Lib.hid (kP _ _ _ (Fl.keep hb9 HPB.out))
   have HG9z:=Lib.hid (k45 _ _ _ (Fl.keep hb9 HG9.out))
   have HE1z:=Lib.hid (k35 _ _ _ (Fl.keep hb9 HE1.out))
   have HSTz:Hid (Stms 0 WZ.heap.size WZ (fun v' s'=>SRep 0 WZ.heap.size WZ 13 5 v' s') (.slice ta ss.length tc) ss):=Lib.hid (by
    rw [hszz]
    exact (stms_wide HST0.out (Nat.le_refl _) hb9).carry (Nat.le_refl _) (Nat.le_refl _) (k45.s45 _ _) fun _ _ hr=>hr.carry (Nat.le_refl _) (Nat.le_refl _) (k35.s35 _ _) (k45.s45 _ _))
   obtain ⟨p0,p1⟩:=box_two HPBz.out
   clear hWZ k45 k35 kD kP hszz hTz0 hcz hown hb9 hcells hsrc HT0 HD0 HST0 HTB i0 hgT0 HPB HE1 HG9 HE2 HG10 HSZ HB0 hsl
   have PCz:=PC1 _ _ WZ hDz hTz
   clear PC1
   go_wp2_with (go_at_call 16;refine PCz.mono ?_;rintro e w10 ⟨hb10,rfl⟩)
   have HT0:=Lib.hid (thrs_later hTz hb10)
   have HD0:=Lib.hid (dcls_later hDz hb10)
   have HST0:=Lib.hid (stms_wide HSTz.out (Nat.le_refl _) hb10)
   have HPB:=Lib.hid (Fl.keep hb10 HPBz.out)
   have HG9:=Lib.hid (Fl.keep hb10 HG9z.out)
   have HE1:=Lib.hid (Fl.keep hb10 HE1z.out)
   have HB0:=Lib.hid (HBz.out.trans (hb10.mono HBz.out.size))
   have hss2:(ts.set k (ss++[outS ⟨#[112,digitB k]⟩]))[k]?=some (ss++[outS ⟨#[112,digitB k]⟩]):=List.getElem?_set_self hk
   have HT1:Hid (Thrs 0 w10.heap.size 13 5 w10 (.slice (some ⟨gT,off,none⟩) (ts.set k (ss++[outS ⟨#[112,digitB k]⟩])).length tcap) (ts.set k (ss++[outS ⟨#[112,digitB k]⟩]))):=Lib.hid (by rw [List.length_set];exact HT0.out)
   obtain ⟨g5,o5,ta5,tc5,e5,hgT0,⟨cs5,hc5⟩,i0,_,_⟩:=thrs_put HT1.out hss2
   simp only [Option.some.injEq,Addr.mk.injEq,and_true] at e5
   obtain ⟨rfl,rfl⟩:=e5
   have HTB:=Lib.hid hc5
   clear hc5 hDz hTz PCz HPBz HG9z HE1z HSTz HBz hb10 p0 p1
   obtain ⟨xs,hsrc,hcells,gs,cs0,es,hgs⟩:=stms_src HST0.out hm1
   have hsl:∀ g,(Value.slice ta ss.length tc).ownBlock=some g->g<w10.heap.size:=fun g hg=>by
    rw [es] at hg
    cases hg
    exact hgs
   clear es hgs
   refine wp_region_slots (by kernel_rfl) (by kernel_rfl) (by kernel_rfl) (by kernel_rfl) (rowV pb gT (off+k) k ts.length tcap ss.length (some ⟨gT,off,none⟩) (.slice ta ss.length tc) #[.int .i64 9,.string ⟨#[]⟩,.slice (some ⟨pb+1,0,none⟩) 1 1,.int .i64 0,.slice none 0 0,.slice none 0 0,.int .i64 77]) (rowInv w10 gT (off+k) ss.length xs [.int .i64 9,.string ⟨#[]⟩,.slice (some ⟨pb+1,0,none⟩) 1 1,.int .i64 0,.slice none 0 0,.slice none 0 0,.int .i64 77]) ⟨.slice none 0 0,0,0,0⟩ ⟨fun _=>⟨(Below.refl _ _).drew,fun h=>(by cases h),fun h=>(by cases h),fun h=>(by cases h)⟩,fun h=>(by cases h)⟩ ?_ ?_
   · intro L g a wr i op hop hLi hpre hC hI hSl K hK
     have s5:a.tmps[5]?.getD undef=.pointer (some ⟨pb,0,none⟩):=(hSl.old2 5 (by kernel_rfl)).trans rfl
     have s6:a.tmps[6]?.getD undef=.int .i64 k:=(hSl.old2 6 (by kernel_rfl)).trans rfl
     have s8:a.tmps[8]?.getD undef=.slice ta ss.length tc:=(hSl.old2 8 (by kernel_rfl)).trans rfl
     have sg:a.tmps[9]?.getD undef=.pointer (some ⟨pb+1+1,0,none⟩):=(hSl.old2 9 (by kernel_rfl)).trans rfl
     match i with
     | 0=>
       obtain rfl:=Option.some.inj hop
       have no9:L 9=false:=by cases h:L 9 with | false=>rfl | true=>exact absurd (hC.at 9 0 (by kernel_rfl) h) (by simp [hLi])
       have u:=hI.1 no9
       obtain ⟨p0,p1⟩:=box_two (Fl.keep u.1 HPB.out)
       obtain ⟨y0,y1,y2,y3,y4,y5,y6⟩:=stmt_cells (Fl.keep u.1 HG9.out)
       go_simp
       exact hK _ _ ⟨g,fun _=>rfl,fun _ _ _=>rfl,hI.move no9 0 (by decide)⟩
     | 1=>
       obtain rfl:=Option.some.inj hop
       have no9:L 9=false:=by cases h:L 9 with | false=>rfl | true=>exact absurd (hC.at 9 1 (by kernel_rfl) h) (by simp [hLi])
       have u:=hI.1 no9
       obtain ⟨p0,p1⟩:=box_two (Fl.keep u.1 HPB.out)
       obtain ⟨y0,y1,y2,y3,y4,y5,y6⟩:=stmt_cells (Fl.keep u.1 HG9.out)
       have n0:=hSl.new2 0 53 (by kernel_rfl) (pre_at hpre 0 (by kernel_rfl)) (show 53<76 by decide)
       simp only [rowV] at n0
       go_simp
       exact hK _ _ ⟨g,fun _=>rfl,fun _ _ _=>rfl,hI.move no9 1 (by decide)⟩
     | 2=>
       obtain rfl:=Option.some.inj hop
       have no9:L 9=false:=by cases h:L 9 with | false=>rfl | true=>exact absurd (hC.at 9 2 (by kernel_rfl) h) (by simp [hLi])
       have u:=hI.1 no9
       obtain ⟨p0,p1⟩:=box_two (Fl.keep u.1 HPB.out)
       obtain ⟨y0,y1,y2,y3,y4,y5,y6⟩:=stmt_cells (Fl.keep u.1 HG9.out)
       go_simp
       exact hK _ _ ⟨g,fun _=>rfl,fun _ _ _=>rfl,hI.move no9 2 (by decide)⟩
     | 3=>
       obtain rfl:=Option.some.inj hop
       have no9:L 9=false:=by cases h:L 9 with | false=>rfl | true=>exact absurd (hC.at 9 3 (by kernel_rfl) h) (by simp [hLi])
       have u:=hI.1 no9
       obtain ⟨p0,p1⟩:=box_two (Fl.keep u.1 HPB.out)
       obtain ⟨y0,y1,y2,y3,y4,y5,y6⟩:=stmt_cells (Fl.keep u.1 HG9.out)
       go_simp
       exact hK _ _ ⟨g,fun _=>rfl,fun _ _ _=>rfl,hI.move no9 3 (by decide)⟩
     | 4=>
       obtain rfl:=Option.some.inj hop
       have no9:L 9=false:=by cases h:L 9 with | false=>rfl | true=>exact absurd (hC.at 9 4 (by kernel_rfl) h) (by simp [hLi])
       have u:=hI.1 no9
       obtain ⟨p0,p1⟩:=box_two (Fl.keep u.1 HPB.out)
       obtain ⟨y0,y1,y2,y3,y4,y5,y6⟩:=stmt_cells (Fl.keep u.1 HG9.out)
       have n3:=hSl.new 3 56 (by kernel_rfl) (pre_at hpre 3 (by kernel_rfl)) (show 56<76 by decide)
       simp only [rowV] at n3
       have no7:L 7=false:=by cases h:L 7 with | false=>rfl | true=>exact absurd (hC.at 7 4 (by kernel_rfl) h) (by simp [hLi])
       obtain ⟨i0',hi,hz0,hz1,hz2⟩:=info_parts infoStmt
       refine wp_copy (.const (.slice none 0 0)) (.tmp 56) 40 (by rfl) w10.heap.size 45 i0' _ 7 112 Tryz.underlying40 hi hz0 hz1 hz2 rfl (by omega) rfl _ ss.length xs n3 (hsrc.on u.1 hsl) (by unfold maxLen;omega) (by omega) u.1.size ?_
       intro v1 w5 hown1 hgrow
       obtain ⟨a1,a3,a4,a5⟩:=u.below (below_none hgrow)
       refine hK _ _ ⟨{ g with v1:=v1 },fun _=>rfl,fun j hj hLj=>?_,fun _=>⟨a1,fun _ _=>hown1,fun h1 h2=>a4 (by simpa using h1) (by simpa using h2),fun h=>?_⟩,fun h=>?_⟩
       · unfold rowV;split <;> first | rfl | exact absurd rfl hj
       · simp [no7] at h
       · simp [no9] at h
     | 5=>
       obtain rfl:=Option.some.inj hop
       have no9:L 9=false:=by cases h:L 9 with | false=>rfl | true=>exact absurd (hC.at 9 5 (by kernel_rfl) h) (by simp [hLi])
       have u:=hI.1 no9
       obtain ⟨p0,p1⟩:=box_two (Fl.keep u.1 HPB.out)
       obtain ⟨y0,y1,y2,y3,y4,y5,y6⟩:=stmt_cells (Fl.keep u.1 HG9.out)
       go_simp
       exact hK _ _ ⟨g,fun _=>rfl,fun _ _ _=>rfl,hI.move no9 5 (by decide)⟩
     | 6=>
       obtain rfl:=Option.some.inj hop
       have no9:L 9=false:=by cases h:L 9 with | false=>rfl | true=>exact absurd (hC.at 9 6 (by kernel_rfl) h) (by simp [hLi])
       have u:=hI.1 no9
       obtain ⟨p0,p1⟩:=box_two (Fl.keep u.1 HPB.out)
       obtain ⟨y0,y1,y2,y3,y4,y5,y6⟩:=stmt_cells (Fl.keep u.1 HG9.out)
       have n5:=hSl.new2 5 58 (by kernel_rfl) (pre_at hpre 5 (by kernel_rfl)) (show 58<76 by decide)
       simp only [rowV] at n5
       have no7:L 7=false:=by cases h:L 7 with | false=>rfl | true=>exact absurd (hC.at 7 6 (by kernel_rfl) h) (by simp [hLi])
       go_simp
       obtain ⟨a1,a3,a4,a5⟩:=u.below ((Below.refl _ _).alloc (Nat.le_refl _) (.cells #[.int .i64 9,.string ⟨#[]⟩,.slice (some ⟨pb+1,0,none⟩) 1 1,.int .i64 0,.slice none 0 0,.slice none 0 0,.int .i64 77] 45))
       refine hK _ _ ⟨{ g with q:=wr.heap.size },fun _=>rfl,fun j hj hLj=>?_,fun _=>⟨a1,fun h1 h2=>a3 (by simpa using h1) (by simpa using h2),fun _ _=>heap_alloc_new _ _,fun h=>?_⟩,fun h=>?_⟩
       · unfold rowV;split <;> first | rfl | exact absurd rfl hj
       · simp [no7] at h
       · simp [no9] at h
     | 7=>
       obtain rfl:=Option.some.inj hop
       have no9:L 9=false:=by cases h:L 9 with | false=>rfl | true=>exact absurd (hC.at 9 7 (by kernel_rfl) h) (by simp [hLi])
       have u:=hI.1 no9
       obtain ⟨p0,p1⟩:=box_two (Fl.keep u.1 HPB.out)
       obtain ⟨y0,y1,y2,y3,y4,y5,y6⟩:=stmt_cells (Fl.keep u.1 HG9.out)
       have n4:=hSl.new 4 57 (by kernel_rfl) (pre_at hpre 4 (by kernel_rfl)) (show 57<76 by decide)
       simp only [rowV] at n4
       have n6:=hSl.new 6 59 (by kernel_rfl) (pre_at hpre 6 (by kernel_rfl)) (show 59<76 by decide)
       simp only [rowV] at n6
       obtain ⟨a1,a3,a4,a5⟩:=id u
       have hown:=a3 (pre_at hpre 4 (by kernel_rfl)) hLi
       have hone:=a4 (pre_at hpre 6 (by kernel_rfl)) hLi
       obtain ⟨i0',hi,hz0,hz1,hz2⟩:=info_parts infoStmt
       refine wp_append_lies wr (.tmp 57) (.tmp 59) 40 (by rfl) w10.heap.size 45 i0' _ 7 112 Tryz.underlying40 hi hz0 hz1 hz2 rfl (by omega) _ ss.length xs n4 hown ⟨g.q,0,none⟩ 1 1 [.int .i64 9,.string ⟨#[]⟩,.slice (some ⟨pb+1,0,none⟩) 1 1,.int .i64 0,.slice none 0 0,.slice none 0 0,.int .i64 77] n6 (by simp) (World.news_of_block hone) (by simp [Value.oneCell']) (by omega) (by unfold maxLen;omega) (by omega) a1.size _ rfl ?_
       intro gg cap w5 hown1 hgrow hat hlt1
       have hbl:Below w10.heap.size wr w5:=(Below.refl _ _).grown hgrow a1.size (fun k hk=>(hown.lt k hk).1)
       refine hK _ _ ⟨{ g with gg:=gg,cap:=cap },fun _=>rfl,fun j hj hLj=>?_,fun _=>⟨a1.trans hbl,fun _ h=>(by simp at h),fun _ h=>(by simp at h),fun _=>hown1⟩,fun h=>?_⟩
       · have no8:L 8=false:=by cases h:L 8 with | false=>rfl | true=>exact absurd (hC.at 8 7 (by kernel_rfl) h) (by simp [hLi])
         unfold rowV;split <;> first | rfl | exact absurd rfl hj | (rw [no8] at hLj;cases hLj) | (rw [no9] at hLj;cases hLj)
       · simp [no9] at h
     | 8=>
       obtain rfl:=Option.some.inj hop
       have no9:L 9=false:=by cases h:L 9 with | false=>rfl | true=>exact absurd (hC.at 9 8 (by kernel_rfl) h) (by simp [hLi])
       have u:=hI.1 no9
       obtain ⟨p0,p1⟩:=box_two (Fl.keep u.1 HPB.out)
       obtain ⟨y0,y1,y2,y3,y4,y5,y6⟩:=stmt_cells (Fl.keep u.1 HG9.out)
       have n1:=hSl.new2 1 54 (by kernel_rfl) (pre_at hpre 1 (by kernel_rfl)) (show 54<76 by decide)
       simp only [rowV] at n1
       have n2:=hSl.new2 2 55 (by kernel_rfl) (pre_at hpre 2 (by kernel_rfl)) (show 55<76 by decide)
       simp only [rowV] at n2
       go_simp
       exact hK _ _ ⟨g,fun _=>rfl,fun _ _ _=>rfl,hI.move no9 8 (by decide)⟩
     | 9=>
       obtain rfl:=Option.some.inj hop
       have u:=hI.1 hLi
       have n7:=hSl.new2 7 60 (by kernel_rfl) (pre_at hpre 7 (by kernel_rfl)) (show 60<76 by decide)
       simp only [rowV] at n7
       have n8:=hSl.new2 8 61 (by kernel_rfl) (pre_at hpre 8 (by kernel_rfl)) (show 61<76 by decide)
       simp only [rowV] at n8
       have kr:=(u.1.cell (p:=⟨gT,off+k,none⟩) hgT0).trans i0
       have fr:=Lib.frozen_of_heap (Fl.keep u.1 HTB.out) (off+k)
       go_simp
       exact hK undef _ ⟨g,fun h=>absurd rfl h,fun _ _ _=>rfl,fun e=>(by simp at e),fun _=>⟨wr,⟨u.1,fun _ h=>(by cases h),fun _ h=>(by cases h),fun _=>u.2.2.2 (pre_at hpre 7 (by kernel_rfl))⟩,rfl⟩⟩
     | _+10=>simp at hop
   · intro L g wz hL hI
     obtain ⟨w9,⟨hb9,_,_,hown9⟩,hwz⟩:=hI.2 (hL 9 (by decide))
     have hown:=hown9 rfl
     subst hwz
     clear hI hL
     refine at_all (prs [53,54,55,56,57,58,59,60,61] (rowV pb gT (off+k) k ts.length tcap ss.length (some ⟨gT,off,none⟩) (.slice ta ss.length tc) #[.int .i64 9,.string ⟨#[]⟩,.slice (some ⟨pb+1,0,none⟩) 1 1,.int .i64 0,.slice none 0 0,.slice none 0 0,.int .i64 77] g)) (fun t=>by kernel_rfl) ?_
     simp only [prs,List.zipIdx,List.map,List.foldl,Nat.zero_add,Nat.reduceAdd,List.setIfInBounds_toArray,List.set_cons_zero,List.set_cons_succ,rowV]
     obtain ⟨csz,hcz,hszz,hTz0⟩:=put_row HT1.out hss2 hb9 (by omega) hown hsrc.1 hcells (out_rep HE1.out (heap_lt HE1.out))
     obtain ⟨WZ,hWZ⟩:∃ WZ,WZ=w9.setCell ⟨gT,off+k,none⟩ (.slice (some ⟨g.gg,0,none⟩) (ss.length+1) g.cap):=⟨_,rfl⟩
     rw [<- hWZ] at hszz hTz0
     rw [<- hWZ]
     have k45:TSame 45 w9 WZ:=by rw [hWZ];exact TSame.of_set hcz (by decide) _ _
     have k35:TSame 50 w9 WZ:=by rw [hWZ];exact TSame.of_set hcz (by decide) _ _
     have kD:TSame 39 w9 WZ:=by rw [hWZ];exact TSame.of_set hcz (by decide) _ _
     have kP:TSame 26 w9 WZ:=by rw [hWZ];exact TSame.of_set hcz (by decide) _ _
     have HBz:=Lib.hid (show Below w1.heap.size w1 WZ from by rw [hWZ];exact (HB0.out.trans (hb9.mono HB0.out.size)).setCell hlo _)
     have hDz:Dcls 0 WZ.heap.size WZ (.slice dao ds.length dcap) ds:=by rw [hszz];exact Pr.Dcls.tsame (dcls_later HD0.out hb9) kD (Nat.le_refl _) (Nat.le_refl _)
     rw [List.set_set] at hTz0
     rw [List.length_set] at hTz0
     have hTz:Thrs 0 WZ.heap.size 13 5 WZ (.slice (some ⟨gT,off,none⟩) ts.length tcap) (ts.set k (ss++[outS ⟨#[115,digitB k]⟩])):=by rw [hszz];exact hTz0
     have HPBz:=Lib.hid (kP _ _ _ (Fl.keep hb9 HPB.out))
     obtain ⟨p0,p1⟩:=box_two HPBz.out
     clear hWZ k45 k35 kD kP hszz hTz0 hcz hown hb9 hcells hsrc HT0 HT1 HD0 HST0 HTB i0 hgT0 HPB HE1 HG9 HB0 hsl
     have PCz:=PC2 _ _ WZ hDz hTz
     have HTV1:=Lib.hid (tv_on HTV.out hb1)
     clear PC2
     go_wp2_with (first
        | (go_at_call 24;refine (place_any fb 77 _ w12 (tv_on HTV.out h12) (Fl.keep hb12 hft)).mono ?_;rintro e w13 ⟨rfl,hb13⟩)
        | (go_at_call 23;refine (number_any fb 77 4 w11 (tv_on HTV.out h11) hft).mono ?_;rintro e w12 ⟨rfl,hb12⟩;have h12:=h11.trans (hb12.mono h11.size))
        | (go_at_call 16;refine PCz.mono ?_;rintro e w11 ⟨hb11,fb,rfl,hft,hfz⟩;have h0z:=hb1.trans (HBz.out.mono hb1.size);have h11:=h0z.trans (hb11.mono h0z.size)))
     go_ret
     exact ⟨rfl,h12.trans (hb13.mono h12.size)⟩
end Go.Proofs.YtlepckjmdjjolaaGreatDoor.Fl
