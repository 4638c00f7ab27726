/- Own texts laid together: PProg, PProg2, PProg3. Conditions: as each theorem says. -/
import Derived.Test.YtlepckjmdjjolaaGreatDoorGPDeclA
set_option maxHeartbeats 4000000
set_option maxRecDepth 100000
set_option linter.unusedVariables false
set_option linter.unusedSimpArgs false
namespace Go.Proofs.YtlepckjmdjjolaaGreatDoor.Pr
open Go.ChangeShapes Go.WideShapes Go.ChangeAt Go.RowKit
open Lx (Tok)
theorem num_lt:∀ (l:List UInt8) (acc v:Nat),acc<18446744073709551616->Lx.numFrom acc l=some v->v<18446744073709551616
 | [],acc,v,h,e=>by simp [Lx.numFrom] at e;omega
 | c :: r,acc,v,h,e=>by
   unfold Lx.numFrom at e
   split at e
   · exact num_lt r _ v (by assumption) e
   · cases e
theorem readTok_fit {l:List UInt8} {k:Nat} {t:Tok} (h:Lx.readTok l k=some t):t.kind≠0/\t.kind<=4/\t.value<18446744073709551616:=by
 unfold Lx.readTok at h
 match l,h with
 | [],h=>simp at h
 | c :: r,h=>
   simp only at h
   split at h
   · simp only [Option.some.injEq] at h
     subst h
     refine ⟨?_,?_,by simp⟩
     · show (if _ then 2 else 1)≠0
       split <;> simp
     · show (if _ then 2 else 1)<=4
       split <;> simp
   · split at h
     · unfold Lx.digitTok at h
       split at h
       · cases h
       · split at h
         · rename_i v hv
           simp only [Option.some.injEq] at h
           subst h
           exact ⟨by simp,by simp,num_lt _ 0 v (by omega) hv⟩
         · cases h
     · split at h
       · cases h
       · simp only [Option.some.injEq] at h
         subst h
         exact ⟨by simp,by simp,by simp⟩
theorem goTok_good:∀ (f:Nat) (l:List UInt8) (k:Nat) (ts:List Tok),Lx.goTok f l k=.ok ts->k+l.length<=65536->(∃ us e,ts=us++[endT e]/\∀ t ∈ us,t.kind≠0/\t.text≠[])/\∀ t ∈ ts,fitT t
 | 0,_,_,_,h,_=>by simp [Lx.goTok] at h
 | f+1,[],k,ts,h,hk=>by
   rw [Lx.goTok_nil] at h
   cases h
   refine ⟨⟨[],k,rfl,fun t ht=>by simp at ht⟩,fun t ht=>?_⟩
   simp at ht
   subst ht
   simp at hk
   exact ⟨by simp,by simp,by simp,hk⟩
 | f+1,c :: r,k,ts,h,hk=>by
   cases hr:Lx.readTok (c :: r) k with
   | none=>rw [Lx.goTok_none (by simp) hr] at h;cases h
   | some t=>
     obtain ⟨n,h0,h1,h2,h3,h4⟩:=Lx.readTok_some hr
     obtain ⟨p1,p2,p3⟩:=readTok_fit hr
     rw [Lx.goTok_some hr] at h
     generalize hq:Lx.goTok f _ _=q at h
     cases q with
     | ok us=>
       have hdl:(((c :: r).drop t.text.length).drop (Lx.blanks false ((c :: r).drop t.text.length))).length=(c :: r).length-t.text.length-Lx.blanks false ((c :: r).drop t.text.length):=by rw [List.length_drop,List.length_drop]
       have hbl:Lx.blanks false ((c :: r).drop t.text.length)<=(c :: r).length-t.text.length\/(c :: r).length-t.text.length<Lx.blanks false ((c :: r).drop t.text.length):=by omega
       have hble:Lx.blanks false ((c :: r).drop t.text.length)<=((c :: r).drop t.text.length).length:=Lx.blanks_le _ _
       rw [List.length_drop] at hble
       obtain ⟨⟨us',e,q1,q2⟩,q3⟩:=goTok_good f _ _ us hq (by rw [hdl];omega)
       simp only [Lx.Res.pre] at h
       cases h
       refine ⟨⟨t :: us',e,by rw [q1];rfl,fun x hx=>?_⟩,fun x hx=>?_⟩
       · rcases List.mem_cons.1 hx with rfl | hx
         · exact ⟨p1,fun e=>by rw [e] at h3;simp at h3;omega⟩
         · exact q2 x hx
       · rcases List.mem_cons.1 hx with rfl | hx
         · exact ⟨p2,by omega,p3,by omega⟩
         · exact q3 x hx
     | error p=>simp only [Lx.Res.pre] at h;cases h
theorem cut_good {l:List UInt8} {ts:List Tok} (h:Lx.cutAll l=.ok ts):(⟨ts,none⟩:Rd).good/\∀ t ∈ ts,fitT t:=by
 unfold Lx.cutAll at h
 split at h
 · cases h
 · have hb:=Lx.blanks_le false l
   exact goTok_good _ _ _ _ h (by rw [List.length_drop];omega)
theorem cut_toks (s:ByteArray) (ts:List Tok) (w:World) (hm:s.size<=maxLen) (hV:Lx.Vars w) (h:Hid (Lx.cutAll (bys s)=.ok ts)):
 Calls Tryz.prog 28 #[.string s] w fun e w'=>∃ g cap,e=.returned (.tuple #[.slice (some ⟨g,0,none⟩) ts.length cap,.nilIface])/\Hid (ToksAt w' g 0 ts)/\g<w'.heap.size/\Hid (ts.length<=cap/\cap<=9223372036854775807)/\Below w.heap.size w w':=by
 have hc:=Lx.cut_any s w hm hV
 have hh':Lx.cutAll (Lx.bys s)=.ok ts:=h.out
 rw [hh'] at hc
 refine hc.mono ?_
 rintro e w' ⟨⟨v,rfl,hown⟩,hb⟩
 have hown0:=hown
 obtain ⟨_,h2⟩:=hown
 rcases h2 with ⟨_,h0⟩ | ⟨g,cap,cur,rfl,hg,hh,hn,hcap,hsz,htake⟩
 · exact absurd (List.length_eq_zero_iff.1 h0) (Lx.cutAll_ne h.out)
 · refine ⟨g,cap,rfl,⟨⟨_,_,hh⟩,fun i t ht=>⟨(cut_good h.out).2 t (List.mem_of_getElem? ht),?_⟩⟩,heap_lt hh,⟨hn,by unfold maxLen at hcap;omega⟩,hb⟩
   have hi:i<ts.length:=by
    rcases Nat.lt_or_ge i ts.length with h' | h'
    · exact h'
    · rw [List.getElem?_eq_none h'] at ht;cases ht
   have key:∀ j,j<4->w'.cell? ⟨g,0+i*4+j,none⟩=t.cells[j]?:=fun j hj=>by
    rw [Nat.zero_add,hown0.cellAt (i*4+j) (by omega),Lx.rowOf_get ts i t ht j hj]
   exact ⟨key 0 (by omega),key 1 (by omega),key 2 (by omega),key 3 (by omega)⟩
theorem signs_all (w:World):Calls Tryz.prog 55 #[] w fun e w'=>e=.returned (.slice (some ⟨w.heap.size,0,none⟩) 10 10)/\w'=w.alloc (.cells signCells 9):=by
 go_enter Tryz.func55,Tryz.ntmps55
 go_wp2
 go_ret
 exact ⟨rfl,rfl⟩
theorem newReader_any (B:Nat) (ts:List Tok) (g cap:Nat) (w:World) (hT:Hid (ToksAt w g 0 ts)) (hc:Hid (ts.length<=cap/\cap<=9223372036854775807)) (hg:Hid ((⟨ts,none⟩:Rd).good/\ts.length<=65537)) (hB:B<=w.heap.size):
 Calls Tryz.prog 29 #[.slice (some ⟨g,0,none⟩) ts.length cap] w fun e w'=>e=.returned (.pointer (some ⟨w.heap.size+1,0,none⟩))/\RdAt B (w.heap.size+1) ⟨ts,none⟩ w'/\Below w.heap.size w w':=by
 have S:=signs_all w
 go_enter Tryz.func29,Tryz.ntmps29
 go_wp2_with (go_at_call 55;refine S.mono ?_;rintro e w1 ⟨rfl,rfl⟩)
 go_ret
 refine ⟨by simp,⟨by omega,hg.out.1,hg.out.2,g,0,cap,w.heap.size,.nilIface,?_,hc.out.1,hc.out.2,?_,?_,rfl⟩,((Below.refl _ _).alloc (Nat.le_refl _) _).alloc (by rw [alloc_size];omega) _⟩
 · rw [alloc_at,if_pos (by simp)]
 · obtain ⟨⟨cs,fr,hgg⟩,_⟩:=id hT.out
   exact hT.out.same ((alloc_keep (alloc_keep hgg _) _).trans hgg.symm)
 · rw [alloc_at,if_neg (by simp),alloc_at,if_pos rfl]
theorem Dcls.tsame {lo B lo' B':Nat} {w w':World} {v:Value} {ds:List Dcl} (h:Dcls lo B w v ds) (hs:TSame 39 w w') (h1:lo'<=lo) (h2:B<=B'):Dcls lo' B' w' v ds:=by
 obtain ⟨ao,cap,rfl,hl,h⟩:=h
 refine ⟨ao,cap,rfl,hl,fun i d hd=>?_⟩
 obtain ⟨hf,g,off,e,hlo,hg,⟨cs,fr,hc,hz⟩,c0,c1,c2,c3,c4,c5⟩:=h i d hd
 have hc':=hs _ _ _ hc
 have key:∀ o,w'.cell? ⟨g,o,none⟩=w.cell? ⟨g,o,none⟩:=fun o=>World.cell?_of_block (hc'.trans hc.symm)
 exact ⟨hf,g,off,e,by omega,by omega,⟨cs,fr,hc',hz⟩,(key _).trans c0,(key _).trans c1,(key _).trans c2,(key _).trans c3,(key _).trans c4,(key _).trans c5⟩
theorem Thrs.tsame {lo B lo' B' m n:Nat} {w w':World} {v:Value} {ts:List (List Stm)} (h:Thrs lo B m n w v ts) (hs:TSame 40 w w') (hs1:TSame 45 w w') (hs2:TSame 50 w w') (h1:lo'<=lo) (h2:B<=B'):Thrs lo' B' m n w' v ts:=by
 obtain ⟨ao,cap,rfl,hl,h⟩:=h
 refine ⟨ao,cap,rfl,hl,fun i ss hi=>?_⟩
 obtain ⟨g,off,tao,tcap,e,hlo,hg,⟨cs,fr,hc,hz⟩,c0,hS⟩:=h i ss hi
 have hc':=hs _ _ _ hc
 have key:∀ o,w'.cell? ⟨g,o,none⟩=w.cell? ⟨g,o,none⟩:=fun o=>World.cell?_of_block (hc'.trans hc.symm)
 exact ⟨g,off,tao,tcap,e,by omega,by omega,⟨cs,fr,hc',hz⟩,(key _).trans c0,hS.carry h1 h2 (hs1.s45 _ _) fun _ _ hr=>hr.carry h1 h2 (hs2.s35 _ _) (hs1.s45 _ _)⟩
theorem parse_ok {l:List UInt8} {p:Prg} (h:parseP l=.ok p):∃ ts,Lx.cutAll l=.ok ts/\(threadsP (declsP ⟨ts,none⟩).2).2.err=none/\p=⟨(declsP ⟨ts,none⟩).1,(threadsP (declsP ⟨ts,none⟩).2).1⟩:=by
 unfold parseP at h
 split at h
 · cases h
 · rename_i ts hts
   refine ⟨ts,hts,?_⟩
   unfold progP at h
   simp only at h
   split at h
   · cases h
   · rename_i he
     cases h
     exact ⟨he,rfl⟩
theorem parse_err {l:List UInt8} {e:Nat × Nat} (h:parseP l=.error e):Lx.cutAll l=.error e \/ ∃ ts,Lx.cutAll l=.ok ts/\(threadsP (declsP ⟨ts,none⟩).2).2.err=some e:=by
 unfold parseP at h
 split at h
 · rename_i e' he
   cases h
   exact .inl he
 · rename_i ts hts
   refine .inr ⟨ts,hts,?_⟩
   unfold progP at h
   simp only at h
   split at h
   · rename_i e' he
     cases h
     exact he
   · cases h
@[reducible] def zeroP:Obj:=.cells #[.slice none 0 0,.slice none 0 0] 26
theorem below_of {w w':World} {br:Nat} (h:w.grownBy w' (some br)) (hb:w.heap.size<=br):Below w.heap.size w w':=
  { os:=h.os,tape:=h.tape,output:=h.output,size:=h.size,block:=fun k hk=>h.block k hk (fun e=>by simp at e;omega) }
theorem two_cells {w:World} {k:Nat} {t:TypeId} {x0 x1:Value} (h:w.heap[k]?=some (.cells #[x0,x1] t (0,0))):w.cell? ⟨k,0,none⟩=some x0/\w.cell? ⟨k,1,none⟩=some x1/\w.frozen? ⟨k,0,none⟩=false/\w.frozen? ⟨k,1,none⟩=false:=by
  refine ⟨?_,?_,Lib.frozen_of_heap h 0,Lib.frozen_of_heap h 1⟩ <;> (rw [Lib.cell_of_heap h];rfl)
theorem thrs_slice {lo B m n:Nat} {w:World} {v:Value} {ts:List (List Stm)} (h:Thrs lo B m n w v ts):∃ ao cap,v=.slice ao ts.length cap:=by obtain ⟨ao,cap,e,_⟩:=h;exact ⟨ao,cap,e⟩
theorem dcls_slice {lo B:Nat} {w:World} {v:Value} {ds:List Dcl} (h:Dcls lo B w v ds):∃ ao cap,v=.slice ao ds.length cap:=by obtain ⟨ao,cap,e,_⟩:=h;exact ⟨ao,cap,e⟩
theorem lx_alloc {w:World} (h:Lx.Vars w) (o:Obj):Lx.Vars (w.alloc o):=h.grown ((Below.refl w.heap.size w).alloc (Nat.le_refl _) o) h.lt
theorem program_ok (s:ByteArray) (p:Prg) (w:World) (hm:s.size<=maxLen) (hV:Lx.Vars w) (h:Hid (parseP (bys s)=.ok p)):
 Calls Tryz.prog 12 #[.string s] w fun e w'=>∃ dv tv,e=.returned (.tuple #[.agg #[dv,tv],.nilIface])/\Dcls w.heap.size w'.heap.size w' dv p.decls/\Thrs w.heap.size w'.heap.size bigM 41 w' tv p.threads/\Below w.heap.size w w':=by
  obtain ⟨ts,hts,he,hp⟩:=parse_ok h.out
  have C1:=cut_toks s ts (w.alloc zeroP) hm (lx_alloc hV _) hts
  have HG:Hid ((⟨ts,none⟩:Rd).good/\ts.length<=65537):=⟨(cut_good hts).1,(Lx.cutAll_len hts).1⟩
  obtain ⟨ds,r4,e4⟩:∃ a b,declsP ⟨ts,none⟩=(a,b):=⟨_,_,rfl⟩
  rw [e4] at he hp
  simp only at he hp
  obtain ⟨th,r5,e5⟩:∃ a b,threadsP r4=(a,b):=⟨_,_,rfl⟩
  rw [e5] at he hp
  simp only at he hp
  have D4:=fun B br w' h'=>decls_any B br ⟨ts,none⟩ w' h'
  have T5:=fun B br w' h'=>threads_any B br r4 w' h'
  rw [e4] at D4
  rw [e5] at T5
  simp only at D4 T5
  have HE:=Lib.hid he
  subst hp
  clear h hts he e4 e5 hV
  go_enter Tryz.func12,Tryz.ntmps12
  go_wp2_with (first
   | (go_at_call 31;refine (T5 _ _ _ h4.out).mono ?_;rintro e w5 ⟨tv,rfl,T',h5',g5'⟩;obtain ⟨tao,tcap,rfl⟩:=thrs_slice T';have T6:=Lib.hid T';have h5:=Lib.hid h5';have g5:=Lib.hid (grownBy_trans g4.out g5');have dd5:=Lib.hid (Dcls.tsame dd.out (h4.out.tsame g5' (by decide)) (Nat.le_refl _) (Nat.le_refl _));have s5:=Lib.hid g5'.size;obtain ⟨ev,hev,hee⟩:=h5'.err;rw [HE.out] at hee;obtain rfl:ev=.nilIface:=hee;have hlt5:=h5'.lt;have z5:w5.heap[w.heap.size]?=some zeroP:=((g5.out.block w.heap.size (by rw [alloc_size];omega) (by have:=hb2.out.size;rw [alloc_size] at this;simp;omega)).trans (by rw [alloc_at,if_pos rfl]));have hz5:=heap_lt z5;obtain ⟨x0,x1,f0,f1⟩:=two_cells z5;clear T' h5' g5')
   | (go_at_call 30;refine (D4 _ _ _ h3.out).mono ?_;rintro e w4 ⟨dv,rfl,D',h4',g4'⟩;obtain ⟨dao,dcap,rfl⟩:=dcls_slice D';have dd:=Lib.hid D';have h4:=Lib.hid h4';have g4:=Lib.hid (grownBy_trans g3.out g4');have s4:=Lib.hid g4'.size;clear D' h4' g4')
   | (go_at_call 29;refine (newReader_any w.heap.size ts g cap w2 hT2 hc2 HG (by have:=hb2.out.size;rw [alloc_size] at this;omega)).mono ?_;rintro e w3 ⟨rfl,h3',hb3⟩;have h3:=Lib.hid h3';have s3:=Lib.hid hb3.size;have g3:=Lib.hid (grownBy_trans (below_grown hb2.out (some (w2.heap.size+1))) (below_grown hb3 (some (w2.heap.size+1))));clear h3' hb3)
   | (go_at_call 28;refine C1.mono ?_;rintro e w2 ⟨g,cap,rfl,hT2,hgl,hc2,hb2'⟩;have hb2:=Lib.hid hb2';clear hb2'))
  have z6:=set_heap (set_heap z5 0 (.slice dao ds.length dcap)) 1 (.slice tao th.length tcap)
  obtain ⟨q0,q1,_,_⟩:=two_cells (x0:=.slice dao ds.length dcap) (x1:=.slice tao th.length tcap) z6
  have t1:=fun (t:TypeId) (ht:t≠26)=>(TSame.of_set z5 ht 0 (.slice dao ds.length dcap)).trans (TSame.of_set (set_heap z5 0 (.slice dao ds.length dcap)) ht 1 (.slice tao th.length tcap))
  have hw2:=hb2.out.size
  rw [alloc_size] at hw2
  have s45:=s4.out
  have s55:=s5.out
  have s33:=s3.out
  refine bodyPost_ret (v:=.tuple #[.agg #[.slice dao ds.length dcap,.slice tao th.length tcap],.nilIface]) (by simp [results,Tryz.results12,go_sem,q0,q1]) rfl ⟨_,_,rfl,Dcls.tsame dd5.out (t1 _ (by decide)) (by omega) ?_,Thrs.tsame T6.out (t1 _ (by decide)) (t1 _ (by decide)) (t1 _ (by decide)) (by omega) ?_,below_of (br:=w2.heap.size+1) (grown_set (grown_set (grownBy_trans (World.grownBy_alloc w _ _) g5.out) (Nat.le_refl _) _ _) (Nat.le_refl _) _ _) (by omega)⟩
  · simp [World.setCell];omega
  · simp [World.setCell]
def Told (w w':World) (e:Ending) (n a:Nat):Prop:=∃ fb,e=.returned (.tuple #[.agg #[.slice none 0 0,.slice none 0 0],.iface 124 (.pointer (some ⟨fb,0,none⟩))])/\w'.heap[fb]?=some (.cells #[.int .i64 (a:Int),.iface 65 (.int .i64 (n:Int))] 127 (0,0))/\Below w.heap.size w w'
theorem program_lex (s:ByteArray) (n a:Nat) (w:World) (hm:s.size<=maxLen) (hV:Lx.Vars w) (h:Hid (Lx.cutAll (bys s)=.err n a)):
    Calls Tryz.prog 12 #[.string s] w fun e w'=>Told w w' e n a:=by
  have C1:=Lx.cut_err s n a (w.alloc zeroP) hm (lx_alloc hV _) h
  clear h hV
  go_enter Tryz.func12,Tryz.ntmps12
  go_wp2_with (go_at_call 28;refine C1.mono ?_;rintro e w2 ⟨fb,rfl,hfb,hf2,hb2'⟩;have hb2:=Lib.hid hb2';have z5:w2.heap[w.heap.size]?=some zeroP:=((hb2'.block w.heap.size (by rw [alloc_size];omega)).trans (by rw [alloc_at,if_pos rfl]));have hz5:=heap_lt z5;obtain ⟨x0,x1,f0,f1⟩:=two_cells z5;have HF2:=Lib.hid hf2;have HFB:=Lib.hid hfb;clear hb2' hf2 hfb)
  have z6:=set_heap (set_heap z5 0 (.slice none 0 0)) 1 (.slice none 0 0)
  obtain ⟨q0,q1,_,_⟩:=two_cells (x0:=.slice none 0 0) (x1:=.slice none 0 0) z6
  have hfb:=HFB.out
  rw [alloc_size] at hfb
  refine bodyPost_ret (v:=.tuple #[.agg #[.slice none 0 0,.slice none 0 0],.iface 124 (.pointer (some ⟨fb,0,none⟩))]) (by simp [results,Tryz.results12,go_sem,q0,q1]) rfl ⟨fb,rfl,?_,below_of (br:=w.heap.size) (grown_set (grown_set (grownBy_trans (World.grownBy_alloc w _ _) (below_grown hb2.out _)) (Nat.le_refl _) _ _) (Nat.le_refl _) _ _) (Nat.le_refl _)⟩
  rw [Below.heap_setCell _ _ _ _ (show fb≠w.heap.size by omega),Below.heap_setCell _ _ _ _ (show fb≠w.heap.size by omega)]
  exact HF2.out
theorem program_fault (s:ByteArray) (ts:List Tok) (n a:Nat) (w:World) (hm:s.size<=maxLen) (hV:Lx.Vars w) (hts:Hid (Lx.cutAll (bys s)=.ok ts)) (he:Hid ((threadsP (declsP ⟨ts,none⟩).2).2.err=some (n,a))):
    Calls Tryz.prog 12 #[.string s] w fun e w'=>Told w w' e n a:=by
  have C1:=cut_toks s ts (w.alloc zeroP) hm (lx_alloc hV _) hts
  have HG:Hid ((⟨ts,none⟩:Rd).good/\ts.length<=65537):=⟨(cut_good hts.out).1,(Lx.cutAll_len hts.out).1⟩
  obtain ⟨ds,r4,e4⟩:∃ a b,declsP ⟨ts,none⟩=(a,b):=⟨_,_,rfl⟩
  rw [e4] at he
  simp only at he
  obtain ⟨th,r5,e5⟩:∃ a b,threadsP r4=(a,b):=⟨_,_,rfl⟩
  rw [e5] at he
  simp only at he
  have D4:=fun B br w' h'=>decls_any B br ⟨ts,none⟩ w' h'
  have T5:=fun B br w' h'=>threads_any B br r4 w' h'
  rw [e4] at D4
  rw [e5] at T5
  simp only at D4 T5
  clear hts e4 e5 hV
  go_enter Tryz.func12,Tryz.ntmps12
  go_wp2_with (first
    | (go_at_call 31;refine (T5 _ _ _ h4.out).mono ?_;rintro e w5 ⟨tv,rfl,T',h5',g5'⟩;obtain ⟨tao,tcap,rfl⟩:=thrs_slice T';have g5:=Lib.hid (grownBy_trans g4.out g5');obtain ⟨ev,hev,hee⟩:=h5'.err;rw [he.out] at hee;obtain ⟨fb,rfl,hfb⟩:=hee;have HFB:=Lib.hid hfb;have hlt5:=h5'.lt;have z5:w5.heap[w.heap.size]?=some zeroP:=((g5.out.block w.heap.size (by rw [alloc_size];omega) (by have:=hb2.out.size;rw [alloc_size] at this;simp;omega)).trans (by rw [alloc_at,if_pos rfl]));have hz5:=heap_lt z5;obtain ⟨x0,x1,f0,f1⟩:=two_cells z5;have Z5:=Lib.hid z5;clear T' h5' g5' hfb z5)
    | (go_at_call 30;refine (D4 _ _ _ h3.out).mono ?_;rintro e w4 ⟨dv,rfl,D',h4',g4'⟩;obtain ⟨dao,dcap,rfl⟩:=dcls_slice D';have h4:=Lib.hid h4';have g4:=Lib.hid (grownBy_trans g3.out g4');clear D' h4' g4')
    | (go_at_call 29;refine (newReader_any w.heap.size ts g cap w2 hT2 hc2 HG (by have:=hb2.out.size;rw [alloc_size] at this;omega)).mono ?_;rintro e w3 ⟨rfl,h3',hb3⟩;have h3:=Lib.hid h3';have g3:=Lib.hid (grownBy_trans (below_grown hb2.out (some (w2.heap.size+1))) (below_grown hb3 (some (w2.heap.size+1))));clear h3' hb3)
    | (go_at_call 28;refine C1.mono ?_;rintro e w2 ⟨g,cap,rfl,hT2,hgl,hc2,hb2'⟩;have hb2:=Lib.hid hb2';clear hb2'))
  have hbr:w5.cell? ⟨w2.heap.size+1,2,none⟩=some (.iface 124 (.pointer (some ⟨fb,0,none⟩))):=hev
  have hne:¬ w2.heap.size+1=w.heap.size:=by have:=hb2.out.size;rw [alloc_size] at this;omega
  have hne2:¬ w.heap.size=w2.heap.size+1:=by omega
  go_region
  all_goals go_wp2
  all_goals
    have hw2:=hb2.out.size
    rw [alloc_size] at hw2
    have hff:=HFB.out
    have z5:=Z5.out
    have z6:=set_heap (set_heap z5 0 (.slice none 0 0)) 1 (.slice none 0 0)
    obtain ⟨q0,q1,_,_⟩:=two_cells (x0:=.slice none 0 0) (x1:=.slice none 0 0) z6
    have hfn:fb≠w.heap.size:=fun e=>by subst e;rw [z5] at hff;cases hff
    refine bodyPost_ret (v:=.tuple #[.agg #[.slice none 0 0,.slice none 0 0],.iface 124 (.pointer (some ⟨fb,0,none⟩))]) (by simp [results,Tryz.results12,go_sem,q0,q1]) rfl ⟨fb,rfl,?_,below_of (br:=w2.heap.size+1) (grown_drew (grown_set (grown_set (grownBy_trans (World.grownBy_alloc w _ _) g5.out) (Nat.le_refl _) _ _) (Nat.le_refl _) _ _)) (by omega)⟩
    show (World.setCell _ _ _).heap[fb]?=_
    rw [Below.heap_setCell _ _ _ _ (show fb≠w.heap.size from hfn),Below.heap_setCell _ _ _ _ (show fb≠w.heap.size from hfn)]
    exact hff
theorem program_err (s:ByteArray) (n a:Nat) (w:World) (hm:s.size<=maxLen) (hV:Lx.Vars w) (h:Hid (parseP (bys s)=.error (n,a))):
    Calls Tryz.prog 12 #[.string s] w fun e w'=>Told w w' e n a:=by
  rcases parse_err h.out with h' | ⟨ts,hts,he⟩
  · exact program_lex s n a w hm hV h'
  · exact program_fault s ts n a w hm hV hts he
end Go.Proofs.YtlepckjmdjjolaaGreatDoor.Pr
