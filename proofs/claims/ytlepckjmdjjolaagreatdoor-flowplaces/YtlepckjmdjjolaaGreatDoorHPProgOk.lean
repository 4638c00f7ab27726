/- A text that is read is a program whose text is read back, and is not much longer. Plain. -/
import Derived.Test.YtlepckjmdjjolaaGreatDoorHPStmOk
import Derived.Test.YtlepckjmdjjolaaGreatDoorGPProgA
namespace Go.Proofs.YtlepckjmdjjolaaGreatDoor.Pr
open Go.Lib (decDigits itoa)
open Lx (Tok)
set_option linter.unusedVariables false
set_option linter.unusedSimpArgs false
def sizeL (d:Dcl):Nat:=(if 0<d.size then [91]++itoa d.size++[93] else []).length
def byL (d:Dcl):Nat:=(if d.by_.size=0 then [] else sBy++bys d.by_).length
theorem itoa_len {n:Int} (h0:0<=n) (h1:n<=1000):(itoa n).length<=20:=by
 rw [itoa,if_neg (by omega),Go.Lib.decDigits_length];exact Go.Lib.nDigits_le20 _ (by omega)
theorem sizeL_le {d:Dcl} (h0:0<=d.size) (h1:d.size<=64):sizeL d<=22:=by
 unfold sizeL
 have:=itoa_len h0 (by omega)
 split
 · simp only [List.length_append,List.length_cons,List.length_nil];omega
 · simp
theorem byL_le (d:Dcl):byL d<=4+d.by_.size:=by
 unfold byL
 split
 · simp
 · simp [sBy,bys_length];omega
theorem by_ok {d1:Dcl} {r2:Rd} (hg:r2.err=none->GG r2) (hby:d1.by_=⟨#[]⟩) (X:Dcl × Rd) (hX:X=if r2.is kBy then ({ d1 with by_:=bstr r2.next.name.1 },r2.next.name.2) else (d1,r2)) (he:X.2.err=none):
    r2.err=none/\∃ b,Eats r2 X.2 0 b/\X.1.lock=d1.lock/\X.1.label=d1.label/\X.1.name=d1.name/\X.1.size=d1.size/\(X.1.by_=⟨#[]⟩\/isName X.1.by_)/\byL X.1<=20*b:=by
 by_cases h:r2.is kBy=true
 · rw [if_pos h] at hX
   subst hX
   have e1:=err_back (to_name r2.next) he
   have e0:r2.err=none:=e1
   have g:=hg e0
   have ht:=is_text h
   have E1:=eats_next g (text_kind g (by rw [ht];decide))
   rw [ht] at E1
   obtain ⟨hn,E2,_,hp⟩:=eats_name (g.on (sf_next _) (to_next _)) he
   refine ⟨e0,2+r2.next.name.1.length,(E1.trans E2).less (by omega) (by simp [kBy]),rfl,rfl,rfl,rfl,.inr hn,?_⟩
   have:=byL_le { d1 with by_:=bstr r2.next.name.1 }
   have hs:(bstr r2.next.name.1).size=r2.next.name.1.length:=bstr_size _
   simp only [hs] at this
   show byL { d1 with by_:=bstr r2.next.name.1 } <= _
   omega
 · rw [if_neg h] at hX
   subst hX
   refine ⟨he,0,Eats.refl _,rfl,rfl,rfl,rfl,.inl hby,?_⟩
   unfold byL
   simp only
   rw [hby];exact Nat.le_refl 0
theorem cells_ok {d0:Dcl} {r:Rd} (hg:GG r) (hby:d0.by_=⟨#[]⟩) (he:(cellsP d0 r).2.err=none):
    ∃ (b:Nat) (k:Nat),Eats r (cellsP d0 r).2 1 b/\(cellsP d0 r).1.lock=d0.lock/\(cellsP d0 r).1.label=d0.label/\isName (cellsP d0 r).1.name/\((cellsP d0 r).1.size=(k:Int)/\k<=64)/\((cellsP d0 r).1.by_=⟨#[]⟩\/isName (cellsP d0 r).1.by_)/\(bys (cellsP d0 r).1.name).length+sizeL (cellsP d0 r).1+byL (cellsP d0 r).1<=20*b:=by
 generalize hX:cellsP d0 r=X at he ⊢
 unfold cellsP at hX
 dsimp only at hX
 by_cases h:r.name.2.is [91]=true
 · rw [if_pos h] at hX
   dsimp only at hX
   have ht:=is_text h
   have hgz:((r.name.2.next.number 64).2.want [93]).err=none->GG r.name.2/\isName (bstr r.name.1)/\Eats r r.name.2 1 r.name.1.length/\(1<=(r.name.2.next.number 64).1/\(r.name.2.next.number 64).1<=64)/\Eats r.name.2 ((r.name.2.next.number 64).2.want [93]) 3 3/\GG ((r.name.2.next.number 64).2.want [93]):=fun e3=>by
    have e2:=err_back (to_want [93] _) e3
    have e1:=err_back (to_number 64 _) e2
    have e0:r.name.2.err=none:=e1
    obtain ⟨hn,E0,g0,_⟩:=eats_name hg e0
    have E1:=eats_next g0 (text_kind g0 (by rw [ht];simp))
    rw [ht] at E1
    have g1:=g0.on (sf_next _) (to_next _)
    obtain ⟨hc,E2,g2⟩:=eats_number g1 e2
    have E3:=eats_want g2 (by simp) e3
    exact ⟨g0,hn,E0,hc,(E1.trans (E2.trans E3)).less (by omega) (by simp),g2.on (sf_want _ _) (to_want _ _)⟩
   obtain ⟨e3,b,E4,x1,x2,x3,x4,x5,x6⟩:=by_ok (d1 := { d0 with name:=bstr r.name.1,size:=((r.name.2.next.number 64).1:Int) }) (r2:=(r.name.2.next.number 64).2.want [93]) (fun e=>(hgz e).2.2.2.2.2) hby X hX.symm he
   obtain ⟨g0,hn,E0,hc,E3,g3⟩:=hgz e3
   refine ⟨r.name.1.length+3+b,(r.name.2.next.number 64).1,(E0.trans (E3.trans E4)).less (by omega) (by omega),x1,x2,by rw [x3];exact hn,⟨by rw [x4],hc.2⟩,x5,?_⟩
   have hs:=sizeL_le (d:=X.1) (by rw [x4];simp) (by rw [x4];simp;omega)
   rw [x3]
   show (bys (bstr r.name.1)).length+_+_<=_
   rw [bysL]
   omega
 · rw [if_neg h] at hX
   dsimp only at hX
   have hgz:r.name.2.err=none->isName (bstr r.name.1)/\Eats r r.name.2 1 r.name.1.length/\GG r.name.2:=fun e0=>by
    obtain ⟨hn,E0,g0,_⟩:=eats_name hg e0
    exact ⟨hn,E0,g0⟩
   obtain ⟨e3,b,E4,x1,x2,x3,x4,x5,x6⟩:=by_ok (d1 := { d0 with name:=bstr r.name.1,size:=0 }) (r2:=r.name.2) (fun e=>(hgz e).2.2) hby X hX.symm he
   obtain ⟨hn,E0,g0⟩:=hgz e3
   refine ⟨r.name.1.length+b,0,(E0.trans E4).less (by omega) (by omega),x1,x2,by rw [x3];exact hn,⟨by rw [x4];rfl,by omega⟩,x5,?_⟩
   have hs:sizeL X.1=0:=by unfold sizeL;rw [x4];rfl
   rw [x3,hs]
   show (bys (bstr r.name.1)).length+_+_<=_
   rw [bysL]
   omega
def OkD (d:Dcl) (r r':Rd):Prop:=∃ b,gD d/\Eats r r' 1 b/\(dtext d).length<=20*b
theorem dtext_len {d:Dcl} (h:d.lock=false):(dtext d).length<=9+((bys d.name).length+sizeL d+byL d):=by
 unfold dtext sizeL byL
 rw [if_neg (by rw [h];decide)]
 have:(if d.label=0 then sPublic else sSecret).length<=7:=by split <;> simp [sPublic,sSecret]
 simp only [List.length_append,List.length_cons,List.length_nil]
 omega
theorem declP_ok {r:Rd} (hg:GG r) (he:(declP r).2.err=none):OkD (declP r).1 r (declP r).2:=by
 unfold declP at he ⊢
 by_cases h1:r.is kLock=true
 · simp only [h1,if_true] at he ⊢
   have ht:=is_text h1
   have E1:=eats_next hg (text_kind hg (by rw [ht];decide))
   rw [ht] at E1
   have e1:=err_back (to_want [59] _) he
   have g1:=hg.on (sf_next _) (to_next _)
   obtain ⟨hn,E2,g2,_⟩:=eats_name g1 e1
   have E3:=eats_want g2 (by simp) he
   refine ⟨r.next.name.1.length+5,⟨hn,.inl ⟨rfl,rfl,rfl,rfl⟩⟩,(E1.trans (E2.trans E3)).less (by omega) (by simp [kLock];omega),?_⟩
   unfold dtext
   rw [if_pos rfl]
   simp only [lineT,List.length_append,tabsL,bysL,List.length_cons,List.length_nil,sLock]
   omega
 · simp only [h1,if_false,Bool.false_eq_true] at he ⊢
   by_cases h2:r.is kPublic=true
   · simp only [h2,if_true] at he ⊢
     have ht:=is_text h2
     have E1:=eats_next hg (text_kind hg (by rw [ht];decide))
     rw [ht] at E1
     have g1:=hg.on (sf_next _) (to_next _)
     have e1:=err_back (to_want [59] _) he
     obtain ⟨b,k,E2,x1,x2,x3,x4,x5,x6⟩:=cells_ok (d0:=⟨false,0,⟨#[]⟩,0,⟨#[]⟩,r.here.at_⟩) g1 rfl e1
     have E3:=eats_want (g1.on (sf_cells _ _) (to_cells _ _)) (by simp) he
     refine ⟨b+7,⟨x3,.inr ⟨x1,.inl x2,⟨k,x4.1,x4.2⟩,x5⟩⟩,(E1.trans (E2.trans E3)).less (by omega) (by simp [kPublic];omega),?_⟩
     have:=dtext_len x1
     omega
   · simp only [h2,if_false,Bool.false_eq_true] at he ⊢
     by_cases h3:r.is kSecret=true
     · simp only [h3,if_true] at he ⊢
       have ht:=is_text h3
       have E1:=eats_next hg (text_kind hg (by rw [ht];decide))
       rw [ht] at E1
       have g1:=hg.on (sf_next _) (to_next _)
       have e1:=err_back (to_want [59] _) he
       obtain ⟨b,k,E2,x1,x2,x3,x4,x5,x6⟩:=cells_ok (d0:=⟨false,1,⟨#[]⟩,0,⟨#[]⟩,r.here.at_⟩) g1 rfl e1
       have E3:=eats_want (g1.on (sf_cells _ _) (to_cells _ _)) (by simp) he
       refine ⟨b+7,⟨x3,.inr ⟨x1,.inr x2,⟨k,x4.1,x4.2⟩,x5⟩⟩,(E1.trans (E2.trans E3)).less (by omega) (by simp [kSecret];omega),?_⟩
       have:=dtext_len x1
       omega
     · simp only [h3,if_false,Bool.false_eq_true] at he ⊢
       exact (fail_no (err_back (to_want [59] _) he)).elim
theorem declLoop_ok:∀ (k:Nat) (ds:List Dcl) (r:Rd),GG r->ds.length<=64->64<ds.length+k->(declLoop k ds r).2.err=none ->
    ∃ ds',(declLoop k ds r).1=ds++ds'/\(declLoop k ds r).1.length<=64/\(declLoop k ds r).2.is kThread=true/\(∀ d ∈ ds',gD d)/\∃ b,Eats r (declLoop k ds r).2 0 b/\((ds'.map dtext).flatten).length<=20*b
 | 0,ds,r,_,h1,h2,_=>by omega
 | k+1,ds,r,hg,h1,h2,he=>by
   rw [declLoop] at he ⊢
   by_cases hs:r.err.isSome=true
   · rw [if_pos hs] at he
     rw [he] at hs;cases hs
   rw [if_neg hs] at he ⊢
   by_cases ht:r.is kThread=true
   · rw [if_pos ht] at he ⊢
     exact ⟨[],by simp,h1,ht,by simp,0,Eats.refl _,by simp⟩
   rw [if_neg ht] at he ⊢
   by_cases h64:ds.length=64
   · rw [if_pos h64] at he;exact (fail_no he).elim
   rw [if_neg h64] at he ⊢
   have e1:=err_back (decls_to k _ _) he
   obtain ⟨b1,gd,E1,t1⟩:=declP_ok hg e1
   obtain ⟨ds',x1,x2,x3,x4,b2,E2,t2⟩:=declLoop_ok k (ds++[(declP r).1]) (declP r).2 (hg.on (sf_decl _) (to_decl _)) (by simp;omega) (by simp;omega) he
   refine ⟨(declP r).1 :: ds',by rw [x1,List.append_assoc];rfl,x2,x3,fun d hd=>?_,b1+b2,(E1.trans E2).less (by omega) (Nat.le_refl _),?_⟩
   · rcases List.mem_cons.1 hd with rfl | hd
     · exact gd
     · exact x4 d hd
   · simp only [List.map_cons,List.flatten_cons,List.length_append];omega
theorem thr_ok {M:Nat} (hM:65537<=M):∀ (k:Nat) (ts:List (List Stm)) (r:Rd),GG r->r.ts.length<=65537->ts.length<=16->16<ts.length+k->(thrLoop k ts r).2.err=none ->
    ∃ ts',(thrLoop k ts r).1=ts++ts'/\(thrLoop k ts r).1.length<=16/\(r.here.kind≠0->1<=ts'.length)/\(∀ ss ∈ ts',(∀ s ∈ ss,gS M 40 s)/\∀ s ∈ ss,fitS M 40 1 s)/\∃ b,Eats r (thrLoop k ts r).2 0 b/\∀ j,40<=j->((ts'.map fun ss=>ttext M j ss).flatten).length<=20*b
 | 0,ts,r,_,_,h1,h2,_=>by omega
 | k+1,ts,r,hg,hl,h1,h2,he=>by
   rw [thrLoop] at he ⊢
   by_cases hs:r.err.isSome=true
   · rw [if_pos hs] at he
     rw [he] at hs;cases hs
   rw [if_neg hs] at he ⊢
   by_cases h0:r.here.kind=0
   · rw [if_pos h0] at he ⊢
     exact ⟨[],by simp,h1,fun h=>absurd h0 h,by simp,0,Eats.refl _,by simp⟩
   rw [if_neg h0] at he ⊢
   by_cases h16:ts.length=16
   · rw [if_pos h16] at he;exact (fail_no he).elim
   rw [if_neg h16] at he ⊢
   dsimp only at he ⊢
   have e2:=err_back (thr_to k _ _) he
   have e1:=err_back (to_block (to_st 40) 1 _) e2
   have E1:=eats_want hg (by decide) e1
   have g1:=hg.on (sf_want kThread _) (to_want kThread _)
   have l1:=E1.1
   obtain ⟨b1,gs,fs,E2,t2⟩:=block_ok (to_st 40) (sf_st 40) (stP_ok hM 40) 1 (r.want kThread) g1 (by omega) e2
   have g2:=g1.on (sf_block (sf_st 40) 1 (r.want kThread)) (to_block (to_st 40) 1 (r.want kThread))
   have l2:=E2.1
   obtain ⟨ts',x1,x2,_,x4,b2,E3,t3⟩:=thr_ok hM k (ts++[(blockOf (stP 40) 1 (r.want kThread)).1]) _ g2 (by omega) (by simp;omega) (by simp;omega) he
   refine ⟨(blockOf (stP 40) 1 (r.want kThread)).1 :: ts',by rw [x1,List.append_assoc];rfl,x2,fun _=>by simp,fun ss hss=>?_,8+b1+b2,(E1.trans (E2.trans E3)).less (by omega) (by simp [kThread];omega),fun j hj=>?_⟩
   · rcases List.mem_cons.1 hss with rfl | hss
     · exact ⟨gs,fs⟩
     · exact x4 ss hss
   · have a1:=t2 j hj
     have a2:=t3 j hj
     simp only [List.map_cons,List.flatten_cons,List.length_append]
     have:(ttext M j (blockOf (stP 40) 1 (r.want kThread)).1).length=11+(btext M j 1 (blockOf (stP 40) 1 (r.want kThread)).1).length:=by
      simp only [ttext,lineT,List.length_append,tabsL,sThread,List.length_cons,List.length_nil];omega
     omega
theorem fit_lift {m:Nat} : ∀ {n d:Nat} {s:Stm},fitS m n d s->fitS m (n+1) d s
 | 0,_,_,h=>h.elim
 | n+1,_,_,⟨a,b,c,e⟩=>⟨a,b,fun x hx=>fit_lift (c x hx),fun x hx=>fit_lift (e x hx)⟩
theorem read_ok {M:Nat} (hM:65537<=M) {l:List UInt8} {p:Prg} (h:parseP l=.ok p):gP M 41 p/\(ptext M 41 p).length<=20*l.length:=by
 unfold parseP at h
 split at h
 · cases h
 · rename_i ts hts
   unfold progP at h
   simp only at h
   split at h
   · cases h
   · rename_i he
     cases h
     have hok:=cut_toks_ok hts
     have hgood:=cut_good hts
     have hg:GG ⟨ts,none⟩:=⟨hgood.1,fun t ht=>(hok.1 t ht).1⟩
     have hlen:=(Lx.cutAll_len hts).1
     have e1:=err_back (thr_to 17 [] (declsP ⟨ts,none⟩).2) he
     obtain ⟨ds',x1,x2,x3,x4,b1,E1,t1⟩:=declLoop_ok 65 [] ⟨ts,none⟩ hg (by simp) (by simp) e1
     have g1:GG (declsP ⟨ts,none⟩).2:=hg.on (decls_suf 65 [] _) (decls_to 65 [] _)
     have l1:=E1.1
     obtain ⟨ts',y1,y2,y3,y4,b2,E2,t2⟩:=thr_ok hM 17 [] (declsP ⟨ts,none⟩).2 g1 (by have:(declsP ⟨ts,none⟩).2=(declLoop 65 [] ⟨ts,none⟩).2:=rfl;rw [this];simp only at l1;omega) (by simp) (by simp) he
     have a1:(declsP ⟨ts,none⟩).1=ds':=x1
     have a2:(threadsP (declsP ⟨ts,none⟩).2).1=ts':=y1
     have k1:(declsP ⟨ts,none⟩).2.here.kind≠0:=text_kind g1 (by rw [is_text (show (declsP ⟨ts,none⟩).2.is kThread=true from x3)];decide)
     refine ⟨⟨?_,?_,?_,?_,?_,?_⟩,?_⟩
     · show ∀ d ∈ (declsP ⟨ts,none⟩).1,gD d
       rw [a1];exact x4
     · show (declsP ⟨ts,none⟩).1.length<=64
       exact x2
     · show ∀ ss ∈ (threadsP (declsP ⟨ts,none⟩).2).1,∀ s ∈ ss,gS M 41 s
       rw [a2];exact fun ss hss s hs=>((y4 ss hss).1 s hs).lift
     · show ∀ ss ∈ (threadsP (declsP ⟨ts,none⟩).2).1,∀ s ∈ ss,fitS M 41 1 s
       rw [a2];exact fun ss hss s hs=>fit_lift ((y4 ss hss).2 s hs)
     · show 1<=(threadsP (declsP ⟨ts,none⟩).2).1.length
       rw [a2];exact y3 k1
     · show (threadsP (declsP ⟨ts,none⟩).2).1.length<=16
       exact y2
     · show (((declsP ⟨ts,none⟩).1.map dtext).flatten++((threadsP (declsP ⟨ts,none⟩).2).1.map fun ss=>ttext M 41 ss).flatten).length<=_
       rw [a1,a2,List.length_append]
       have c1:=t2 41 (by omega)
       have c2:=E1.2
       have c3:b2+Bt (threadsP (declsP ⟨ts,none⟩).2).2.ts<=Bt (declsP ⟨ts,none⟩).2.ts:=E2.2
       have c4:b1+Bt (declsP ⟨ts,none⟩).2.ts<=Bt ts:=c2
       have c5:=hok.2
       omega
theorem epart_eq {m:Nat} {a b:List Tree} {R:Tree->Tree->Prop} (hl:eqL R a b) (h:∀ x y p,R x y->etext m x p=etext m y p) (i p:Nat):epart m a i p=epart m b i p:=by
 unfold epart
 cases ha:a[i]? with
 | none=>
   have:b[i]?=none:=by
    rw [List.getElem?_eq_none_iff] at ha ⊢
    rw [<- hl.1];exact ha
   rw [this]
 | some x=>
   have hi:i<b.length:=by rw [<- hl.1];exact (List.getElem?_eq_some_iff.1 ha).1
   have hb:=List.getElem?_eq_getElem hi
   rw [hb]
   exact h _ _ _ (hl.2 i x b[i] ha hb)
theorem etext_eq:∀ (m:Nat) (s t:Tree) (p:Nat),eqT m s t->etext m s p=etext m t p
 | 0,_,_,_,h=>h.elim
 | m+1,s,t,p,⟨h1,h2,h3,h4,h5,h6⟩=>by
   have hk:∀ i q,epart m s.kids i q=epart m t.kids i q:=fun i q=>epart_eq (R:=eqT m) ⟨h5,h6⟩ (fun x y p h=>etext_eq m x y p h) i q
   rcases kind_cases s.kind with k | k | k | k | k | k | ⟨k0,k1,k2,k3,k4,k5⟩
   · rw [etext_lit m s p k,etext_lit m t p (h1 ▸ k),h4]
   · rw [etext_name m s p k,etext_name m t p (h1 ▸ k),h3]
   · rw [etext_cell m s p k,etext_cell m t p (h1 ▸ k)];unfold cellText;rw [h3,hk]
   · rw [etext_bin m s p k,etext_bin m t p (h1 ▸ k)];unfold binTextAt binText;rw [h2,hk,hk]
   · rw [etext_not m s p k,etext_not m t p (h1 ▸ k),hk]
   · rw [etext_pick m s p k,etext_pick m t p (h1 ▸ k)];unfold pickText;rw [hk,hk,hk]
   · rw [etext_else m s p k0 k1 k2 k3 k4 k5,etext_else m t p (h1 ▸ k0) (h1 ▸ k1) (h1 ▸ k2) (h1 ▸ k3) (h1 ▸ k4) (h1 ▸ k5)]
theorem map_eq {α β : Type} {R : α -> α -> Prop} {f : α -> β} (h:∀ x y,R x y->f x=f y) {a b:List α} (hl:eqL R a b):a.map f=b.map f:=by
 apply List.ext_getElem?
 intro i
 rw [List.getElem?_map,List.getElem?_map]
 cases ha:a[i]? with
 | none=>
   have:b[i]?=none:=by
    rw [List.getElem?_eq_none_iff] at ha ⊢
    rw [<- hl.1];exact ha
   rw [this]
 | some x=>
   have hi:i<b.length:=by rw [<- hl.1];exact (List.getElem?_eq_some_iff.1 ha).1
   have hb:=List.getElem?_eq_getElem hi
   rw [hb]
   exact congrArg some (h _ _ (hl.2 i x b[i] ha hb))
theorem stext_eq (m:Nat):∀ (n d:Nat) (s t:Stm),eqS m n s t->stext m n d s=stext m n d t
 | 0,_,_,_,h=>h.elim
 | n+1,d,s,t,⟨h1,h2,h3,h4,h5,h6⟩=>by
   have he:∀ i q,epart m s.exprs i q=epart m t.exprs i q:=fun i q=>epart_eq (R:=eqT m) h4 (fun x y p h=>etext_eq m x y p h) i q
   have hb:∀ e,btext m n e s.body=btext m n e t.body:=fun e=>by unfold btext;rw [map_eq (f:=fun x=>stext m n e x) (fun x y h=>stext_eq m n e x y h) h5]
   have hl:∀ e,btext m n e s.els=btext m n e t.els:=fun e=>by unfold btext;rw [map_eq (f:=fun x=>stext m n e x) (fun x y h=>stext_eq m n e x y h) h6]
   have hv:∀ x,valueT m d x s.exprs=valueT m d x t.exprs:=fun x=>by unfold valueT;rw [he]
   by_cases k0:s.kind=0
   · rw [stext_0 m n d s k0,stext_0 m n d t (h1 ▸ k0),h2,hv]
   by_cases k1:s.kind=1
   · rw [stext_1 m n d s k1,stext_1 m n d t (h1 ▸ k1),h2,hv]
   by_cases k2:s.kind=2
   · rw [stext_2 m n d s k2,stext_2 m n d t (h1 ▸ k2)];unfold cellText;rw [h2,he,he]
   by_cases k3:s.kind=3
   · rw [stext_3 m n d s k3,stext_3 m n d t (h1 ▸ k3)];unfold choiceT;rw [he,hb,hl,h6.1]
   by_cases k4:s.kind=4
   · rw [stext_4 m n d s k4,stext_4 m n d t (h1 ▸ k4),h2,h3,hb]
   by_cases k5:s.kind=5
   · rw [stext_5 m n d s k5,stext_5 m n d t (h1 ▸ k5),h2]
   by_cases k6:s.kind=6
   · rw [stext_6 m n d s k6,stext_6 m n d t (h1 ▸ k6),h2]
   by_cases k7:s.kind=7
   · rw [stext_7 m n d s k7,stext_7 m n d t (h1 ▸ k7),h2,hv]
   by_cases k8:s.kind=8
   · rw [stext_8 m n d s k8,stext_8 m n d t (h1 ▸ k8)]
   · rw [stext_9 m n d s k0 k1 k2 k3 k4 k5 k6 k7 k8,stext_9 m n d t (h1 ▸ k0) (h1 ▸ k1) (h1 ▸ k2) (h1 ▸ k3) (h1 ▸ k4) (h1 ▸ k5) (h1 ▸ k6) (h1 ▸ k7) (h1 ▸ k8),hv]
theorem ptext_eq {m n:Nat} {p q:Prg} (h:eqP m n p q):ptext m n p=ptext m n q:=by
 unfold ptext
 rw [map_eq (f:=dtext) (fun x y ⟨h1,h2,h3,h4,h5⟩=>by unfold dtext;rw [h1,h2,h3,h4,h5]) h.1,map_eq (f:=fun ss=>ttext m n ss) (fun x y h=>by unfold ttext btext;rw [map_eq (f:=fun x=>stext m n 1 x) (fun x y h=>stext_eq m n 1 x y h) h]) h.2]
theorem again_plain {M:Nat} (hM:65537<=M) {l:List UInt8} (hl:l.length<=2000) {p:Prg} (h:parseP l=.ok p):∃ q,parseP (ptext M 41 p)=.ok q/\eqP M 41 q p/\ptext M 41 q=ptext M 41 p/\1<=p.threads.length/\(ptext M 41 p).length<=40000:=by
 obtain ⟨hg,hlen⟩:=read_ok hM h
 obtain ⟨q,hq,heq⟩:=text_back M 41 p hg (by omega)
 exact ⟨q,hq,heq,ptext_eq heq,hg.t1,by omega⟩
end Go.Proofs.YtlepckjmdjjolaaGreatDoor.Pr
