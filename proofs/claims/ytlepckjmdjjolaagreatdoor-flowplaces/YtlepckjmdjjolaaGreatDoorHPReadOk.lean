/- Expressions that are read have a text that is read back, and is not much longer. Plain. -/
import Derived.Test.YtlepckjmdjjolaaGreatDoorGPPlainB
import Derived.Test.YtlepckjmdjjolaaGreatDoorGMakeP
import Derived.Lib.ItoaLen
namespace Go.Proofs.YtlepckjmdjjolaaGreatDoor.Pr
open Go.Lib (decDigits)
open Lx (Tok)
set_option linter.unusedVariables false
set_option linter.unusedSimpArgs false
def OkE (deep K:Nat) (t:Tree) (r r':Rd):Prop:=
 ∃ n b,gT n t/\Eats r r' n b/\(∀ m p,n<=m->(etext m t p).length<=20*b)/\∀ m p,n<=m->p<=K->deep+dpE m t p<=40
theorem OkE.less {deep K K':Nat} {t:Tree} {r r':Rd} (h:OkE deep K t r r') (hK:K'<=K):OkE deep K' t r r':=by
 obtain ⟨n,b,a,c,d,e⟩:=h
 exact ⟨n,b,a,c,d,fun m p hm hp=>e m p hm (Nat.le_trans hp hK)⟩
def ExOK (ex:ExP):Prop:=∀ tight deep r,tight<=8->GG r->(ex tight deep r).2.err=none->OkE deep (tight+1) (ex tight deep r).1 r (ex tight deep r).2/\tightAt (ex tight deep r).2.ts<=tight
def UnOK (un:Nat->Rd->Tree × Rd):Prop:=∀ deep r,GG r->(un deep r).2.err=none->OkE deep 9 (un deep r).1 r (un deep r).2
theorem dp_at (m:Nat) (t:Tree) (p:Nat):dpE m t p<=1+dpE m t 0:=by
 cases m with
 | zero=>simp [dpE]
 | succ m=>
   unfold dpE
   simp only
   split
   · omega
   split
   · rw [if_neg (Nat.not_lt_zero _)]
     split <;> omega
   split
   · omega
   split <;> omega
theorem etext_paren (m:Nat) (t:Tree) (p:Nat):(etext m t p).length<=2+(etext m t 0).length:=by
 cases m with
 | zero=>simp [etext]
 | succ m=>
   rw [etext_at m t p]
   split
   · simp only [List.length_append,List.length_cons,List.length_nil];omega
   · omega
theorem dp_zero {m:Nat} {t:Tree} {p:Nat} (h:t.kids=[]) (h3:t.kind≠3) (h2:t.kind≠2) (h4:t.kind≠4) (h5:t.kind≠5):dpE m t p=0:=by
 cases m with
 | zero=>rfl
 | succ m=>simp [dpE,h2,h3,h4,h5]
theorem un_ok {ex:ExP} {un:Nat->Rd->Tree × Rd} (hE:ToE ex) (hU:∀ d r,Rd.to r (un d r).2) (sE:SfE ex) (sU:∀ d r,Rd.suf r (un d r).2) (h:ExOK ex) (hu:UnOK un):UnOK (unaryOf ex un):=by
 intro deep r hg he
 unfold unaryOf at he ⊢
 by_cases hb:beginsB r.here=false
 · rw [if_pos hb] at he;exact (fail_no he).elim
 rw [if_neg hb] at he ⊢
 by_cases hd:40<deep
 · rw [if_pos hd] at he;exact (fail_no he).elim
 rw [if_neg hd] at he ⊢
 have hk0:r.here.kind≠0:=by
    rcases good_cases hg.1 with ⟨j,_,e⟩ | ⟨h,_⟩
    · exfalso;apply hb;rw [e];rfl
    · exact h
 have E1:=eats_next hg hk0
 have g1:GG r.next:=hg.on (sf_next r) (to_next r)
 by_cases h1:r.here.text=[126]
 · rw [if_pos h1] at he ⊢
   obtain ⟨n,b,gt,ea,te,dp⟩:=hu (deep+1) r.next g1 he
   rw [h1] at E1
   refine ⟨n+1,1+b,.inr (.inr (.inr (.inr (.inl ⟨rfl,rfl,rfl,rfl,_,rfl,gt⟩)))),(E1.trans ea).less (by omega) (by simp),fun m p hm=>?_,fun m p hm hp=>?_⟩
   · obtain ⟨m,rfl,hm'⟩:=succ_of hm
     rw [etext_not m _ p rfl,epart_some (k:=(un (deep+1) r.next).1) rfl]
     have:=te m 9 hm'
     simp only [List.length_append,List.length_cons,List.length_nil];omega
   · obtain ⟨m,rfl,hm'⟩:=succ_of hm
     rw [dp_4 (a:=(un (deep+1) r.next).1) rfl rfl]
     have:=dp m 9 hm' (Nat.le_refl _)
     omega
 rw [if_neg h1] at he ⊢
 by_cases h2:r.here.text=kPick
 · rw [if_pos h2] at he ⊢
   unfold threeOf at he ⊢
   dsimp only at he ⊢
   have e6:=err_back (to_want [41] _) he
   have e5:=err_back (hE 0 (deep+1) _) e6
   have e4:=err_back (to_want [44] _) e5
   have e3:=err_back (hE 0 (deep+1) _) e4
   have e2:=err_back (to_want [44] _) e3
   have e1:=err_back (hE 0 (deep+1) _) e2
   have E2:=eats_want g1 (by simp) e1
   have g2:=g1.on (sf_want [40] _) (to_want [40] _)
   obtain ⟨⟨na,ba,ga,ea,ta,da⟩,_⟩:=h 0 (deep+1) _ (by omega) g2 e2
   have g3:=g2.on (sE 0 (deep+1) _) (hE 0 (deep+1) _)
   have E3:=eats_want g3 (by simp) e3
   have g4:=g3.on (sf_want [44] _) (to_want [44] _)
   obtain ⟨⟨nb,bb,gb,eb,tb,db⟩,_⟩:=h 0 (deep+1) _ (by omega) g4 e4
   have g5:=g4.on (sE 0 (deep+1) _) (hE 0 (deep+1) _)
   have E4:=eats_want g5 (by simp) e5
   have g6:=g5.on (sf_want [44] _) (to_want [44] _)
   obtain ⟨⟨nc,bc,gc,ec,tc,dc⟩,_⟩:=h 0 (deep+1) _ (by omega) g6 e6
   have g7:=g6.on (sE 0 (deep+1) _) (hE 0 (deep+1) _)
   have E5:=eats_want g7 (by simp) he
   rw [h2] at E1
   have EE:=E1.trans (E2.trans (ea.trans (E3.trans (eb.trans (E4.trans (ec.trans E5))))))
   refine ⟨na+nb+nc+1,ba+bb+bc+8,.inr (.inr (.inr (.inr (.inr ⟨rfl,rfl,rfl,rfl,_,_,_,rfl,ga.up (by omega),gb.up (by omega),gc.up (by omega)⟩)))),EE.less (by omega) (by simp [kPick];omega),fun m p hm=>?_,fun m p hm hp=>?_⟩
   · obtain ⟨m,rfl,hm'⟩:=succ_of hm
     rw [etext_pick m _ p rfl]
     unfold pickText
     rw [epart_some (i:=0) rfl,epart_some (i:=1) rfl,epart_some (i:=2) rfl]
     have:=ta m 0 (by omega)
     have:=tb m 0 (by omega)
     have:=tc m 0 (by omega)
     simp only [List.length_append,List.length_cons,List.length_nil];omega
   · obtain ⟨m,rfl,hm'⟩:=succ_of hm
     rw [dp_5 rfl rfl]
     have:=da m 0 (by omega) (by omega)
     have:=db m 0 (by omega) (by omega)
     have:=dc m 0 (by omega) (by omega)
     omega
 rw [if_neg h2] at he ⊢
 by_cases h3:r.here.text=[40]
 · rw [if_pos h3] at he ⊢
   dsimp only at he ⊢
   have e1:=err_back (to_want [41] _) he
   obtain ⟨⟨n,b,gt,ea,te,dp⟩,_⟩:=h 0 (deep+1) r.next (by omega) g1 e1
   have g2:=g1.on (sE 0 (deep+1) _) (hE 0 (deep+1) _)
   have E2:=eats_want g2 (by simp) he
   rw [h3] at E1
   refine ⟨n,b+2,gt,(E1.trans (ea.trans E2)).less (by omega) (by simp;omega),fun m p hm=>by have:=te m p hm;omega,fun m p hm hp=>?_⟩
   have a1:=dp m 0 hm (by omega)
   have a2:=dp_at m (ex 0 (deep+1) r.next).1 p
   omega
 rw [if_neg h3] at he ⊢
 have hpos:=text_pos hg hk0
 by_cases h4:r.here.kind=3
 · rw [if_pos h4] at he ⊢
   have hv:=hg.here.2
   refine ⟨1,r.here.text.length,.inl ⟨rfl,rfl,rfl,hv,rfl⟩,E1,fun m p hm=>?_,fun m p hm hp=>?_⟩
   · obtain ⟨m,rfl,hm'⟩:=succ_of hm
     rw [etext_lit m _ p rfl]
     have:(decDigits r.here.value).length<=20:=by rw [Go.Lib.decDigits_length];exact Go.Lib.nDigits_le20 _ hv
     show (decDigits r.here.value).length<=_
     omega
   · rw [dp_zero rfl (by simp) (by simp) (by simp) (by simp)];omega
 rw [if_neg h4] at he ⊢
 have h5:r.here.kind=1:=by
    have hb':beginsB r.here=true:=by simpa using hb
    unfold beginsB at hb'
    simp only [Bool.or_eq_true,beq_iff_eq] at hb'
    rcases hb' with (((h | h) | h) | h) | h
    · exact h
    · exact absurd h h4
    · exact absurd h h1
    · exact absurd h h3
    · exact absurd h h2
 have hn:isName (bstr r.here.text):=hg.here.1 h5
 have hsz:(bys (bstr r.here.text)).length=r.here.text.length:=rfl
 unfold namedOf at he ⊢
 by_cases h6:r.next.is [91]=true
 · rw [if_pos h6] at he ⊢
   dsimp only at he ⊢
   have ht:=is_text h6
   have E2:=eats_next g1 (text_kind g1 (by rw [ht];simp))
   have g2:=g1.on (sf_next _) (to_next _)
   have e1:=err_back (to_want [93] _) he
   obtain ⟨⟨n,b,gt,ea,te,dp⟩,_⟩:=h 0 (deep+1) r.next.next (by omega) g2 e1
   have g3:=g2.on (sE 0 (deep+1) _) (hE 0 (deep+1) _)
   have E3:=eats_want g3 (by simp) he
   rw [ht] at E2
   refine ⟨n+1,r.here.text.length+b+2,.inr (.inr (.inl ⟨rfl,rfl,hn,rfl,_,rfl,gt⟩)),(E1.trans (E2.trans (ea.trans E3))).less (by omega) (by simp;omega),fun m p hm=>?_,fun m p hm hp=>?_⟩
   · obtain ⟨m,rfl,hm'⟩:=succ_of hm
     rw [etext_cell m _ p rfl]
     unfold cellText
     rw [epart_some (i:=0) rfl]
     have:=te m 0 hm'
     simp only [List.length_append,List.length_cons,List.length_nil,hsz];omega
   · obtain ⟨m,rfl,hm'⟩:=succ_of hm
     rw [dp_2 rfl rfl]
     have:=dp m 0 hm' (by omega)
     omega
 · rw [if_neg h6] at he ⊢
   refine ⟨1,r.here.text.length,.inr (.inl ⟨rfl,rfl,hn,rfl,rfl⟩),E1,fun m p hm=>?_,fun m p hm hp=>?_⟩
   · obtain ⟨m,rfl,hm'⟩:=succ_of hm
     rw [etext_name m _ p rfl]
     show (bys (bstr r.here.text)).length<=_
     rw [hsz];omega
   · rw [dp_zero rfl (by simp) (by simp) (by simp) (by simp)];omega
theorem loop_ok {ex:ExP} (hE:ToE ex) (sE:SfE ex) (h:ExOK ex) (tight deep:Nat) (r0:Rd):∀ (k:Nat) (left:Tree) (r:Rd) (K:Nat),OkE deep K left r0 r->GG r->tightAt r.ts<=K->tight+1<=K->r.ts.length<=k->(loopOf ex tight deep k left r).2.err=none ->
    OkE deep (tight+1) (loopOf ex tight deep k left r).1 r0 (loopOf ex tight deep k left r).2/\tightAt (loopOf ex tight deep k left r).2.ts<=tight
 | 0,left,r,K,_,hg,_,_,hk,_=>by have:=hg.1.pos;omega
 | k+1,left,r,K,hl,hg,hK,htK,hk,he=>by
   unfold loopOf at he ⊢
   by_cases hs:tightN (opOf r.here.text)<=tight
   · rw [if_pos hs] at he ⊢
     exact ⟨hl.less htK,hs⟩
   rw [if_neg hs] at he ⊢
   dsimp only at he ⊢
   have hK':tightN (opOf r.here.text)<=K:=hK
   have hop:0<=opOf r.here.text/\opOf r.here.text<=9:=by
    rcases Decidable.em (opOf r.here.text<0\/9<opOf r.here.text) with h' | h'
    · exact absurd (tightN_none _ h') (by omega)
    · omega
   have htx:r.here.text≠[]:=fun e=>by rw [e] at hs;exact hs (by rw [show opOf [] = -1 from rfl,show tightN (-1)=0 from rfl];exact Nat.zero_le _)
   have hk0:=text_kind hg htx
   have E1:=eats_next hg hk0
   have hpos:=text_pos hg hk0
   have g1:=hg.on (sf_next r) (to_next r)
   have ht7:=tightN_le (opOf r.here.text)
   have e1:=err_back (to_loop hE tight deep k _ _) he
   obtain ⟨⟨n2,b2,g2,ea2,te2,dp2⟩,hst⟩:=h (tightN (opOf r.here.text)) (deep+1) r.next (by omega) g1 e1
   have gq:=g1.on (sE (tightN (opOf r.here.text)) (deep+1) _) (hE (tightN (opOf r.here.text)) (deep+1) _)
   obtain ⟨n1,b1,g1',ea1,te1,dp1⟩:=hl
   refine loop_ok hE sE h tight deep r0 k _ _ (tightN (opOf r.here.text)) ?_ gq hst (by omega) ?_ he
   · refine ⟨n1+n2+1,b1+1+b2,.inr (.inr (.inr (.inl ⟨rfl,hop.1,hop.2,rfl,rfl,_,_,rfl,g1'.up (by omega),g2.up (by omega)⟩))),(ea1.trans (E1.trans ea2)).less (by omega) (by omega),fun m p hm=>?_,fun m p hm hp=>?_⟩
     · obtain ⟨m,rfl,hm'⟩:=succ_of hm
       rw [etext_bin m _ p rfl]
       have a1:=te1 m (tightN (opOf r.here.text)) (by omega)
       have a2:=te2 m (tightN (opOf r.here.text)+1) (by omega)
       have hsg:=signL_len (opOf r.here.text).toNat
       have x0:∀ q,epart m (opT (opOf r.here.text) left (ex (tightN (opOf r.here.text)) (deep+1) r.next).1).kids 0 q=etext m left q:=fun q=>epart_some rfl _
       have x1:∀ q,epart m (opT (opOf r.here.text) left (ex (tightN (opOf r.here.text)) (deep+1) r.next).1).kids 1 q=etext m (ex (tightN (opOf r.here.text)) (deep+1) r.next).1 q:=fun q=>epart_some rfl _
       have x2:(opT (opOf r.here.text) left (ex (tightN (opOf r.here.text)) (deep+1) r.next).1).op=opOf r.here.text:=rfl
       unfold binTextAt
       rw [x2]
       split
       · simp;omega
       · split <;> (simp only [binText,x0,x1,x2,List.length_append,List.length_cons,List.length_nil];omega)
     · obtain ⟨m,rfl,hm'⟩:=succ_of hm
       have x2:(opT (opOf r.here.text) left (ex (tightN (opOf r.here.text)) (deep+1) r.next).1).op=opOf r.here.text:=rfl
       rw [dp_3 (a:=left) (b:=(ex (tightN (opOf r.here.text)) (deep+1) r.next).1) rfl rfl,x2,if_neg (by omega)]
       have a1:=dp1 m (tightN (opOf r.here.text)) (by omega) hK'
       have a2:=dp2 m (tightN (opOf r.here.text)+1) (by omega) (Nat.le_refl _)
       omega
   · have:=ea2.1
     have:=E1.1
     have hn2:=gT_pos g2
     omega
theorem pair_ok:∀ f,ExOK (exprP f)/\UnOK (unaryP f)
 | 0=>⟨fun t d r _ _ he=>by
    have he':(failU r).2.err=none:=he
    unfold failU at he'
    simp only at he'
    split at he' <;> exact (fail_no he').elim,fun d r _ he=>by
    have he':(failU r).2.err=none:=he
    unfold failU at he'
    simp only at he'
    split at he' <;> exact (fail_no he').elim⟩
 | f+1=>by
   obtain ⟨h1,h2⟩:=pair_ok f
   have tE:=(to_pair f).1
   have tU:=(to_pair f).2
   have sE:=(sf_pair f).1
   have sU:=(sf_pair f).2
   have hu:UnOK (unaryP (f+1)):=by rw [unaryP_succ];exact un_ok tE tU sE sU h1 h2
   have tU1:=(to_pair (f+1)).2
   have sU1:=(sf_pair (f+1)).2
   refine ⟨fun tight deep r ht hg he=>?_,hu⟩
   rw [exprP_succ] at he ⊢
   unfold exprOf at he ⊢
   have e1:=err_back (to_loop tE tight deep _ _ _) he
   have g1:=hg.on (sU1 deep r) (tU1 deep r)
   exact loop_ok tE sE h1 tight deep r _ _ _ 9 (hu deep r hg e1) g1 (Nat.le_trans (tightN_le _) (by omega)) (by omega) (Nat.le_refl _) he
theorem expr_ok (f:Nat):ExOK (exprP f):=(pair_ok f).1
end Go.Proofs.YtlepckjmdjjolaaGreatDoor.Pr
