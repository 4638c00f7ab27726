/- Statements that are read have a text that is read back, and is not much longer. Plain. -/
import Derived.Test.YtlepckjmdjjolaaGreatDoorHPReadOk
namespace Go.Proofs.YtlepckjmdjjolaaGreatDoor.Pr
open Go.Lib (decDigits itoa)
open Lx (Tok)
set_option linter.unusedVariables false
set_option linter.unusedSimpArgs false
theorem value_ok {M:Nat} (hM:65537<=M) {deep:Nat} {s:Stm} {r:Rd} (hg:GG r) (hl:r.ts.length<=65537) (he:(valueP deep s r).2.err=none):
 ∃ e b,valueP deep s r=({ s with exprs:=s.exprs++[e] },(valueP deep s r).2)/\gT M e/\deep+1+dpE M e 0<=40/\Eats r (valueP deep s r).2 1 b/\(∀ p,(etext M e p).length<=20*b)/\GG (valueP deep s r).2:=by
 obtain ⟨⟨n,b,gt,ea,te,dp⟩,_⟩:=expr_ok (40-deep) 0 (deep+1) r (by omega) hg he
 have hn:=ea.1
 have hn1:=gT_pos gt
 exact ⟨_,b,rfl,gt.up (by omega),by have:=dp M 0 (by omega) (by omega);omega,ea.less hn1 (Nat.le_refl _),fun p=>te M p (by omega),hg.on (sf_value deep s r) (to_value deep s r)⟩
def OkS (M f d:Nat) (s:Stm) (r r':Rd):Prop:=
 ∃ b,gS M f s/\fitS M f d s/\Eats r r' 1 b/\∀ j,f<=j->(stext M j d s).length<=20*b
def StOK (M f:Nat) (st:Nat->Rd->Stm × Rd):Prop:=∀ d r,GG r->r.ts.length<=65537->(st d r).2.err=none->OkS M f d (st d r).1 r (st d r).2
def OkB (M f d:Nat) (ss:List Stm) (r r':Rd) (n c:Nat):Prop:=
 ∃ b,(∀ s ∈ ss,gS M f s)/\(∀ s ∈ ss,fitS M f d s)/\Eats r r' n (c+b)/\∀ j,f<=j->(btext M j d ss).length<=20*b
theorem blk_ok {M f:Nat} {st:Nat->Rd->Stm × Rd} (tS:∀ d r,Rd.to r (st d r).2) (sS:∀ d r,Rd.suf r (st d r).2) (h:StOK M f st) (d:Nat):∀ (k:Nat) (ss:List Stm) (r:Rd),GG r->r.ts.length<=65537->r.ts.length<k->(blkLoop st d k ss r).2.err=none ->
    ∃ ss',(blkLoop st d k ss r).1=ss++ss'/\OkB M f d ss' r (blkLoop st d k ss r).2 1 1
 | 0,ss,r,_,_,hk,_=>by omega
 | k+1,ss,r,hg,hl,hk,he=>by
   rw [blkLoop] at he ⊢
   by_cases h1:r.err.isSome=true
   · rw [if_pos h1] at he
     rw [he] at h1;cases h1
   rw [if_neg h1] at he ⊢
   by_cases h2:r.is [125]=true
   · rw [if_pos h2] at he ⊢
     have ht:=is_text h2
     have E:=eats_next hg (text_kind hg (by rw [ht];simp))
     rw [ht] at E
     exact ⟨[],by simp,0,by simp,by simp,E,fun j _=>by simp [btext]⟩
   rw [if_neg h2] at he ⊢
   have e1:=err_back (to_blk tS d k _ _) he
   obtain ⟨b1,g1,f1,ea1,te1⟩:=h d r hg hl e1
   have gq:=hg.on (sS d r) (tS d r)
   have hlen:=ea1.1
   obtain ⟨ss',h3,b2,g2,f2,ea2,te2⟩:=blk_ok tS sS h d k (ss++[(st d r).1]) (st d r).2 gq (by omega) (by omega) he
   refine ⟨(st d r).1 :: ss',by rw [h3,List.append_assoc];rfl,b1+b2,fun x hx=>?_,fun x hx=>?_,(ea1.trans ea2).less (by omega) (by omega),fun j hj=>?_⟩
   · rcases List.mem_cons.1 hx with rfl | hx
     · exact g1
     · exact g2 x hx
   · rcases List.mem_cons.1 hx with rfl | hx
     · exact f1
     · exact f2 x hx
   · have a1:=te1 j hj
     have a2:=te2 j hj
     have:btext M j d ((st d r).1 :: ss')=stext M j d (st d r).1++btext M j d ss':=by simp [btext]
     rw [this,List.length_append];omega
def BlOK (M f:Nat) (bl:BlP):Prop:=∀ d r,GG r->r.ts.length<=65537->(bl d r).2.err=none->OkB M f d (bl d r).1 r (bl d r).2 2 2
theorem block_ok {M f:Nat} {st:Nat->Rd->Stm × Rd} (tS:∀ d r,Rd.to r (st d r).2) (sS:∀ d r,Rd.suf r (st d r).2) (h:StOK M f st):BlOK M f (blockOf st):=by
 intro d r hg hl he
 have he':(blkLoop st d ((r.want [123]).ts.length+1) [] (r.want [123])).2.err=none:=he
 have e1:=err_back (to_blk tS d _ _ _) he'
 have E:=eats_want hg (by simp) e1
 have hlen:=E.1
 obtain ⟨ss',h1,b,g,f',ea,te⟩:=blk_ok tS sS h d _ [] (r.want [123]) (hg.on (sf_want _ _) (to_want _ _)) (by omega) (by omega) he'
 have e:(blockOf st d r).1=ss':=by unfold blockOf;rw [h1];rfl
 rw [e]
 exact ⟨b,g,f',(E.trans ea).less (by omega) (by simp;omega),te⟩
theorem tabsL (d:Nat):(tabs d).length=d:=by simp [tabs]
theorem bysL (x:List UInt8):(bys (bstr x)).length=x.length:=rfl
theorem ep0 {M:Nat} {e:Tree} {B:Nat} (h:∀ p,(etext M e p).length<=20*B) (es:List Tree):(epart M (e :: es) 0 0).length<=20*B:=by rw [epart_some (k:=e) rfl];exact h 0
theorem fit_flat {M f d:Nat} {s:Stm} (hd:d<=40) (he:∀ e ∈ s.exprs,d+1+dpE M e 0<=40) (hb:s.body=[]) (hl:s.els=[]):fitS M (f+1) d s:=⟨hd,he,by rw [hb];simp,by rw [hl];simp⟩
theorem one_fit {M d:Nat} {e:Tree} (h:d+1+dpE M e 0<=40):∀ x ∈ [e],d+1+dpE M x 0<=40:=fun x hx=>by simp only [List.mem_singleton] at hx;subst hx;exact h
theorem stmt_ok {M f:Nat} (hM:65537<=M) {bl:BlP} (tB:ToB bl) (sB:SfB bl) (h:BlOK M f bl):StOK M (f+1) (stmtOf bl):=by
 intro d r hg hl he
 unfold stmtOf at he ⊢
 cases hk:kindP r.here with
 | none=>rw [hk] at he;exact (fail_no he).elim
 | some k=>
   rw [hk] at he
   simp only at he ⊢
   by_cases hd:40<d
   · rw [if_pos hd] at he;exact (fail_no he).elim
   rw [if_neg hd] at he ⊢
   have hk0:=kind_here hk hg.1
   have E1:=eats_next hg hk0
   have hpos:=text_pos hg hk0
   have g1:GG r.next:=hg.on (sf_next r) (to_next r)
   have l1:r.next.ts.length<=65537:=by have:=E1.1;omega
   by_cases h3:k=3
   · subst h3
     rw [if_pos rfl] at he ⊢
     have htx:r.here.text=kIf:=by
        rcases kind_is hk with h | h | h | h | h | h | h | h | h
        · exact absurd h.1 (by decide)
        · exact absurd h.1 (by decide)
        · exact h.2
        all_goals exact absurd h.1 (by decide)
     rw [htx] at E1
     unfold choiceOf at he ⊢
     dsimp only at he ⊢
     generalize hw:r.next.want [40]=w1 at he ⊢
     generalize hq:valueP d ⟨3,⟨#[]⟩,[],0,[],[],r.here.at_⟩ w1=q at he ⊢
     generalize hw2:q.2.want [41]=w2 at he ⊢
     generalize hb:bl (d+1) w2=b at he ⊢
     have main:b.2.err=none->∃ e B BB,q.1=⟨3,⟨#[]⟩,[e],0,[],[],r.here.at_⟩/\gT M e/\d+1+dpE M e 0<=40/\(∀ p,(etext M e p).length<=20*B)/\(∀ s ∈ b.1,gS M f s)/\(∀ s ∈ b.1,fitS M f (d+1) s)/\Eats r b.2 1 (6+B+BB)/\(∀ j,f<=j->(btext M j (d+1) b.1).length<=20*BB)/\GG b.2:=fun eb=>by
        have tb:w2.to b.2:=by rw [<- hb];exact tB (d+1) w2
        have sb:w2.suf b.2:=by rw [<- hb];exact sB (d+1) w2
        have e3:=err_back tb eb
        rw [<- hw2] at e3
        have e2:=err_back (to_want [41] q.2) e3
        rw [<- hq] at e2
        have e1:=err_back (to_value d _ w1) e2
        rw [<- hw] at e1
        have E2:=eats_want g1 (by simp) e1
        rw [hw] at E2
        have g2:GG w1:=by rw [<- hw];exact g1.on (sf_want _ _) (to_want _ _)
        have l2:w1.ts.length<=65537:=by have:=E2.1;omega
        obtain ⟨e,B,hv,gt,fe,E3,te,g3⟩:=value_ok hM g2 l2 e2
        rw [hq] at hv E3 g3
        have E4:=eats_want g3 (by simp) e3
        rw [hw2] at E4
        have g4:GG w2:=by rw [<- hw2];exact g3.on (sf_want _ _) (to_want _ _)
        have l4:w2.ts.length<=65537:=by have:=E4.1;have:=E3.1;omega
        obtain ⟨BB,gb,fb,E5,tb'⟩:=h (d+1) w2 g4 l4 (by rw [hb];exact eb)
        rw [hb] at gb fb E5 tb'
        exact ⟨e,B,BB,congrArg Prod.fst hv,gt,fe,te,gb,fb,(E1.trans (E2.trans (E3.trans (E4.trans E5)))).less (by omega) (by simp [kIf];omega),tb',g4.on sb tb⟩
     by_cases hels:b.2.is kElse=true
     · rw [if_pos hels] at he ⊢
       dsimp only at he ⊢
       generalize hz:bl (d+1) b.2.next=z at he ⊢
       have tz:b.2.next.to z.2:=by rw [<- hz];exact tB (d+1) _
       have eb:b.2.err=none:=by have:=err_back tz he;exact this
       obtain ⟨e,B,BB,hq1,gt,fe,te,gb,fb,EE,tb',gbb⟩:=main eb
       have ht:=is_text hels
       have E6:=eats_next gbb (text_kind gbb (by rw [ht];decide))
       rw [ht] at E6
       have g7:=gbb.on (sf_next _) (to_next _)
       have l7:b.2.next.ts.length<=65537:=by have:=EE.1;have:=E6.1;omega
       obtain ⟨BZ,gz,fz,E7,tz'⟩:=h (d+1) b.2.next g7 l7 (by rw [hz];exact he)
       rw [hz] at gz fz E7 tz'
       rw [hq1]
       refine ⟨12+B+BB+BZ,.inr (.inr (.inr (.inl ⟨rfl,rfl,⟨e,rfl,gt⟩,rfl,gb,gz⟩))),⟨by omega,one_fit fe,fb,fz⟩,(EE.trans (E6.trans E7)).less (by omega) (by simp [kElse];omega),fun j hj=>?_⟩
       obtain ⟨j,rfl,hj'⟩:=succ_of hj
       rw [stext_3 M j d _ rfl]
       unfold choiceT
       have a0:=ep0 te []
       have a1:=tb' j hj'
       have a2:=tz' j hj'
       have a3:(if z.1.length=0 then [] else lineT d sElse++btext M j (d+1) z.1).length<=49+20*BZ:=by
          split
          · simp
          · simp only [lineT,List.length_append,tabsL,List.length_cons,List.length_nil,sElse];omega
       simp only [lineT,List.length_append,tabsL,List.length_cons,List.length_nil,sIf,sThen]
       simp only [lineT] at a3
       omega
     · rw [if_neg hels] at he ⊢
       obtain ⟨e,B,BB,hq1,gt,fe,te,gb,fb,EE,tb',gbb⟩:=main he
       rw [hq1]
       refine ⟨6+B+BB,.inr (.inr (.inr (.inl ⟨rfl,rfl,⟨e,rfl,gt⟩,rfl,gb,by simp⟩))),⟨by omega,one_fit fe,fb,by simp⟩,EE,fun j hj=>?_⟩
       obtain ⟨j,rfl,hj'⟩:=succ_of hj
       rw [stext_3 M j d _ rfl]
       unfold choiceT
       have a0:=ep0 te []
       have a1:=tb' j hj'
       simp only [lineT,List.length_append,tabsL,List.length_cons,List.length_nil,sIf,sThen,if_true]
       omega
   rw [if_neg h3] at he ⊢
   by_cases h4:k=4
   · subst h4
     rw [if_pos rfl] at he ⊢
     have htx:r.here.text=kLoop:=by
        rcases kind_is hk with h | h | h | h | h | h | h | h | h
        · exact absurd h.1 (by decide)
        · exact absurd h.1 (by decide)
        · exact absurd h.1 (by decide)
        · exact h.2
        all_goals exact absurd h.1 (by decide)
     rw [htx] at E1
     dsimp only at he ⊢
     have e2:=err_back (tB (d+1) _) he
     have e1:=err_back (to_number 256 _) e2
     obtain ⟨hn,E2,g2,hp2⟩:=eats_name g1 e1
     obtain ⟨hc,E3,g3⟩:=eats_number g2 e2
     have l3:(r.next.name.2.number 256).2.ts.length<=65537:=by have:=E2.1;have:=E3.1;omega
     obtain ⟨BB,gb,fb,E4,tb'⟩:=h (d+1) _ g3 l3 he
     refine ⟨4+r.next.name.1.length+3+BB,.inr (.inr (.inr (.inr (.inl ⟨rfl,hn,rfl,⟨_,rfl,hc.1,hc.2⟩,gb,rfl⟩)))),⟨by omega,by simp,fb,by simp⟩,(E1.trans (E2.trans (E3.trans E4))).less (by omega) (by simp [kLoop];omega),fun j hj=>?_⟩
     obtain ⟨j,rfl,hj'⟩:=succ_of hj
     rw [stext_4 M j d _ rfl]
     have a1:=tb' j hj'
     have hi:(itoa (((r.next.name.2.number 256).1:Nat):Int)).length<=20:=by
        rw [itoa,if_neg (by omega)]
        simp only [Int.toNat_natCast]
        rw [Go.Lib.decDigits_length];exact Go.Lib.nDigits_le20 _ (by omega)
     simp only [lineT,List.length_append,tabsL,List.length_cons,List.length_nil,sLoop,bysL]
     omega
   rw [if_neg h4] at he ⊢
   dsimp only at he ⊢
   have ew:=err_back (to_want [59] _) he
   have gS1:∀ s,GG (simpleP r.here d s r.next).2:=fun s=>g1.on (sf_simple _ _ _ _) (to_simple _ _ _ _)
   have E9:=eats_want (gS1 _) (by simp) he
   rcases kind_is hk with ⟨rfl,hx⟩ | ⟨rfl,hx⟩ | ⟨rfl,hx⟩ | ⟨rfl,hx⟩ | ⟨rfl,hx⟩ | ⟨rfl,hx⟩ | ⟨rfl,hx⟩ | ⟨rfl,hx⟩ | ⟨rfl,hx⟩
   · have hnm:isName (bstr r.here.text):=hg.here.1 hx
     by_cases hbr:r.next.is [91]=true
     · rw [simple_2 _ _ _ _ rfl hbr] at ew E9 ⊢
       have e5:=err_back (to_value d _ _) ew
       have e4:=err_back (to_want [61] _) e5
       have e3:=err_back (to_want [93] _) e4
       have ht:=is_text hbr
       have E2:=eats_next g1 (text_kind g1 (by rw [ht];simp))
       rw [ht] at E2
       have g2:=g1.on (sf_next _) (to_next _)
       have l2:r.next.next.ts.length<=65537:=by have:=E2.1;omega
       obtain ⟨a,BA,hv,ga,fa,E3,ta,g3⟩:=value_ok hM (s := { (⟨1,⟨#[]⟩,[],0,[],[],r.here.at_⟩:Stm) with kind:=2,name:=bstr r.here.text }) g2 l2 e3
       have E4:=eats_want g3 (by simp) e4
       have g4:=g3.on (sf_want [93] _) (to_want [93] _)
       have E5:=eats_want g4 (by simp) e5
       have g5:=g4.on (sf_want [61] _) (to_want [61] _)
       have l5:=E5.1
       have l4:=E4.1
       have l3:=E3.1
       obtain ⟨c,BC,hv2,gc,fc,E6,tc,g6⟩:=value_ok hM (s:=(valueP d { (⟨1,⟨#[]⟩,[],0,[],[],r.here.at_⟩:Stm) with kind:=2,name:=bstr r.here.text } r.next.next).1) g5 (by omega) ew
       have e1:(valueP d (valueP d { (⟨1,⟨#[]⟩,[],0,[],[],r.here.at_⟩:Stm) with kind:=2,name:=bstr r.here.text } r.next.next).1 (((valueP d { (⟨1,⟨#[]⟩,[],0,[],[],r.here.at_⟩:Stm) with kind:=2,name:=bstr r.here.text } r.next.next).2.want [93]).want [61])).1=⟨2,bstr r.here.text,[a,c],0,[],[],r.here.at_⟩:=by
          rw [hv2];simp only;rw [hv];rfl
       rw [e1]
       refine ⟨r.here.text.length+BA+BC+4,.inr (.inr (.inl ⟨rfl,hnm,⟨a,c,rfl,ga,gc⟩,rfl,rfl,rfl⟩)),fit_flat (by omega) (fun x hx=>?_) rfl rfl,(E1.trans (E2.trans (E3.trans (E4.trans (E5.trans (E6.trans E9)))))).less (by omega) (by simp;omega),fun j hj=>?_⟩
       · simp only [List.mem_cons,List.not_mem_nil,or_false] at hx
         rcases hx with rfl | rfl
         · exact fa
         · exact fc
       · obtain ⟨j,rfl,hj'⟩:=succ_of hj
         rw [stext_2 M j d _ rfl]
         have x0:=ep0 ta [c]
         have x1:(epart M [a,c] 1 0).length<=20*BC:=by rw [epart_some (k:=c) rfl];exact tc 0
         simp only [cellText,List.length_append,tabsL,bysL,List.length_cons,List.length_nil,sIs]
         omega
     · rw [simple_1 _ _ _ _ rfl (by simpa using hbr)] at ew E9 ⊢
       have e2:=err_back (to_value d _ _) ew
       have E2:=eats_want g1 (by simp) e2
       have g2:=g1.on (sf_want [61] _) (to_want [61] _)
       have l2:=E2.1
       obtain ⟨a,BA,hv,ga,fa,E3,ta,g3⟩:=value_ok hM (s := { (⟨1,⟨#[]⟩,[],0,[],[],r.here.at_⟩:Stm) with name:=bstr r.here.text }) g2 (by omega) ew
       rw [hv]
       refine ⟨r.here.text.length+BA+2,.inr (.inl ⟨rfl,hnm,⟨a,rfl,ga⟩,rfl,rfl,rfl⟩),fit_flat (by omega) (one_fit fa) rfl rfl,(E1.trans (E2.trans (E3.trans E9))).less (by omega) (by simp;omega),fun j hj=>?_⟩
       obtain ⟨j,rfl,hj'⟩:=succ_of hj
       rw [stext_1 M j d _ rfl]
       have x0:=ep0 ta []
       simp only [valueT,List.length_append,tabsL,bysL,List.length_cons,List.length_nil,List.nil_append,sIs]
       omega
   · rw [simple_0 _ _ _ _ rfl] at ew E9 ⊢
     rw [hx] at E1
     have e2:=err_back (to_value d _ _) ew
     have e1:=err_back (to_want [61] _) e2
     obtain ⟨hn,E2,g2,hp2⟩:=eats_name g1 e1
     have E3:=eats_want g2 (by simp) e2
     have g3:=g2.on (sf_want [61] _) (to_want [61] _)
     have l2:=E2.1
     have l3:=E3.1
     obtain ⟨a,BA,hv,ga,fa,E4,ta,g4⟩:=value_ok hM (s := { (⟨0,⟨#[]⟩,[],0,[],[],r.here.at_⟩:Stm) with name:=bstr r.next.name.1 }) g3 (by omega) ew
     rw [hv]
     refine ⟨r.next.name.1.length+BA+7,.inl ⟨rfl,hn,⟨a,rfl,ga⟩,rfl,rfl,rfl⟩,fit_flat (by omega) (one_fit fa) rfl rfl,(E1.trans (E2.trans (E3.trans (E4.trans E9)))).less (by omega) (by simp [kLocal];omega),fun j hj=>?_⟩
     obtain ⟨j,rfl,hj'⟩:=succ_of hj
     rw [stext_0 M j d _ rfl]
     have x0:=ep0 ta []
     simp only [valueT,List.length_append,tabsL,bysL,List.length_cons,List.length_nil,List.nil_append,sIs,sLocal]
     omega
   · exact absurd rfl h3
   · exact absurd rfl h4
   · rw [simple_5 _ _ _ _ rfl] at ew E9 ⊢
     rw [hx] at E1
     obtain ⟨hn,E2,g2,hp2⟩:=eats_name g1 ew
     refine ⟨r.next.name.1.length+5,.inr (.inr (.inr (.inr (.inr (.inl ⟨rfl,hn,rfl,rfl,rfl,rfl⟩))))),fit_flat (by omega) (by simp) rfl rfl,(E1.trans (E2.trans E9)).less (by omega) (by simp [kTake];omega),fun j hj=>?_⟩
     obtain ⟨j,rfl,hj'⟩:=succ_of hj
     rw [stext_5 M j d _ rfl]
     simp only [lineT,List.length_append,tabsL,bysL,List.length_cons,List.length_nil,sTake]
     omega
   · rw [simple_6 _ _ _ _ rfl] at ew E9 ⊢
     rw [hx] at E1
     obtain ⟨hn,E2,g2,hp2⟩:=eats_name g1 ew
     refine ⟨r.next.name.1.length+5,.inr (.inr (.inr (.inr (.inr (.inr (.inl ⟨rfl,hn,rfl,rfl,rfl,rfl⟩)))))),fit_flat (by omega) (by simp) rfl rfl,(E1.trans (E2.trans E9)).less (by omega) (by simp [kGive];omega),fun j hj=>?_⟩
     obtain ⟨j,rfl,hj'⟩:=succ_of hj
     rw [stext_6 M j d _ rfl]
     simp only [lineT,List.length_append,tabsL,bysL,List.length_cons,List.length_nil,sGive]
     omega
   · rw [simple_7 _ _ _ _ rfl] at ew E9 ⊢
     rw [hx] at E1
     have e2:=err_back (to_value d _ _) ew
     obtain ⟨hn,E2,g2,hp2⟩:=eats_name g1 e2
     have l2:=E2.1
     obtain ⟨a,BA,hv,ga,fa,E3,ta,g3⟩:=value_ok hM (s := { (⟨7,⟨#[]⟩,[],0,[],[],r.here.at_⟩:Stm) with name:=bstr r.next.name.1 }) g2 (by omega) ew
     rw [hv]
     refine ⟨r.next.name.1.length+BA+4,.inr (.inr (.inr (.inr (.inr (.inr (.inr (.inl ⟨rfl,hn,⟨a,rfl,ga⟩,rfl,rfl,rfl⟩))))))),fit_flat (by omega) (one_fit fa) rfl rfl,(E1.trans (E2.trans (E3.trans E9))).less (by omega) (by simp [kAdd];omega),fun j hj=>?_⟩
     obtain ⟨j,rfl,hj'⟩:=succ_of hj
     rw [stext_7 M j d _ rfl]
     have x0:=ep0 ta []
     simp only [valueT,List.length_append,tabsL,bysL,List.length_cons,List.length_nil,List.nil_append,sAdd]
     omega
   · rw [simple_8 _ _ _ _ rfl] at ew E9 ⊢
     rw [hx] at E1
     refine ⟨6,.inr (.inr (.inr (.inr (.inr (.inr (.inr (.inr (.inl ⟨rfl,rfl,rfl,rfl,rfl,rfl⟩)))))))),fit_flat (by omega) (by simp) rfl rfl,(E1.trans E9).less (by omega) (by simp [kFence]),fun j hj=>?_⟩
     obtain ⟨j,rfl,hj'⟩:=succ_of hj
     rw [stext_8 M j d _ rfl]
     simp only [lineT,List.length_append,tabsL,List.length_cons,List.length_nil,sFence]
     omega
   · rw [simple_9 _ _ _ _ rfl] at ew E9 ⊢
     rw [hx] at E1
     obtain ⟨a,BA,hv,ga,fa,E3,ta,g3⟩:=value_ok hM (s:=(⟨9,⟨#[]⟩,[],0,[],[],r.here.at_⟩:Stm)) g1 l1 ew
     rw [hv]
     refine ⟨BA+7,.inr (.inr (.inr (.inr (.inr (.inr (.inr (.inr (.inr ⟨rfl,rfl,⟨a,rfl,ga⟩,rfl,rfl,rfl⟩)))))))),fit_flat (by omega) (one_fit fa) rfl rfl,(E1.trans (E3.trans E9)).less (by omega) (by simp [kOutput];omega),fun j hj=>?_⟩
     obtain ⟨j,rfl,hj'⟩:=succ_of hj
     rw [stext_9 M j d _ (by simp) (by simp) (by simp) (by simp) (by simp) (by simp) (by simp) (by simp) (by simp)]
     have x0:=ep0 ta []
     simp only [valueT,List.length_append,tabsL,List.length_cons,List.length_nil,List.nil_append,sOutput]
     omega
theorem stP_ok {M:Nat} (hM:65537<=M):∀ f,StOK M f (stP f)
 | 0=>fun d r _ _ he=>by
   have he':(if (kindP r.here).isNone then r.fail 2 else r.fail 6).err=none:=he
   split at he' <;> exact (fail_no he').elim
 | f+1=>stmt_ok hM (to_block (to_st f)) (sf_block (sf_st f)) (block_ok (to_st f) (sf_st f) (stP_ok hM f))
end Go.Proofs.YtlepckjmdjjolaaGreatDoor.Pr
