/- Own texts laid together: FlMade, FlMadeS, FlMadeP. Conditions: as each theorem says. -/
import Derived.Test.YtlepckjmdjjolaaGreatDoorGFlA
import Derived.Test.YtlepckjmdjjolaaGreatDoorGMakeP
set_option linter.unusedVariables false
set_option linter.unusedSimpArgs false
namespace Go.Proofs.YtlepckjmdjjolaaGreatDoor.Fl
open Sc (Mng mnone put localM putAll Dc declM bad meansOf firstBad none0)
def xn (k j:Nat):ByteArray:=⟨#[120,digitB k,digitB (j / 10),digitB j]⟩
theorem digit_inj {a b:Nat} (h:digitB a=digitB b):a % 10=b % 10:=by
 unfold digitB at h
 have e:(UInt8.ofNat (48+a % 10)).toNat=(UInt8.ofNat (48+b % 10)).toNat:=by rw [h]
 rw [UInt8.toNat_ofNat_of_lt' (show 48+a % 10<UInt8.size by have:=Nat.mod_lt a (show 0<10 by decide);show _<256;omega),UInt8.toNat_ofNat_of_lt' (show 48+b % 10<UInt8.size by have:=Nat.mod_lt b (show 0<10 by decide);show _<256;omega)] at e
 omega
theorem xn_inj {k i j:Nat} (hi:i<100) (hj:j<100) (h:xn k i=xn k j):i=j:=by
 unfold xn at h
 simp only [ByteArray.mk.injEq,Array.mk.injEq,List.cons.injEq,and_true,true_and] at h
 have a:=digit_inj h.1
 have b:=digit_inj h.2
 omega
theorem xn_ne {k j:Nat} {s:ByteArray} (h:s.data.toList.head?≠some 120):s≠xn k j:=fun e=>h (by rw [e];rfl)
def Two (S l:Int):Prop:=l=0\/l=S
theorem two_join {S a b:Int} (hS:S=0\/S=1) (ha:Two S a) (hb:Two S b):Two S (joinI a b):=by
 unfold Two joinI at *
 split <;> omega
theorem join_zero:joinI 0 0=0:=by decide
structure Glob (S:Int) (f0:ByteArray->Mng) (k:Nat):Prop where
 p:(f0 ⟨#[112,digitB k]⟩).kind=2/\(f0 ⟨#[112,digitB k]⟩).label=0
 q:(f0 ⟨#[113,digitB k]⟩).kind=3/\(f0 ⟨#[113,digitB k]⟩).label=0/\(f0 ⟨#[113,digitB k]⟩).count=4
 s:(f0 ⟨#[115,digitB k]⟩).kind=2/\(f0 ⟨#[115,digitB k]⟩).label=S
 t:(f0 ⟨#[116,digitB k]⟩).kind=3/\(f0 ⟨#[116,digitB k]⟩).label=S/\(f0 ⟨#[116,digitB k]⟩).count=4
 sh:(f0 sharedS).kind=2/\(f0 sharedS).label=0
 hd:(f0 hiddenS).kind=2/\(f0 hiddenS).label=S
 ct:(f0 countS).kind=2/\(f0 countS).label=0
 dr:(f0 doorS).kind=1
structure Inv (S:Int) (f0:ByteArray->Mng) (E:Env) (st:St):Prop where
 ls:st.ls=E.loc
 nm:∀ i,i<E.loc.length->E.loc.getD i ⟨#[]⟩=xn E.thread i
 len:E.loc.length<=90+E.deep
 dp:E.deep<=4
 full:fullE E
 loc:∀ i,i<E.loc.length->(0<E.cnt.getD i 0->st.f (xn E.thread i)=⟨5,0,E.cnt.getD i 0,⟨#[]⟩⟩)/\(¬ 0<E.cnt.getD i 0->(st.f (xn E.thread i)).kind=4/\Two S (st.f (xn E.thread i)).label/\(E.sec.getD i false=false->(st.f (xn E.thread i)).label=0))
 fresh:∀ j,E.loc.length<=j->j<100->st.f (xn E.thread j)=mnone
 base:∀ t,(∀ j,j<100->t≠xn E.thread j)->st.f t=f0 t
 gl:Glob S f0 E.thread
theorem Inv.at {S:Int} {f0:ByteArray->Mng} {E:Env} {st:St} (h:Inv S f0 E st) {s:ByteArray} (hs:s.data.toList.head?≠some 120):st.f s=f0 s:=h.base s fun j _=>xn_ne hs
theorem dig_ne {c:UInt8} {E:Env} (h:c≠120):(dig c E).data.toList.head?≠some 120:=by
 show some c≠some 120
 exact fun e=>h (Option.some.inj e)
theorem nameP_shared {f:ByteArray->Mng} {s:ByteArray} (h:(f s).kind=2):nameP f s 0=.ok (f s).label:=by unfold nameP;rw [if_pos (.inl h)]
theorem local_label {S:Int} {f0:ByteArray->Mng} {E:Env} {st:St} (h:Inv S f0 E st) (i:Nat) (hi:i<E.loc.length):nameP st.f (E.loc.getD i ⟨#[]⟩) 0=.ok (st.f (xn E.thread i)).label/\Two S (st.f (xn E.thread i)).label/\(E.sec.getD i false=false->(st.f (xn E.thread i)).label=0):=by
 rw [h.nm i hi]
 obtain ⟨h1,h2⟩:=h.loc i hi
 by_cases hc:0<E.cnt.getD i 0
 · have e:=h1 hc
   rw [e]
   refine ⟨?_,.inl rfl,fun _=>rfl⟩
   unfold nameP
   rw [e]
   rfl
 · obtain ⟨a,b,c⟩:=h2 hc
   refine ⟨?_,b,c⟩
   unfold nameP
   rw [if_pos (.inr (.inl a))]
theorem label_lit (f:ByteArray->Mng) (N v:Nat):labelP f N (litT v)=.ok 0:=by
 cases N <;> simp [labelP,litT]
theorem label_name {f:ByteArray->Mng} {s:ByteArray} {l:Int} (h:nameP f s 0=.ok l) (N:Nat):labelP f (N+1) (nameT s)=.ok l:=by
 simp [labelP,nameT,h]
theorem label_bin {f:ByteArray->Mng} {N:Nat} {o:Int} {x y:Tree} {a b:Int} (hx:labelP f N x=.ok a) (hy:labelP f N y=.ok b):labelP f (N+1) (binT o x y)=.ok (joinI (joinI 0 a) b):=by
 simp [labelP,binT,allP,hx,hy]
theorem label_not {f:ByteArray->Mng} {N:Nat} {x:Tree} {a:Int} (hx:labelP f N x=.ok a):labelP f (N+1) (notT x)=.ok (joinI 0 a):=by
 simp [labelP,notT,allP,hx]
theorem label_pick {f:ByteArray->Mng} {N:Nat} {x y z:Tree} {a b c:Int} (hx:labelP f N x=.ok a) (hy:labelP f N y=.ok b) (hz:labelP f N z=.ok c):labelP f (N+1) (pickT x y z)=.ok (joinI (joinI (joinI 0 a) b) c):=by
 simp [labelP,pickT,allP,hx,hy,hz]
theorem cell_ok {f:ByteArray->Mng} {L:Tree->Except Er Int} {B:Tree->Int} {s:ByteArray} {x:Tree} {l:Int} (hk:(f s).kind=3) (hl:(f s).label=l) (hc:(f s).count=4) (hx:L x=.ok 0) (hb:B x<4):cellP f L B s [x] 0=.ok l:=by
 unfold cellP
 simp only [hk,hx,hc,hl,if_true]
 rw [if_neg (by decide),if_neg (by omega)]
theorem label_cell {f:ByteArray->Mng} {N:Nat} {s:ByteArray} {x:Tree} {l:Int} (h:cellP f (labelP f N) (boundP f N) s [x] 0=.ok l):labelP f (N+1) (cellT s x)=.ok l:=by
 simp [labelP,cellT,h]
theorem counter_at {E:Env} : ∀ (n:Nat) (s:ByteArray),n<=E.loc.length->counterUpto E n=some s->∃ i,i<E.loc.length/\s=E.loc.getD i ⟨#[]⟩/\0<E.cnt.getD i 0/\E.cnt.getD i 0<=4
 | 0,s,_,h=>by simp [counterUpto] at h
 | n+1,s,hn,h=>by
   unfold counterUpto at h
   split at h
   · rename_i hc
     exact ⟨n,by omega,by simpa using h.symm,hc.1,hc.2⟩
   · exact counter_at n s (by omega) h
theorem mbound_name (f:ByteArray->Mng) (s:ByteArray) (M:Nat):boundP f (M+1) (nameT s)=if (f s).kind=5 then min ((f s).count-1) 1073741824 else 1073741824:=by simp [boundP,nameT];rfl
theorem place_ty {S:Int} {f0:ByteArray->Mng} {E:Env} {st:St} (h:Inv S f0 E st) {pub:Nat->List UInt8->Tree × List UInt8} {deep N:Nat} (hp:∀ ns,labelP st.f N (pub (deep+1) ns).1=.ok 0) (ns:List UInt8):
    labelP st.f (N+1) (placeM pub E deep ns).1=.ok 0/\boundP st.f (N+2) (placeM pub E deep ns).1<4/\boundP st.f (N+1) (placeM pub E deep ns).1<4\/N=0:=by
 by_cases hN:N=0
 · exact .inr hN
 left
 have lit:∀ v,v<4->labelP st.f (N+1) (litT v)=.ok 0/\boundP st.f (N+2) (litT v)<4/\boundP st.f (N+1) (litT v)<4:=fun v hv=>⟨label_lit _ _ _,by simp only [boundP,litT,if_true];omega,by simp only [boundP,litT,if_true];omega⟩
 unfold placeM
 split
 · split
   · rename_i s hs
     obtain ⟨i,hi,rfl,h0,h4⟩:=counter_at _ _ (Nat.le_refl _) hs
     have e:=(h.loc i hi).1 h0
     obtain ⟨a,_,_⟩:=local_label h i hi
     rw [e] at a
     refine ⟨label_name a N,?_,?_⟩
     · show boundP st.f (N+2) (nameT _)<4
       rw [mbound_name,h.nm i hi,e,if_pos rfl]
       show min (E.cnt.getD i 0-1) 1073741824<4
       omega
     · show boundP st.f (N+1) (nameT _)<4
       rw [mbound_name,h.nm i hi,e,if_pos rfl]
       show min (E.cnt.getD i 0-1) 1073741824<4
       omega
   · exact lit _ (nxV_lt _ _ (by decide))
 · split
   · have hl:∀ M,boundP st.f (M+1) (litT 3)=3:=fun M=>by simp [boundP,litT];omega
     refine ⟨by rw [label_bin (hp _) (label_lit _ _ _)];rfl,?_,?_⟩
     · show boundP st.f (N+2) (binT 3 _ (litT 3))<4
       have e:boundP st.f (N+2) (binT 3 (pub (deep+1) ns.tail).1 (litT 3))=min (boundP st.f (N+1) (pub (deep+1) ns.tail).1) (boundP st.f (N+1) (litT 3)):=by
          simp [boundP,binT,bound2]
       rw [e,hl]
       omega
     · show boundP st.f (N+1) (binT 3 _ (litT 3))<4
       obtain ⟨M,rfl⟩:∃ M,N=M+1:=⟨N-1,by omega⟩
       have e:boundP st.f (M+1+1) (binT 3 (pub (deep+1) ns.tail).1 (litT 3))=min (boundP st.f (M+1) (pub (deep+1) ns.tail).1) (boundP st.f (M+1) (litT 3)):=by
          simp [boundP,binT,bound2]
       rw [e,hl]
       omega
   · exact lit _ (nxV_lt _ _ (by decide))
def dpt (deep:Nat):Nat:=2*(4-deep)+3
theorem ty_ite {f:ByteArray->Mng} {N:Nat} {P:Int->Prop} {c:Prop} [Decidable c] {x y:Tree × List UInt8} (h1:c->∃ l,labelP f N x.1=.ok l/\P l) (h2:¬ c->∃ l,labelP f N y.1=.ok l/\P l):∃ l,labelP f N (if c then x else y).1=.ok l/\P l:=by
 by_cases h:c
 · rw [if_pos h];exact h1 h
 · rw [if_neg h];exact h2 h
theorem pub_ty {S:Int} {f0:ByteArray->Mng} {E:Env} {st:St} (h:Inv S f0 E st):∀ (f deep N:Nat) (ns:List UInt8),dpt deep<=N->∃ l,labelP st.f N (pubM E f deep ns).1=.ok l/\l=0
 | 0,deep,N,ns,_=>⟨0,label_lit _ _ _,rfl⟩
 | f+1,deep,N,ns,hN=>by
   have ih:=pub_ty h f
   have hg:=h.gl
   unfold pubM
   refine ty_ite (fun _=>⟨0,label_lit _ _ _,rfl⟩) fun h0=>?_
   have h3:¬ 3<deep:=fun h'=>h0 (.inl h')
   obtain ⟨M,rfl⟩:∃ M,N=M+2:=⟨N-2,by unfold dpt at hN;omega⟩
   have hM:dpt (deep+1)<=M:=by unfold dpt at *;omega
   have hM1:dpt (deep+1)<=M+1:=by omega
   have bin:∀ ns,∃ l,labelP st.f (M+2) (binM (pubM E f) deep ns).1=.ok l/\l=0:=fun ns=>by
    obtain ⟨_,a,rfl⟩:=ih (deep+1) (M+1) ns.tail hM1
    obtain ⟨_,b,rfl⟩:=ih (deep+1) (M+1) ((pubM E f) (deep+1) ns.tail).2 hM1
    exact ⟨_,label_bin a b,rfl⟩
   refine ty_ite (fun _=>⟨0,label_name (by rw [nameP_shared (by rw [h.at (dig_ne (by decide))];exact hg.p.1),h.at (dig_ne (by decide))];exact congrArg _ hg.p.2) _,rfl⟩) fun _=>ty_ite (fun _=>⟨0,label_name (by rw [nameP_shared (by rw [h.at (by decide)];exact hg.sh.1),h.at (by decide)];exact congrArg _ hg.sh.2) _,rfl⟩) fun _=>ty_ite (fun _=>?_) fun _=>ty_ite (fun hl=>ty_ite (fun hs=>?_) fun _=>bin _) fun _=>ty_ite (fun _=>?_) fun _=>bin _
   · refine ⟨0,label_cell ?_,rfl⟩
     have hd:dpt (deep+1) ≥ 3:=by unfold dpt;omega
     obtain ⟨a,b,c⟩:=(place_ty h (pub:=pubM E f) (deep:=deep) (N:=M) (fun ns=>by obtain ⟨_,a,rfl⟩:=ih (deep+1) M ns hM;exact a) ns.tail).resolve_right (by omega)
     have e:=h.at (s:=dig 113 E) (dig_ne (by decide))
     exact cell_ok (by rw [e];exact hg.q.1) (by rw [e];exact hg.q.2.1) (by rw [e];exact hg.q.2.2) a c
   · obtain ⟨a,b,c⟩:=local_label h (nxV ns.tail E.loc.length) (nxV_lt _ _ hl.2)
     exact ⟨_,label_name a _,c hs⟩
   · obtain ⟨_,a,rfl⟩:=ih (deep+1) (M+1) ns.tail hM1
     exact ⟨_,label_not a,rfl⟩
theorem sec_ty {S:Int} {f0:ByteArray->Mng} {E:Env} {st:St} (hS:S=0\/S=1) (h:Inv S f0 E st):∀ (f deep N:Nat) (ns:List UInt8),dpt deep<=N->∃ l,labelP st.f N (secM E f deep ns).1=.ok l/\Two S l
 | 0,deep,N,ns,hN=>by
   obtain ⟨_,a,rfl⟩:=pub_ty h 0 (deep+1) N ns.tail (by unfold dpt at *;omega)
   exact ⟨0,a,.inl rfl⟩
 | f+1,deep,N,ns,hN=>by
   have ih:=sec_ty hS h f
   have hg:=h.gl
   unfold secM
   refine ty_ite (fun _=>?_) fun h0=>?_
   · obtain ⟨_,a,rfl⟩:=pub_ty h f (deep+1) N ns.tail (by unfold dpt at *;omega)
     exact ⟨0,a,.inl rfl⟩
   have h3:¬ 3<deep:=fun h'=>h0 (.inl h')
   obtain ⟨M,rfl⟩:∃ M,N=M+2:=⟨N-2,by unfold dpt at hN;omega⟩
   have hM:dpt (deep+1)<=M:=by unfold dpt at *;omega
   have hM1:dpt (deep+1)<=M+1:=by omega
   have z:Two S 0:=.inl rfl
   refine ty_ite (fun _=>⟨S,label_name (by rw [nameP_shared (by rw [h.at (dig_ne (by decide))];exact hg.s.1),h.at (dig_ne (by decide))];exact congrArg _ hg.s.2) _,.inr rfl⟩) fun _=>ty_ite (fun _=>?_) fun _=>ty_ite (fun _=>⟨S,label_name (by rw [nameP_shared (by rw [h.at (by decide)];exact hg.hd.1),h.at (by decide)];exact congrArg _ hg.hd.2) _,.inr rfl⟩) fun _=>ty_ite (fun hl=>?_) fun _=>ty_ite (fun _=>?_) fun _=>?_
   · refine ⟨S,label_cell ?_,.inr rfl⟩
     have hd:dpt (deep+1) ≥ 3:=by unfold dpt;omega
     obtain ⟨a,b,c⟩:=(place_ty h (pub:=pubM E f) (deep:=deep) (N:=M) (fun ns=>by obtain ⟨_,a,rfl⟩:=pub_ty h f (deep+1) M ns hM;exact a) ns.tail).resolve_right (by omega)
     have e:=h.at (s:=dig 116 E) (dig_ne (by decide))
     exact cell_ok (by rw [e];exact hg.t.1) (by rw [e];exact hg.t.2.1) (by rw [e];exact hg.t.2.2) a c
   · obtain ⟨a,b,c⟩:=local_label h (nxV ns.tail E.loc.length) (nxV_lt _ _ hl.2)
     exact ⟨_,label_name a _,b⟩
   · obtain ⟨_,a,ta⟩:=ih (deep+1) (M+1) ns.tail hM1
     obtain ⟨_,b,tb⟩:=ih (deep+1) (M+1) (secM E f (deep+1) ns.tail).2 hM1
     obtain ⟨_,c,tc⟩:=ih (deep+1) (M+1) (secM E f (deep+1) (secM E f (deep+1) ns.tail).2).2 hM1
     exact ⟨_,label_pick a b c,two_join hS (two_join hS (two_join hS z ta) tb) tc⟩
   · obtain ⟨_,a,ta⟩:=ih (deep+1) (M+1) ns.tail.tail hM1
     obtain ⟨_,b,tb⟩:=ih (deep+1) (M+1) ((secM E f) (deep+1) ns.tail.tail).2 hM1
     exact ⟨_,label_bin a b,two_join hS (two_join hS z ta) tb⟩
theorem putAll_out:∀ (ss:List ByteArray) (f:ByteArray->Mng) (t:ByteArray),t ∉ ss->putAll f ss t=f t
 | [],f,t,_=>rfl
 | s :: ss,f,t,h=>by
   have ih:=putAll_out ss (put f s mnone) t fun h'=>h (List.mem_cons_of_mem _ h')
   show putAll (put f s mnone) ss t=_
   rw [ih,Sc.put_ne _ _ _ _ (fun e=>h (by rw [e];exact List.mem_cons_self))]
theorem putAll_in:∀ (ss:List ByteArray) (f:ByteArray->Mng) (t:ByteArray),t ∈ ss->putAll f ss t=mnone
 | [],f,t,h=>by cases h
 | s :: ss,f,t,h=>by
   show putAll (put f s mnone) ss t=_
   by_cases h1:t ∈ ss
   · exact putAll_in ss _ t h1
   · rcases List.mem_cons.1 h with rfl | h2
     · rw [putAll_out ss _ t h1,Sc.put_same]
     · exact absurd h2 h1
theorem seq_append (R:St->Int->Stm->Except Er St) (pc:Int):∀ (a b:List Stm) (st st':St),seqP R pc st a=.ok st'->seqP R pc st (a++b)=seqP R pc st' b
 | [],b,st,st',h=>by simp [seqP] at h;subst h;rfl
 | s :: a,b,st,st',h=>by
   simp only [seqP,List.cons_append] at h ⊢
   split at h
   · cases h
   · exact seq_append R pc a b _ _ h
theorem seq_one {R:St->Int->Stm->Except Er St} {pc:Int} {st st':St} {s:Stm} (h:R st pc s=.ok st'):seqP R pc st [s]=.ok st':=by simp [seqP,h]
theorem Inv.deep {S:Int} {f0:ByteArray->Mng} {E:Env} {st:St} (h:Inv S f0 E st) (d:Nat) (hd:d<=4) (hl:E.loc.length<=90+d):Inv S f0 { E with deep:=d } st:=⟨h.ls,h.nm,hl,hd,h.full,h.loc,h.fresh,h.base,h.gl⟩
theorem Inv.held {S:Int} {f0:ByteArray->Mng} {E:Env} {st:St} (h:Inv S f0 E st) (b:Bool):Inv S f0 { E with held:=b } st:=⟨h.ls,h.nm,h.len,h.dp,h.full,h.loc,h.fresh,h.base,h.gl⟩
theorem getD_snoc {α : Type} (l:List α) (x d : α) (i:Nat):(l++[x]).getD i d=if i<l.length then l.getD i d else if i=l.length then x else d:=by
 by_cases h:i<l.length
 · rw [if_pos h];simp [List.getD,List.getElem?_append_left h]
 · rw [if_neg h]
   by_cases h2:i=l.length
   · subst h2;simp [List.getD]
   · rw [if_neg h2];simp [List.getD,List.getElem?_append_right (Nat.le_of_not_lt h),List.getElem?_eq_none (show [x].length<=i-l.length by simp;omega)]
theorem enter_inv {S:Int} {f0:ByteArray->Mng} {E:Env} {st:St} (h:Inv S f0 E st) (sec:Bool) (l c:Int) (d:Nat) (hd:d<=4) (hl:E.loc.length+1<=90+d) (hc:¬ 0<c->c=0/\Two S l/\(sec=false->l=0)) (h0:0<c->l=0):
    ∃ st',enterP st (nameX E) l c=some st'/\Inv S f0 { enterE E sec c with deep:=d } st':=by
 have hn:nameX E=xn E.thread E.loc.length:=rfl
 have hlen:E.loc.length<100:=by have:=h.len;have:=h.dp;omega
 have hfr:=h.fresh E.loc.length (Nat.le_refl _) hlen
 refine ⟨⟨put st.f (nameX E) (localM l c),st.ls++[nameX E]⟩,?_,?_⟩
 · unfold enterP
   rw [hn,hfr]
   exact if_pos rfl
 · have hf:∀ t,t≠xn E.thread E.loc.length->put st.f (nameX E) (localM l c) t=st.f t:=fun t ht=>Sc.put_ne _ _ _ _ ht
   have hfx:put st.f (nameX E) (localM l c) (xn E.thread E.loc.length)=localM l c:=Sc.put_same _ _ _
   have hll:(E.loc++[nameX E]).length=E.loc.length+1:=by simp
   refine ⟨by show st.ls++[nameX E]=E.loc++[nameX E];rw [h.ls],fun i hi=>?_,?_,hd,enter_full h.full sec c,fun i hi=>?_,fun j hj hj2=>?_,fun t ht=>?_,h.gl⟩
   · show (E.loc++[nameX E]).getD i ⟨#[]⟩=xn E.thread i
     have hi':i<(E.loc++[nameX E]).length:=hi
     rw [hll] at hi'
     rw [getD_snoc]
     by_cases e:i<E.loc.length
     · rw [if_pos e];exact h.nm i e
     · obtain rfl:i=E.loc.length:=by omega
       rw [if_neg e,if_pos rfl];rfl
   · show (E.loc++[nameX E]).length<=90+d
     omega
   · have hi':i<(E.loc++[nameX E]).length:=hi
     rw [hll] at hi'
     show (0<(E.cnt++[c]).getD i 0->put st.f (nameX E) (localM l c) (xn E.thread i)=⟨5,0,(E.cnt++[c]).getD i 0,⟨#[]⟩⟩)/\(¬ 0<(E.cnt++[c]).getD i 0->(put st.f (nameX E) (localM l c) (xn E.thread i)).kind=4/\Two S (put st.f (nameX E) (localM l c) (xn E.thread i)).label/\((E.sec++[sec]).getD i false=false->(put st.f (nameX E) (localM l c) (xn E.thread i)).label=0))
     rw [getD_snoc,getD_snoc,h.full.1,h.full.2]
     by_cases e:i<E.loc.length
     · have hne:xn E.thread i≠xn E.thread E.loc.length:=fun e2=>by have:=xn_inj (by omega) hlen e2;omega
       rw [if_pos e,if_pos e,hf _ hne]
       exact h.loc i e
     · obtain rfl:i=E.loc.length:=by omega
       rw [if_neg e,if_pos rfl,if_neg e,if_pos rfl,hfx]
       unfold localM
       refine ⟨fun hp=>by rw [if_pos hp,h0 hp],fun hp=>?_⟩
       obtain ⟨_,a,b⟩:=hc hp
       rw [if_neg hp]
       exact ⟨rfl,a,b⟩
   · have hj':(E.loc++[nameX E]).length<=j:=hj
     rw [hll] at hj'
     show put st.f (nameX E) (localM l c) (xn E.thread j)=mnone
     rw [hf _ (fun e=>by have:=xn_inj hj2 hlen e;omega)]
     exact h.fresh j (by omega) hj2
   · show put st.f (nameX E) (localM l c) t=f0 t
     rw [hf t (ht _ hlen)]
     exact h.base t ht
theorem leave_inv {S:Int} {f0:ByteArray->Mng} {E E':Env} {st':St} (hf:fullE E) (hg:growE E E') (h:Inv S f0 E' st'):Inv S f0 E (leaveP st' E.loc.length):=by
 obtain ⟨g1,g2,g3,l,s,c,g4,g5,g6,g7,g8⟩:=hg
 have hth:E'.thread=E.thread:=g2
 have hlen:E'.loc.length=E.loc.length+l.length:=by rw [g4];simp
 have h100:E'.loc.length<100:=by have:=h.len;have:=h.dp;omega
 have hls:st'.ls=E.loc++l:=by rw [h.ls,g4]
 have key:(leaveP st' E.loc.length).ls=E.loc/\(∀ t,t ∈ l->(leaveP st' E.loc.length).f t=mnone)/\∀ t,t ∉ l->(leaveP st' E.loc.length).f t=st'.f t:=by
    unfold leaveP
    by_cases hm:E.loc.length<st'.ls.length
    · rw [if_pos hm]
      have hd:st'.ls.drop E.loc.length=l:=by rw [hls];simp
      refine ⟨by show st'.ls.take E.loc.length=E.loc;rw [hls];simp,fun t ht=>?_,fun t ht=>?_⟩
      · show putAll st'.f (st'.ls.drop E.loc.length) t=_
        rw [hd];exact putAll_in _ _ _ ht
      · show putAll st'.f (st'.ls.drop E.loc.length) t=_
        rw [hd];exact putAll_out _ _ _ ht
    · rw [if_neg hm]
      have hl0:l=[]:=by
        rw [hls] at hm
        simp at hm
        exact hm
      subst hl0
      exact ⟨by rw [hls];simp,fun t ht=>(by cases ht),fun t _=>rfl⟩
 obtain ⟨k1,k2,k3⟩:=key
 have inl:∀ t,t ∈ l->∃ i,E.loc.length<=i/\i<E'.loc.length/\t=xn E.thread i:=fun t ht=>by
    obtain ⟨q,hq,rfl⟩:=List.getElem_of_mem ht
    refine ⟨E.loc.length+q,by omega,by omega,?_⟩
    have:=h.nm (E.loc.length+q) (by omega)
    rw [hth,g4] at this
    rw [<- this]
    simp [List.getD,List.getElem?_append_right]
    rw [List.getElem?_eq_getElem hq]
    rfl
 have inl2:∀ i,E.loc.length<=i->i<E'.loc.length->xn E.thread i ∈ l:=fun i h1 h2=>by
    have:=h.nm i h2
    rw [hth,g4] at this
    rw [<- this]
    have hq:i-E.loc.length<l.length:=by omega
    have e:(E.loc++l).getD i ⟨#[]⟩=l[i-E.loc.length]:=by
     simp [List.getD,List.getElem?_append_right h1,List.getElem?_eq_getElem hq]
    rw [e]
    exact List.getElem_mem hq
 have no:∀ i,i<E.loc.length->xn E.thread i ∉ l:=fun i hi hm=>by
    obtain ⟨j,h1,h2,e⟩:=inl _ hm
    have:=xn_inj (by omega) (by omega) e
    omega
 refine ⟨k1,fun i hi=>?_,by have:=h.len;rw [g3] at this;omega,by have:=h.dp;rw [g3] at this;exact this,hf,fun i hi=>?_,fun j hj hj2=>?_,fun t ht=>?_,by have:=h.gl;rw [hth] at this;exact this⟩
 · have:=h.nm i (by omega)
   rw [hth,g4] at this
   rw [<- this]
   simp [List.getD,List.getElem?_append_left hi]
 · rw [k3 _ (no i hi)]
   have:=h.loc i (by omega)
   rw [hth,g5,g6] at this
   have e1:(E.cnt++c).getD i 0=E.cnt.getD i 0:=by simp [List.getD,List.getElem?_append_left (show i<E.cnt.length by rw [hf.2];exact hi)]
   have e2:(E.sec++s).getD i false=E.sec.getD i false:=by simp [List.getD,List.getElem?_append_left (show i<E.sec.length by rw [hf.1];exact hi)]
   rw [e1,e2] at this
   exact this
 · by_cases hin:j<E'.loc.length
   · rw [k2 _ (inl2 j hj hin)]
   · rw [k3 _ (fun hm=>by obtain ⟨i,h1,h2,e⟩:=inl _ hm;have:=xn_inj hj2 (by omega) e;omega)]
     have:=h.fresh j (by omega) hj2
     rwa [hth] at this
 · rw [k3 _ (fun hm=>by obtain ⟨i,h1,h2,e⟩:=inl _ hm;exact ht i (by omega) e)]
   exact h.base t fun j hj=>by rw [hth];exact ht j hj
def TyS (S:Int) (f0:ByteArray->Mng) (n:Nat) (pc:Int) (st:St) (x:Mk):Prop:=∃ st',seqP (stmtP 13 n) pc st x.1=.ok st'/\Inv S f0 x.2.1 st'
theorem tyS_ite {S:Int} {f0:ByteArray->Mng} {n:Nat} {pc:Int} {st:St} {c:Prop} [Decidable c] {x y:Mk} (h1:c->TyS S f0 n pc st x) (h2:¬ c->TyS S f0 n pc st y):TyS S f0 n pc st (if c then x else y):=by
 by_cases h:c
 · rw [if_pos h];exact h1 h
 · rw [if_neg h];exact h2 h
theorem loop_ty {S:Int} {f0:ByteArray->Mng} {n:Nat} {pc:Int} {stM:Bool->Env->List UInt8->Mk} {inside:Bool} (h:∀ E ns st,Inv S f0 E st->TyS S f0 n pc st (stM inside E ns)):∀ (j:Nat) (E:Env) (ns:List UInt8) (st:St),Inv S f0 E st->TyS S f0 n pc st (loopM stM inside j E ns)
 | 0,E,ns,st,hI=>⟨st,rfl,hI⟩
 | j+1,E,ns,st,hI=>by
   obtain ⟨st1,e1,h1⟩:=loop_ty h j E ns st hI
   obtain ⟨st2,e2,h2⟩:=h _ (loopM stM inside j E ns).2.2 st1 h1
   exact ⟨st2,(seq_append _ _ _ _ _ _ e1).trans e2,h2⟩
theorem block_ty {S:Int} {f0:ByteArray->Mng} {n:Nat} {pc:Int} {stM:Bool->Env->List UInt8->Mk} {inside:Bool} (hg:∀ E ns,fullE E->growE E (stM inside E ns).2.1) (h:∀ E ns st,Inv S f0 E st->TyS S f0 n pc st (stM inside E ns)) {E:Env} {st:St} (ns:List UInt8) (hI:Inv S f0 { E with deep:=E.deep+1 } st):
    ∃ st',blkP (stmtP 13 n) st pc (blockM stM inside E ns).1=.ok st'/\Inv S f0 { E with deep:=E.deep+1 } st':=by
 obtain ⟨st1,e1,h1⟩:=loop_ty h (nxV ns 5+1) { E with deep:=E.deep+1 } ns.tail st hI
 have g:=loop_grow hg (nxV ns 5+1) { E with deep:=E.deep+1 } ns.tail hI.full
 refine ⟨leaveP st1 st.ls.length,?_,?_⟩
 · have e:(blockM stM inside E ns).1=(loopM stM inside (nxV ns 5+1) { E with deep:=E.deep+1 } ns.tail).1:=rfl
   unfold blkP
   rw [e,e1]
 · rw [hI.ls]
   exact leave_inv (E := { E with deep:=E.deep+1 }) hI.full g h1
theorem stmt_0 (m n:Nat) (st:St) (pc:Int) (s:Stm) (h:s.kind=0):stmtP m (n+1) st pc s=localP m st pc s:=by simp [stmtP,h]
theorem stmt_1 (m n:Nat) (st:St) (pc:Int) (s:Stm) (h:s.kind=1):stmtP m (n+1) st pc s=assignP m st pc s:=by simp [stmtP,h]
theorem stmt_2 (m n:Nat) (st:St) (pc:Int) (s:Stm) (h:s.kind=2):stmtP m (n+1) st pc s=storeP m st pc s:=by simp [stmtP,h]
theorem stmt_3 (m n:Nat) (st:St) (pc:Int) (s:Stm) (h:s.kind=3):stmtP m (n+1) st pc s=choiceP m (stmtP m n) st pc s:=by simp [stmtP,h]
theorem stmt_4 (m n:Nat) (st:St) (pc:Int) (s:Stm) (h:s.kind=4):stmtP m (n+1) st pc s=loopP (stmtP m n) st pc s:=by simp [stmtP,h]
theorem stmt_5 (m n:Nat) (st:St) (s:Stm) (h:4<s.kind):stmtP m (n+1) st 0 s=seenP m st s:=by
 simp [stmtP,show ¬ s.kind=0 by omega,show ¬ s.kind=1 by omega,show ¬ s.kind=2 by omega,show ¬ s.kind=3 by omega,show ¬ s.kind=4 by omega]
theorem assign_ok {m:Nat} {st:St} {pc l:Int} {s:Stm} (hv:valueP m st.f s=.ok l) (hk:(st.f s.name).kind=2) (hi:intoP st s (joinI l pc) (st.f s.name).label=.ok st):assignP m st pc s=.ok st:=by
 simp [assignP,hv,hk,hi]
theorem seen_lock {m:Nat} {st:St} {s:Stm} (hk:s.kind=5\/s.kind=6) (h:(st.f s.name).kind=1):seenP m st s=.ok st:=by
 simp [seenP,hk,h]
theorem into_ok {st:St} {s:Stm} {l to:Int} (h:l=0\/to≠0):intoP st s l to=.ok st:=by
 unfold intoP
 rw [if_neg (by omega)]
theorem value_one {m:Nat} {f:ByteArray->Mng} {s:Stm} {e:Tree} {l:Int} (h:s.exprs=[e]) (hl:labelP f m e=.ok l):valueP m f s=.ok l:=by simp [valueP,h,hl]
theorem ty_assign {S:Int} {f0:ByteArray->Mng} {E:Env} {st:St} {pc l:Int} {n:Nat} {s:ByteArray} {e:Tree × List UInt8} (h:Inv S f0 E st) (hk:(st.f s).kind=2) (hl:labelP st.f 13 e.1=.ok l) (hin:joinI l pc=0\/(st.f s).label≠0):TyS S f0 (n+1) pc st (oneM 1 s E e):=by
 refine ⟨st,seq_one ?_,h⟩
 rw [stmt_1 _ _ _ _ _ rfl]
 exact assign_ok (value_one rfl hl) hk (into_ok hin)
theorem ty_store {S:Int} {f0:ByteArray->Mng} {E:Env} {st:St} {pc l to:Int} {n:Nat} {s:ByteArray} {i:Tree} {e:Tree × List UInt8} (h:Inv S f0 E st) (hc:cellP st.f (labelP st.f 13) (boundP st.f 13) s [i] 0=.ok to) (hl:labelP st.f 13 e.1=.ok l) (hin:joinI l pc=0\/to≠0):TyS S f0 (n+1) pc st (storeM s E i e):=by
 refine ⟨st,seq_one ?_,h⟩
 rw [stmt_2 _ _ _ _ _ rfl]
 show (match cellP st.f (labelP st.f 13) (boundP st.f 13) s [i] 0 with | Except.error x=>Except.error x | Except.ok to=>match labelP st.f 13 e.1 with | Except.error x=>Except.error x | Except.ok l=>intoP st _ (joinI l pc) to)=_
 rw [hc,hl]
 exact into_ok hin
theorem ty_local {S:Int} {f0:ByteArray->Mng} {E:Env} {st:St} {pc l:Int} {n:Nat} {sec:Bool} {e:Tree × List UInt8} (h:Inv S f0 E st) (hl90:E.loc.length<90) (hl:labelP st.f 13 e.1=.ok l) (ht:Two S (joinI l pc)) (h0:sec=false->joinI l pc=0):TyS S f0 (n+1) pc st (oneM 0 (nameX E) (enterE E sec 0) e):=by
 obtain ⟨st',e1,h1⟩:=enter_inv h sec (joinI l pc) 0 E.deep h.dp (by omega) (fun _=>⟨rfl,ht,h0⟩) (fun hp=>by omega)
 refine ⟨st',seq_one ?_,h1⟩
 rw [stmt_0 _ _ _ _ _ rfl]
 unfold localP
 rw [value_one rfl hl]
 show (match enterP st (nameX E) (joinI l pc) 0 with | none=>Except.error _ | some st'=>Except.ok st')=_
 rw [e1]
theorem ty_seen {S:Int} {f0:ByteArray->Mng} {E:Env} {st:St} {n:Nat} {s:Stm} {ns:List UInt8} (h:Inv S f0 E st) (hk:4<s.kind) (hs:seenP 13 st s=.ok st):TyS S f0 (n+1) 0 st ([s],E,ns):=by
 refine ⟨st,seq_one ?_,h⟩
 rw [stmt_5 _ _ _ _ hk,hs]
theorem ty_if {S:Int} {f0:ByteArray->Mng} {E:Env} {st:St} {pc l:Int} {n:Nat} {stM:Bool->Env->List UInt8->Mk} {inside:Bool} {e:Tree × List UInt8} (h:Inv S f0 E st) (hd:E.deep<4) (hg:∀ E ns,fullE E->growE E (stM inside E ns).2.1) (hs:∀ E ns st,Inv S f0 E st->TyS S f0 n (joinI pc l) st (stM inside E ns)) (hl:labelP st.f 13 e.1=.ok l):TyS S f0 (n+1) pc st (ifM stM inside E e):=by
 have h1:=h.deep (E.deep+1) (by omega) (by have:=h.len;omega)
 obtain ⟨st1,e1,i1⟩:=block_ty hg hs e.2 h1
 obtain ⟨st2,e2,i2⟩:=block_ty hg hs (blockM stM inside E e.2).2.2 i1
 refine ⟨st2,seq_one ?_,by have:=i2.deep E.deep h.dp h.len;exact this⟩
 rw [stmt_3 _ _ _ _ _ rfl]
 unfold choiceP
 rw [value_one rfl hl]
 show (match blkP (stmtP 13 n) st (joinI pc l) (blockM stM inside E e.2).1 with | Except.error x=>Except.error x | Except.ok st'=>blkP (stmtP 13 n) st' (joinI pc l) (blockM stM inside E (blockM stM inside E e.2).2.2).1)=_
 rw [e1]
 exact e2
theorem ty_for {S:Int} {f0:ByteArray->Mng} {E:Env} {st:St} {pc:Int} {n c:Nat} {stM:Bool->Env->List UInt8->Mk} {inside:Bool} {ns:List UInt8} (h:Inv S f0 E st) (hd:E.deep<4) (hc:0<c) (hg:∀ E ns,fullE E->growE E (stM inside E ns).2.1) (hs:∀ E ns st,Inv S f0 E st->TyS S f0 n pc st (stM inside E ns)):TyS S f0 (n+1) pc st (forM stM inside E c ns):=by
 obtain ⟨st',e1,h1⟩:=enter_inv h false 0 (c:Int) (E.deep+1) (by omega) (by have:=h.len;omega) (fun hp=>absurd (show (0:Int)<c by omega) hp) (fun _=>rfl)
 obtain ⟨st1,e2,i1⟩:=block_ty (E:=enterE E false c) hg hs ns h1
 have hgE:growE { E with deep:=E.deep+1 } { enterE E false (c:Int) with deep:=E.deep+1 } := ⟨rfl,rfl,rfl,[nameX E],[false],[(c:Int)],rfl,rfl,rfl,rfl,rfl⟩
 have i2:=leave_inv (E := { E with deep:=E.deep+1 }) h.full hgE i1
 refine ⟨leaveP st1 st.ls.length,seq_one ?_,by rw [h.ls];have:=i2.deep E.deep h.dp h.len;exact this⟩
 rw [stmt_4 _ _ _ _ _ rfl]
 show (match enterP st (nameX E) 0 (c:Int) with | none=>Except.error _ | some st'=>match blkP (stmtP 13 n) st' pc (blockM stM inside (enterE E false c) ns).1 with | Except.error x=>Except.error x | Except.ok st2=>Except.ok (leaveP st2 st.ls.length))=_
 rw [e1]
 show (match blkP (stmtP 13 n) st' pc (blockM stM inside (enterE E false c) ns).1 with | Except.error x=>Except.error x | Except.ok st2=>Except.ok (leaveP st2 st.ls.length))=_
 rw [e2]
theorem tyS_up {S:Int} {f0:ByteArray->Mng} {n:Nat} {pc:Int} {st:St} {x y:Mk} (h:TyS S f0 n pc st x) (e:x=y):TyS S f0 n pc st y:=e ▸ h
theorem into_two {S l pc:Int} (hS:S=0\/S=1) (hl:Two S l) (hp:Two S pc):joinI l pc=0\/S≠0:=by
 unfold Two joinI at *
 split <;> omega
theorem stmt_ty {S:Int} {f0:ByteArray->Mng} (hS:S=0\/S=1):∀ (f n:Nat) (inside:Bool) (pc:Int) (E:Env) (ns:List UInt8) (st:St),f<=n->Two S pc->(inside=false->pc=0)->Inv S f0 E st->TyS S f0 n pc st (stmtM f inside E ns)
 | 0,n,inside,pc,E,ns,st,_,_,_,h=>⟨st,rfl,h⟩
 | f+1,0,inside,pc,E,ns,st,hn,_,_,h=>by omega
 | f+1,n+1,inside,pc,E,ns,st,hn,hp,hin,h=>by
   have ih:=fun m inside pc E ns st=>stmt_ty (f0:=f0) hS f m inside pc E ns st
   have hg:=fun (inside:Bool) (E:Env) (ns:List UInt8) hf=>stmt_grow f inside E ns hf
   have pub:∀ (deep:Nat) (ns:List UInt8),labelP st.f 13 (pubM E 6 deep ns).1=.ok 0:=fun deep ns=>by
    obtain ⟨l,a,b⟩:=pub_ty h 6 deep 13 ns (by unfold dpt;omega)
    subst b
    exact a
   have gl:=h.gl
   have at2:∀ (c:UInt8),c≠120->st.f (dig c E)=f0 ⟨#[c,digitB E.thread]⟩:=fun c hc=>h.at (dig_ne hc)
   have plc:=fun (ns:List UInt8)=>(place_ty h (pub:=pubM E 5) (deep:=0) (N:=12) (fun ns=>by obtain ⟨_,a,rfl⟩:=pub_ty h 5 1 12 ns (by decide);exact a) ns).resolve_right (by decide)
   show TyS S f0 (n+1) pc st (stmtB (stmtM f) inside E ns)
   unfold stmtB
   refine tyS_ite (fun c=>?_) fun _=>tyS_ite (fun c=>?_) fun _=>tyS_ite (fun _=>?_) fun _=>tyS_ite (fun _=>?_) fun _=>tyS_ite (fun c=>?_) fun _=>tyS_ite (fun c=>?_) fun _=>tyS_ite (fun _=>?_) fun hi=>?_
   · obtain ⟨l,a,b⟩:=sec_ty hS h 6 0 13 ns.tail (by decide)
     exact ty_local h c.2 a (two_join hS b hp) (fun e=>by cases e)
   · have hpc:=hin c.2.2
     subst hpc
     exact ty_local h c.2.1 (pub 0 ns.tail) (.inl rfl) (fun _=>rfl)
   · obtain ⟨l,a,b⟩:=sec_ty hS h 6 0 13 ns.tail (by decide)
     exact ty_assign h (by rw [at2 _ (by decide)];exact gl.s.1) a (by rw [at2 _ (by decide),gl.s.2];exact into_two hS b hp)
   · obtain ⟨l,a,b⟩:=sec_ty hS h 6 0 13 (placeM (pubM E 5) E 0 ns.tail).2 (by decide)
     exact ty_store (to:=S) h (cell_ok (by rw [at2 _ (by decide)];exact gl.t.1) (by rw [at2 _ (by decide)];exact gl.t.2.1) (by rw [at2 _ (by decide)];exact gl.t.2.2) (plc _).1 (plc _).2.2) a (into_two hS b hp)
   · obtain ⟨l,a,b⟩:=sec_ty hS h 6 0 13 ns.tail (by decide)
     exact ty_if h c.2 (hg true) (fun E ns st hI=>ih n true _ E ns st (by omega) (two_join hS hp b) (fun e=>by cases e) hI) a
   · exact ty_for h c.2 (by omega) (hg inside) (fun E ns st hI=>ih n inside pc E ns st (by omega) hp hin hI)
   · obtain ⟨l,a,b⟩:=sec_ty hS h 6 0 13 ns.tail (by decide)
     exact ty_assign h (by rw [at2 _ (by decide)];exact gl.s.1) a (by rw [at2 _ (by decide),gl.s.2];exact into_two hS b hp)
   · have hif:inside=false:=by simpa using hi
     have hpc:=hin hif
     subst hpc
     have pubT:∀ (ns:List UInt8),TyS S f0 (n+1) 0 st (oneM 1 (dig 112 E) E (pubM E 6 0 ns)):=fun ns=>ty_assign h (by rw [at2 _ (by decide)];exact gl.p.1) (pub 0 ns) (.inl rfl)
     refine tyS_ite (fun c=>?_) fun _=>tyS_ite (fun _=>?_) fun _=>tyS_ite (fun c=>?_) fun _=>tyS_ite (fun _=>?_) fun _=>tyS_ite (fun _=>?_) fun _=>tyS_ite (fun _=>?_) fun _=>pubT _
     · exact ty_if h c.2 (hg false) (fun E ns st hI=>ih n false _ E ns st (by omega) (.inl rfl) (fun _=>rfl) hI) (pub 0 ns.tail)
     · exact ty_store (to:=0) h (cell_ok (by rw [at2 _ (by decide)];exact gl.q.1) (by rw [at2 _ (by decide)];exact gl.q.2.1) (by rw [at2 _ (by decide)];exact gl.q.2.2) (plc _).1 (plc _).2.2) (pub 0 _) (.inl rfl)
     · have hE1:=h.held true
       obtain ⟨st1,e1,i1⟩:=loop_ty (fun E ns st hI=>ih (n+1) false 0 E ns st (by omega) (.inl rfl) (fun _=>rfl) hI) (nxV ns.tail 4+1) { E with held:=true } ns.tail.tail st hE1
       obtain ⟨_,v,rfl⟩:=pub_ty i1 6 1 13 (loopM (stmtM f) false (nxV ns.tail 4+1) { E with held:=true } ns.tail.tail).2.2 (by decide)
       have e0:stmtP 13 (n+1) st 0 (stmE 5 doorS [])=.ok st:=by
          rw [stmt_5 _ _ _ _ (by decide)]
          exact seen_lock (.inl rfl) (by show (st.f doorS).kind=1;rw [h.at (by decide)];exact gl.dr)
       have g1:=i1.gl
       have e2:stmtP 13 (n+1) st1 0 (stmE 1 sharedS [(pubM (loopM (stmtM f) false (nxV ns.tail 4+1) { E with held:=true } ns.tail.tail).2.1 6 1 (loopM (stmtM f) false (nxV ns.tail 4+1) { E with held:=true } ns.tail.tail).2.2).1])=.ok st1:=by
          rw [stmt_1 _ _ _ _ _ rfl]
          exact assign_ok (value_one rfl v) (by show (st1.f sharedS).kind=2;rw [i1.at (by decide)];exact g1.sh.1) (into_ok (.inl rfl))
       have e3:stmtP 13 (n+1) st1 0 (stmE 6 doorS [])=.ok st1:=by
          rw [stmt_5 _ _ _ _ (by decide)]
          exact seen_lock (.inr rfl) (by show (st1.f doorS).kind=1;rw [i1.at (by decide)];exact g1.dr)
       refine ⟨st1,?_,i1.held false⟩
       show seqP (stmtP 13 (n+1)) 0 st ([stmE 5 doorS []]++_++[stmE 1 sharedS _,stmE 6 doorS []])=_
       rw [seq_append _ _ _ _ st st1 ((seq_append _ _ _ _ st st (seq_one e0)).trans e1)]
       simp only [seqP,e2,e3]
     · refine ty_seen (s:=stmE 7 countS [_]) h (show (4:Int)<7 by decide) ?_
       have hv:=value_one (m:=13) (f:=st.f) (s:=stmE 7 countS [(pubM E 6 0 ns.tail).1]) rfl (pub 0 ns.tail)
       have hk:(st.f countS).kind=2:=by rw [h.at (by decide)];exact gl.ct.1
       have hi:=into_ok (st:=st) (s:=stmE 7 countS [(pubM E 6 0 ns.tail).1]) (l:=0) (to:=(st.f countS).label) (.inl rfl)
       simp only [stmE] at hv hi
       simp [seenP,stmE,hv,hk,hi]
     · refine ty_seen (s:=stmE 9 ⟨#[]⟩ [_]) h (show (4:Int)<9 by decide) ?_
       have hv:=value_one (m:=13) (f:=st.f) (s:=stmE 9 ⟨#[]⟩ [(pubM E 6 0 ns.tail).1]) rfl (pub 0 ns.tail)
       have hi:=into_ok (st:=st) (s:=stmE 9 ⟨#[]⟩ [(pubM E 6 0 ns.tail).1]) (l:=0) (to:=0) (.inl rfl)
       simp only [stmE] at hv hi
       simp [seenP,stmE,hv,hi]
     · refine ty_seen (s:=stmE 8 ⟨#[]⟩ []) h (by decide) ?_
       simp [seenP,stmE]
def lbl (S:Int) (d:Dcl):Dcl := { d with label:=if d.label=0 then 0 else S }
def declsK (k:Nat):List Dcl:=(threadsM k []).1
theorem threads_decls:∀ (k:Nat) (ns:List UInt8),(threadsM k ns).1=declsK k
 | 0,ns=>rfl
 | k+1,ns=>by
   have ih:=threads_decls k ns
   show (threadsM k ns).1++declsOf k=(threadsM k []).1++declsOf k
   rw [ih];rfl
theorem lbl_one:∀ (k:Nat),(declsK k).map (lbl 1)=declsK k
 | 0=>rfl
 | k+1=>by
   have ih:=lbl_one k
   show ((declsK k)++declsOf k).map (lbl 1)=declsK k++declsOf k
   rw [List.map_append,ih]
   rfl
def f0K (S:Int) (k:Nat):ByteArray->Mng:=meansOf none0 (((declsK k).map (lbl S)).map toDc)
theorem meansOf_other:∀ (ds:List Dc) (f:ByteArray->Mng) (t:ByteArray),(∀ d ∈ ds,t≠d.name)->meansOf f ds t=f t
 | [],f,t,_=>rfl
 | d :: ds,f,t,h=>by
   have ih:=meansOf_other ds (put f d.name (declM d)) t fun x hx=>h x (List.mem_cons_of_mem _ hx)
   show meansOf (put f d.name (declM d)) ds t=f t
   rw [ih,Sc.put_ne _ _ _ _ (h d List.mem_cons_self)]
theorem heads_k:∀ (k:Nat),∀ d ∈ declsK k,d.name.data.toList.head?≠some 120
 | 0=>fun d hd=>by
   have hd':d ∈ decls0:=hd
   simp only [decls0,List.mem_cons,List.not_mem_nil,or_false] at hd'
   rcases hd' with rfl | rfl | rfl | rfl <;> decide
 | k+1=>fun d hd=>by
   have hd':d ∈ declsK k++declsOf k:=hd
   rcases List.mem_append.1 hd' with h | h
   · exact heads_k k d h
   · simp only [declsOf,List.mem_cons,List.not_mem_nil,or_false] at h
     rcases h with rfl | rfl | rfl | rfl <;> (intro e;cases e)
theorem fresh0 (S:Int) (k t j:Nat):f0K S k (xn t j)=mnone:=by
 unfold f0K
 rw [meansOf_other]
 · rfl
 · intro d hd e
   rw [List.map_map] at hd
   obtain ⟨x,hx,rfl⟩:=List.mem_map.1 hd
   exact xn_ne (heads_k k x hx) e.symm
theorem bad_all:(([0,1]:List Int).all fun S=>(List.range 4).all fun k=>(firstBad none0 (((declsK k).map (lbl S)).map toDc)).isNone)=true:=by kernel_rfl
theorem bad_none {S:Int} (hS:S=0\/S=1) (k:Nat) (hk:k<4):firstBad none0 (((declsK k).map (lbl S)).map toDc)=none:=by
 have h1:=List.all_eq_true.1 bad_all S (by simp;exact hS)
 have h2:=List.all_eq_true.1 h1 k (List.mem_range.2 hk)
 simpa using h2
theorem glob_k {S:Int} (hS:S=0\/S=1) (k j:Nat) (hk:k<4) (hj:j<k):Glob S (f0K S k) j:=by
 rcases hS with rfl | rfl <;> match k,hk,j,hj with
    | 1,_,0,_=>exact ⟨⟨by kernel_rfl,by kernel_rfl⟩,⟨by kernel_rfl,by kernel_rfl,by kernel_rfl⟩,⟨by kernel_rfl,by kernel_rfl⟩,⟨by kernel_rfl,by kernel_rfl,by kernel_rfl⟩,⟨by kernel_rfl,by kernel_rfl⟩,⟨by kernel_rfl,by kernel_rfl⟩,⟨by kernel_rfl,by kernel_rfl⟩,by kernel_rfl⟩
    | 2,_,0,_=>exact ⟨⟨by kernel_rfl,by kernel_rfl⟩,⟨by kernel_rfl,by kernel_rfl,by kernel_rfl⟩,⟨by kernel_rfl,by kernel_rfl⟩,⟨by kernel_rfl,by kernel_rfl,by kernel_rfl⟩,⟨by kernel_rfl,by kernel_rfl⟩,⟨by kernel_rfl,by kernel_rfl⟩,⟨by kernel_rfl,by kernel_rfl⟩,by kernel_rfl⟩
    | 2,_,1,_=>exact ⟨⟨by kernel_rfl,by kernel_rfl⟩,⟨by kernel_rfl,by kernel_rfl,by kernel_rfl⟩,⟨by kernel_rfl,by kernel_rfl⟩,⟨by kernel_rfl,by kernel_rfl,by kernel_rfl⟩,⟨by kernel_rfl,by kernel_rfl⟩,⟨by kernel_rfl,by kernel_rfl⟩,⟨by kernel_rfl,by kernel_rfl⟩,by kernel_rfl⟩
    | 3,_,0,_=>exact ⟨⟨by kernel_rfl,by kernel_rfl⟩,⟨by kernel_rfl,by kernel_rfl,by kernel_rfl⟩,⟨by kernel_rfl,by kernel_rfl⟩,⟨by kernel_rfl,by kernel_rfl,by kernel_rfl⟩,⟨by kernel_rfl,by kernel_rfl⟩,⟨by kernel_rfl,by kernel_rfl⟩,⟨by kernel_rfl,by kernel_rfl⟩,by kernel_rfl⟩
    | 3,_,1,_=>exact ⟨⟨by kernel_rfl,by kernel_rfl⟩,⟨by kernel_rfl,by kernel_rfl,by kernel_rfl⟩,⟨by kernel_rfl,by kernel_rfl⟩,⟨by kernel_rfl,by kernel_rfl,by kernel_rfl⟩,⟨by kernel_rfl,by kernel_rfl⟩,⟨by kernel_rfl,by kernel_rfl⟩,⟨by kernel_rfl,by kernel_rfl⟩,by kernel_rfl⟩
    | 3,_,2,_=>exact ⟨⟨by kernel_rfl,by kernel_rfl⟩,⟨by kernel_rfl,by kernel_rfl,by kernel_rfl⟩,⟨by kernel_rfl,by kernel_rfl⟩,⟨by kernel_rfl,by kernel_rfl,by kernel_rfl⟩,⟨by kernel_rfl,by kernel_rfl⟩,⟨by kernel_rfl,by kernel_rfl⟩,⟨by kernel_rfl,by kernel_rfl⟩,by kernel_rfl⟩
def E0 (j:Nat):Env:=⟨[],[],[],false,j,0⟩
theorem inv0 {S:Int} {f0:ByteArray->Mng} {j:Nat} (hg:Glob S f0 j) (hfr:∀ t i,f0 (xn t i)=mnone):Inv S f0 { E0 j with deep:=1 } ⟨f0,[]⟩:=
 ⟨rfl,fun i hi=>absurd hi (by simp [E0]),by simp [E0],show 1<=4 by decide,⟨rfl,rfl⟩,fun i hi=>absurd hi (by simp [E0]),fun i _ _=>hfr _ _,fun t _=>rfl,hg⟩
theorem back0 {S:Int} {f0:ByteArray->Mng} {j d:Nat} {st:St} (hfr:∀ t i,f0 (xn t i)=mnone) (h:Inv S f0 { E0 j with deep:=d } st):st=⟨f0,[]⟩:=by
 obtain ⟨f,ls⟩:=st
 have h1:ls=[]:=h.ls
 subst h1
 congr 1
 funext t
 by_cases hx:∃ i,i<100/\t=xn j i
 · obtain ⟨i,hi,rfl⟩:=hx
   rw [hfr]
   exact h.fresh i (Nat.zero_le _) hi
 · exact h.base t fun i hi e=>hx ⟨i,hi,e⟩
theorem thread_seq {S:Int} (hS:S=0\/S=1) {f0:ByteArray->Mng} {j:Nat} (hg:Glob S f0 j) (hfr:∀ t i,f0 (xn t i)=mnone) (ns:List UInt8):
    ∃ st1 E1,seqP (stmtP 13 5) 0 ⟨f0,[]⟩ (blockM (stmtM 5) false (E0 j) ns).1=.ok st1/\Inv S f0 E1 st1/\E1.thread=j/\leaveP st1 0=⟨f0,[]⟩:=by
 have hI:=inv0 hg hfr
 obtain ⟨st1,e1,h1⟩:=loop_ty (n:=5) (pc:=0) (stM:=stmtM 5) (inside:=false) (fun E ns st hI=>stmt_ty hS 5 5 false 0 E ns st (Nat.le_refl _) (.inl rfl) (fun _=>rfl) hI) (nxV ns 5+1) { E0 j with deep:=1 } ns.tail _ hI
 have g:=loop_grow (fun E ns hf=>stmt_grow 5 false E ns hf) (nxV ns 5+1) { E0 j with deep:=1 } ns.tail hI.full
 exact ⟨st1,_,e1,h1,g.2.1,back0 hfr (leave_inv (E := { E0 j with deep:=1 }) hI.full g h1)⟩
theorem thread_ok {S:Int} (hS:S=0\/S=1) {f0:ByteArray->Mng} {j:Nat} (hg:Glob S f0 j) (hfr:∀ t i,f0 (xn t i)=mnone) (ns:List UInt8):blockP 13 5 ⟨f0,[]⟩ 0 (blockM (stmtM 5) false (E0 j) ns).1=.ok ⟨f0,[]⟩:=by
 obtain ⟨st1,E1,e1,_,_,e2⟩:=thread_seq hS hg hfr ns
 unfold blockP blkP
 rw [e1]
 show Except.ok (leaveP st1 0)=_
 rw [e2]
theorem threads_none {st:St} : ∀ (ts:List (List Stm)),(∀ t ∈ ts,blockP 13 5 st 0 t=.ok st)->threadsP 13 5 st ts=none
 | [],_=>rfl
 | t :: ts,h=>by
   unfold threadsP
   rw [h t List.mem_cons_self]
   exact threads_none ts fun x hx=>h x (List.mem_cons_of_mem _ hx)
theorem made_threads {S:Int} (hS:S=0\/S=1) {f0:ByteArray->Mng} {K:Nat} (hg:∀ j,j<K->Glob S f0 j) (hfr:∀ t i,f0 (xn t i)=mnone):∀ (k:Nat) (ns:List UInt8),k<=K->∀ t ∈ (threadsM k ns).2.1,blockP 13 5 ⟨f0,[]⟩ 0 t=.ok ⟨f0,[]⟩
 | 0,ns,_=>fun t ht=>by
   have ht':t ∈ ([]:List (List Stm)):=ht
   simp at ht'
 | k+1,ns,hk=>fun t ht=>by
   have ht':t ∈ (threadsM k ns).2.1++[(blockM (stmtM 5) false ⟨[],[],[],false,k,0⟩ (threadsM k ns).2.2).1]:=ht
   rcases List.mem_append.1 ht' with h | h
   · exact made_threads hS hg hfr k ns (by omega) t h
   · simp only [List.mem_singleton] at h
     subst h
     exact thread_ok hS (hg k (by omega)) hfr _
theorem made_check {S:Int} (hS:S=0\/S=1) (ns:List UInt8):checkP 13 5 ⟨(makeM ns).decls.map (lbl S),(makeM ns).threads⟩=none:=by
 have hk:=nxV_lt ns 3 (by decide)
 have e:(makeM ns).decls=declsK (1+nxV ns 3):=threads_decls _ _
 unfold checkP
 simp only [e]
 rw [bad_none hS _ (by omega)]
 exact threads_none _ (made_threads hS (K:=1+nxV ns 3) (fun j hj=>glob_k hS _ j (by omega) hj) (fresh0 S _) _ _ (Nat.le_refl _))
end Go.Proofs.YtlepckjmdjjolaaGreatDoor.Fl
