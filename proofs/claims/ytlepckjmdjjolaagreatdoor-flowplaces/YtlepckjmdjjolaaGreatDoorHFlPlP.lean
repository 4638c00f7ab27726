/- What the texts of FlowPlaces are read as, and what is wrong of them: for every size, place and count. Plain. -/
import Derived.Test.YtlepckjmdjjolaaGreatDoorGPBackAll
import Derived.Test.YtlepckjmdjjolaaGreatDoorHPLim
import Derived.Test.YtlepckjmdjjolaaGreatDoorGFlD
namespace Go.Proofs.YtlepckjmdjjolaaGreatDoor.Fl
open Pr
open Go.Lib (decDigits)
open Sc (Mng mnone put localM putAll Dc declM bad meansOf firstBad none0)
set_option linter.unusedVariables false
set_option linter.unusedSimpArgs false
def aS:ByteArray:=⟨#[97]⟩
def jS:ByteArray:=⟨#[105]⟩
def lit (v a:Nat):Tree:=⟨0,0,⟨#[]⟩,v,[],a⟩
def pA (n m:Nat) (a0 a1 a2 a3:Int):Prg:=⟨[⟨false,0,aS,n,⟨#[]⟩,a0⟩],[[⟨2,aS,[⟨0,0,⟨#[]⟩,m,[],a2⟩,⟨0,0,⟨#[]⟩,1,[],a3⟩],0,[],[],a1⟩]]⟩
def pB (n c:Nat) (a0 a1 a2 a3 a4:Int):Prg:=⟨[⟨false,0,aS,n,⟨#[]⟩,a0⟩],[[⟨4,jS,[],c,[⟨2,aS,[⟨1,0,jS,0,[],a3⟩,⟨0,0,⟨#[]⟩,1,[],a4⟩],0,[],[],a2⟩],[],a1⟩]]⟩
def headI (n:Nat):List It:=[iS (kw kPublic),iG [32],iS (wd aS),iS (sn [91]),iS (dg n),iS (sn [93]),iS (sn [59]),iG [32],iS (kw kThread),iG [32],iS (sn [123]),iG [32]]
def storeI (x:Sg):List It:=[iS (wd aS),iS (sn [91]),iS x,iS (sn [93]),iG [32],iS (sn [61]),iG [32],iS (dg 1),iS (sn [59]),iG [32]]
def itA (n m:Nat):List It:=headI n++storeI (dg m)++[iS (sn [125])]
def itB (n c:Nat):List It:=headI n++[iS (kw kLoop),iG [32],iS (wd jS),iG [32],iS (dg c),iG [32],iS (sn [123]),iG [32]]++storeI (wd jS)++[iS (sn [125]),iG [32],iS (sn [125])]
theorem name_aS:isName aS:=⟨⟨⟨97,[],rfl,by decide⟩,fun x hm=>by simp [aS,bys] at hm;subst hm;decide⟩,by decide⟩
theorem name_jS:isName jS:=⟨⟨⟨105,[],rfl,by decide⟩,fun x hm=>by simp [jS,bys] at hm;subst hm;decide⟩,by decide⟩
theorem eqL_one {α : Type} {R : α -> α -> Prop} {l:List α} {y : α} (h:eqL R l [y]):∃ x,l=[x]/\R x y:=by
 obtain ⟨h1,h2⟩:=h
 match l,h1 with
 | [x],_=>exact ⟨x,rfl,h2 0 x y rfl rfl⟩
theorem eqL_two {α : Type} {R : α -> α -> Prop} {l:List α} {y z : α} (h:eqL R l [y,z]):∃ x u,l=[x,u]/\R x y/\R u z:=by
 obtain ⟨h1,h2⟩:=h
 match l,h1 with
 | [x,u],_=>exact ⟨x,u,rfl,h2 0 x y rfl rfl,h2 1 u z rfl rfl⟩
theorem eqL_none {α : Type} {R : α -> α -> Prop} {l:List α} (h:eqL R l []):l=[]:=List.length_eq_zero_iff.1 h.1
theorem leaf_of {m:Nat} {x y:Tree} (h:eqT (m+1) x y) (hk:y.kids=[]):x = { y with at_:=x.at_ } := by
 obtain ⟨h1,h2,h3,h4,h5,_⟩:=h
 obtain ⟨a,b,c,d,e,f⟩:=x
 obtain ⟨a',b',c',d',e',f'⟩:=y
 simp only at h1 h2 h3 h4 h5 hk ⊢
 subst h1 h2 h3 h4 hk
 rw [List.length_nil] at h5
 rw [List.length_eq_zero_iff.1 h5]
theorem of_A {n m:Nat} {q:Prg} (h:eqP 1 1 q (pA n m 0 0 0 0)):∃ a0 a1 a2 a3,q=pA n m a0 a1 a2 a3:=by
 obtain ⟨ds,ts⟩:=q
 obtain ⟨hd,ht⟩:=h
 obtain ⟨d,rfl,g1,g2,g3,g4,g5⟩:=eqL_one hd
 obtain ⟨ss,rfl,hss⟩:=eqL_one ht
 obtain ⟨s,rfl,k1,k2,k3,k4,k5,k6⟩:=eqL_one hss
 obtain ⟨x,u,hx,r1,r2⟩:=eqL_two k4
 replace r1:=leaf_of r1 rfl
 replace r2:=leaf_of r2 rfl
 replace k5:=eqL_none k5
 replace k6:=eqL_none k6
 obtain ⟨d1,d2,d3,d4,d5,d6⟩:=d
 obtain ⟨s1,s2,s3,s4,s5,s6,s7⟩:=s
 simp only at g1 g2 g3 g4 g5 k1 k2 k3 k5 k6 hx
 subst g1 g2 g3 g4 g5 k1 k2 k3 k5 k6 hx
 rw [r1,r2]
 exact ⟨_,_,_,_,rfl⟩
theorem of_B {n c:Nat} {q:Prg} (h:eqP 1 2 q (pB n c 0 0 0 0 0)):∃ a0 a1 a2 a3 a4,q=pB n c a0 a1 a2 a3 a4:=by
 obtain ⟨ds,ts⟩:=q
 obtain ⟨hd,ht⟩:=h
 obtain ⟨d,rfl,g1,g2,g3,g4,g5⟩:=eqL_one hd
 obtain ⟨ss,rfl,hss⟩:=eqL_one ht
 obtain ⟨s,rfl,k1,k2,k3,k4,k5,k6⟩:=eqL_one hss
 replace k4:=eqL_none k4
 replace k6:=eqL_none k6
 obtain ⟨y,hy,l1,l2,l3,l4,l5,l6⟩:=eqL_one k5
 obtain ⟨x,u,hx,r1,r2⟩:=eqL_two l4
 replace r1:=leaf_of r1 rfl
 replace r2:=leaf_of r2 rfl
 replace l5:=eqL_none l5
 replace l6:=eqL_none l6
 obtain ⟨d1,d2,d3,d4,d5,d6⟩:=d
 obtain ⟨s1,s2,s3,s4,s5,s6,s7⟩:=s
 obtain ⟨y1,y2,y3,y4,y5,y6,y7⟩:=y
 simp only at g1 g2 g3 g4 g5 k1 k2 k3 k4 k6 hy l1 l2 l3 l5 l6 hx
 subst g1 g2 g3 g4 g5 k1 k2 k3 k4 k6 hy l1 l2 l3 l5 l6 hx
 rw [r1,r2]
 exact ⟨_,_,_,_,_,rfl⟩
theorem sgs_A (n m:Nat) (hn:1<=n):sgs (itA n m)=sgs (pits 1 1 (pA n m 0 0 0 0)):=by
 have h:0<n:=by omega
 have he:(⟨#[]⟩:ByteArray)=ByteArray.empty:=rfl
 simp [pits,pA,dits,sizeI,byI,tits,Pr.bits,sits,eit,eits,ends,labK,sgs,iS,iG,h,he,itA,headI,storeI]
theorem sgs_B (n c:Nat) (hn:1<=n):sgs (itB n c)=sgs (pits 1 2 (pB n c 0 0 0 0 0)):=by
 have h:0<n:=by omega
 have he:(⟨#[]⟩:ByteArray)=ByteArray.empty:=rfl
 simp [pits,pB,dits,sizeI,byI,tits,Pr.bits,sits,eit,eits,ends,labK,sgs,iS,iG,h,he,itB,headI,storeI]
theorem ok_dg {u:Nat} (hu:u<18446744073709551616) {is:List It} {l:List UInt8} (hs:soft (flat is++l)=true) (h:Pr.okF is l):Pr.okF (iS (dg u) :: is) l:=okF_s (reads_dg hu hs) h
theorem store_ok {x:Sg} (hx:∀ l,soft l=true->reads x l) (l:List UInt8):Pr.okF (storeI x) l:=
 ok_wd name_aS rfl (ok_one (by decide) (by decide) (okF_s (hx _ rfl) (ok_one (by decide) (by decide) (okF_g gap_blank (okF_s (reads_thin (.inr rfl) _) (okF_g gap_blank (ok_dg (by decide) rfl (ok_one (by decide) (by decide) (okF_g gap_blank trivial)))))))))
theorem head_ok {n:Nat} (hn:n<18446744073709551616) (l:List UInt8):Pr.okF (headI n) l:=
 ok_kw (by decide) (by decide) (by decide) rfl (okF_g gap_blank (ok_wd name_aS rfl (ok_one (by decide) (by decide) (ok_dg hn rfl (ok_one (by decide) (by decide) (ok_one (by decide) (by decide) (okF_g gap_blank (ok_kw (by decide) (by decide) (by decide) rfl (okF_g gap_blank (ok_one (by decide) (by decide) (okF_g gap_blank trivial)))))))))))
theorem okA {n m:Nat} (hn:n<=1000) (hm:m<=1000):Pr.okF (itA n m) []:=
 okF_append _ _ _ (okF_append _ _ _ (head_ok (by omega) _) (store_ok (fun l hl=>reads_dg (by omega) hl) _)) (ok_one (by decide) (by decide) trivial)
theorem okB2 {n c:Nat} (hn:n<=1000) (hc:c<=1000):Pr.okF (itB n c) []:=
 okF_append _ _ _ (okF_append _ _ _ (okF_append _ _ _ (head_ok (by omega) _) (ok_kw (by decide) (by decide) (by decide) rfl (okF_g gap_blank (ok_wd name_jS rfl (okF_g gap_blank (ok_dg (by omega) rfl (okF_g gap_blank (ok_one (by decide) (by decide) (okF_g gap_blank trivial))))))))) (store_ok (fun l hl=>reads_wd name_jS hl) _)) (ok_one (by decide) (by decide) (okF_g gap_blank (ok_one (by decide) (by decide) trivial)))
theorem gA {n m:Nat} (h1:1<=n) (hn:n<=64) (hm:m<=1000):gP 1 1 (pA n m 0 0 0 0) where
 d:=fun d hd=>by
  simp [pA] at hd
  subst hd
  exact ⟨name_aS,.inr ⟨rfl,.inl rfl,⟨n,rfl,hn⟩,.inl rfl⟩⟩
 dl:=by simp [pA]
 s:=fun ss hs s h=>by
  simp [pA] at hs
  subst hs
  simp at h
  subst h
  exact .inr (.inr (.inl ⟨rfl,name_aS,⟨_,_,rfl,.inl ⟨rfl,rfl,rfl,by simp;omega,rfl⟩,.inl ⟨rfl,rfl,rfl,by simp,rfl⟩⟩,rfl,rfl,rfl⟩))
 f:=fun ss hs s h=>by
  simp [pA] at hs
  subst hs
  simp at h
  subst h
  refine ⟨by decide,fun e he=>?_,fun x hx=>by simp at hx,fun x hx=>by simp at hx⟩
  simp at he
  rcases he with rfl | rfl <;> simp [dpE]
 t1:=by simp [pA]
 t2:=by simp [pA]
theorem gB {n c:Nat} (h1:1<=n) (hn:n<=64) (hc1:1<=c) (hc:c<=256):gP 1 2 (pB n c 0 0 0 0 0) where
 d:=fun d hd=>by
  simp [pB] at hd
  subst hd
  exact ⟨name_aS,.inr ⟨rfl,.inl rfl,⟨n,rfl,hn⟩,.inl rfl⟩⟩
 dl:=by simp [pB]
 s:=fun ss hs s h=>by
  simp [pB] at hs
  subst hs
  simp at h
  subst h
  refine .inr (.inr (.inr (.inr (.inl ⟨rfl,name_jS,rfl,⟨c,rfl,hc1,hc⟩,fun x hx=>?_,rfl⟩))))
  simp at hx
  subst hx
  exact .inr (.inr (.inl ⟨rfl,name_aS,⟨_,_,rfl,.inr (.inl ⟨rfl,rfl,name_jS,rfl,rfl⟩),.inl ⟨rfl,rfl,rfl,by simp,rfl⟩⟩,rfl,rfl,rfl⟩))
 f:=fun ss hs s h=>by
  simp [pB] at hs
  subst hs
  simp at h
  subst h
  refine ⟨by decide,fun e he=>by simp at he,fun x hx=>?_,fun x hx=>by simp at hx⟩
  simp at hx
  subst hx
  refine ⟨by decide,fun e he=>?_,fun x hx=>by simp at hx,fun x hx=>by simp at hx⟩
  simp at he
  rcases he with rfl | rfl <;> simp [dpE]
 t1:=by simp [pB]
 t2:=by simp [pB]
theorem numA {n m:Nat} (h1:1<=n) (hm:m<=1000) (a0 a1 a2 a3:Int):numE (checkP bigM 41 (pA n m a0 a1 a2 a3))=if m<n then 0 else 3:=by
 have h:0<n:=by omega
 have he:(⟨#[]⟩:ByteArray)=ByteArray.empty:=rfl
 by_cases hmn:m<n
 · have h2:¬ ((n:Int)<=min (m:Int) 1073741824):=by omega
   rw [if_pos hmn]
   simp [checkP,pA,toDc,firstBad,bad,none0,mnone,meansOf,declM,threadsP,blockP,blkP,seqP,stmtP,storeP,cellP,labelP,boundP,allP,joinI,intoP,leaveP,put,bigM,numE,h,h2,he]
 · have h2:((n:Int)<=min (m:Int) 1073741824):=by omega
   rw [if_neg hmn]
   simp [checkP,pA,toDc,firstBad,bad,none0,mnone,meansOf,declM,threadsP,blockP,blkP,seqP,stmtP,storeP,cellP,labelP,boundP,allP,joinI,intoP,leaveP,put,bigM,numE,h,h2,he]
theorem numB {n c:Nat} (h1:1<=n) (hc1:1<=c) (hc:c<=256) (a0 a1 a2 a3 a4:Int):numE (checkP bigM 41 (pB n c a0 a1 a2 a3 a4))=if c<=n then 0 else 3:=by
 have h:0<n:=by omega
 have he:(⟨#[]⟩:ByteArray)=ByteArray.empty:=rfl
 have hja:jS≠aS:=by decide
 have haj:aS≠jS:=by decide
 have hcp:0<c:=by omega
 by_cases hcn:c<=n
 · have h2:¬ ((n:Int)<=min ((c:Int)-1) 1073741824):=by omega
   rw [if_pos hcn]
   simp [checkP,pB,toDc,firstBad,bad,none0,mnone,meansOf,declM,threadsP,blockP,blkP,seqP,stmtP,storeP,cellP,labelP,nameP,boundP,allP,joinI,intoP,leaveP,loopP,enterP,localM,put,putAll,bigM,numE,h,h2,he,hja,haj,hcp]
 · have h2:((n:Int)<=min ((c:Int)-1) 1073741824):=by omega
   rw [if_neg hcn]
   simp [checkP,pB,toDc,firstBad,bad,none0,mnone,meansOf,declM,threadsP,blockP,blkP,seqP,stmtP,storeP,cellP,labelP,nameP,boundP,allP,joinI,intoP,leaveP,loopP,enterP,localM,put,putAll,bigM,numE,h,h2,he,hja,haj,hcp]
theorem flat_small (n m:Nat) (hn:n<1000) (hm:m<1000):(flat (itA n m)).length<=65536/\(flat (itB n m)).length<=65536:=by
 have a:=dig_few n hn
 have b:=dig_few m hm
 have c:=dig_few 1 (by omega)
 constructor
 · simp [itA,headI,storeI,flat,iS,iG,It.text,kw,wd,sn,dg,aS,bys,kPublic,kThread]
   omega
 · simp [itB,headI,storeI,flat,iS,iG,It.text,kw,wd,sn,dg,aS,jS,bys,kPublic,kThread,kLoop]
   omega
theorem readA {n m:Nat} (h1:1<=n) (hn:n<=64) (hm:m<100):∃ q,parseP (flat (itA n m))=.ok q/\numE (checkP bigM 41 q)=if m<n then 0 else 3:=by
 obtain ⟨q,hq,he⟩:=items_back 1 1 _ (gA (m:=m) h1 hn (by omega)) (itA n m) (okA (by omega) (by omega)) (sgs_A n m h1) (flat_small n m (by omega) (by omega)).1
 obtain ⟨a0,a1,a2,a3,rfl⟩:=of_A he
 exact ⟨_,hq,numA h1 (by omega) _ _ _ _⟩
theorem readB {n c:Nat} (h1:1<=n) (hn:n<=64) (hc1:1<=c) (hc:c<=256):∃ q,parseP (flat (itB n c))=.ok q/\numE (checkP bigM 41 q)=if c<=n then 0 else 3:=by
 obtain ⟨q,hq,he⟩:=items_back 1 2 _ (gB h1 hn hc1 hc) (itB n c) (okB2 (by omega) (by omega)) (sgs_B n c h1) (flat_small n c (by omega) (by omega)).2
 obtain ⟨a0,a1,a2,a3,a4,rfl⟩:=of_B he
 exact ⟨_,hq,numB h1 hc1 hc _ _ _ _ _⟩
end Go.Proofs.YtlepckjmdjjolaaGreatDoor.Fl
