/- Own texts laid together: PItems, PExprBack. Conditions: as each theorem says. -/
import Derived.Test.YtlepckjmdjjolaaGreatDoorGPGd
set_option linter.unusedVariables false
set_option linter.unusedSimpArgs false
namespace Go.Proofs.YtlepckjmdjjolaaGreatDoor.Pr
open Go.Lib (decDigits)
open Lx (Tok num wordB letterB blankB lead blanks readTok goTok cutTok cutAll keyB signN numFrom)
def sgOf (t:Tok):Sg:=⟨t.kind,t.text,t.value⟩
def Sg.at (s:Sg) (k:Nat):Tok:=⟨s.kind,s.text,s.value,k⟩
theorem sgOf_at (s:Sg) (k:Nat):sgOf (s.at k)=s:=rfl
def It.text (i:It):List UInt8:=match i.sg with | some s=>s.text | none=>i.gap
def iS (s:Sg):It:=⟨some s,[]⟩
def iG (g:List UInt8):It:=⟨none,g⟩
def flat (is:List It):List UInt8:=(is.map It.text).flatten
theorem flat_append (a b:List It):flat (a++b)=flat a++flat b:=by simp [flat]
theorem flat_cons (i:It) (b:List It):flat (i :: b)=i.text++flat b:=by simp [flat]
theorem flat_nil:flat []=[]:=rfl
def sgs (is:List It):List Sg:=is.filterMap It.sg
theorem sgs_append (a b:List It):sgs (a++b)=sgs a++sgs b:=by simp [sgs]
theorem sgs_s (s:Sg) (b:List It):sgs (iS s :: b)=s :: sgs b:=rfl
theorem sgs_g (g:List UInt8) (b:List It):sgs (iG g :: b)=sgs b:=rfl
def isGap (g:List UInt8):Prop:=∀ l,blanks false (g++l)=g.length+blanks false l
def reads (s:Sg) (l:List UInt8):Prop:=s.text≠[]/\blanks false (s.text++l)=0/\∀ k,readTok (s.text++l) k=some (s.at k)
def okF:List It->List UInt8->Prop
 | [],_=>True
 | i :: is,l=>(match i.sg with | some s=>reads s (flat is++l) | none=>isGap i.gap)/\okF is l
theorem okF_append:∀ (a b:List It) (l:List UInt8),okF a (flat b++l)->okF b l->okF (a++b) l
 | [],b,l,_,h=>h
 | i :: a,b,l,h,hb=>by
   obtain ⟨h1,h2⟩:=h
   refine ⟨?_,okF_append a b l h2 hb⟩
   cases e:i.sg with
   | none=>rw [e] at h1;exact h1
   | some s=>rw [e] at h1;show reads s (flat (a++b)++l);rw [flat_append,List.append_assoc];exact h1
def toksAt:Nat->List It->List Tok
 | _,[]=>[]
 | k,i :: is=>match i.sg with | some s=>s.at k :: toksAt (k+s.text.length) is | none=>toksAt (k+i.gap.length) is
theorem toksAt_sgs:∀ (k:Nat) (is:List It),(toksAt k is).map sgOf=sgs is
 | k,[]=>rfl
 | k,i :: is=>by
   unfold toksAt sgs
   rw [List.filterMap_cons]
   cases e:i.sg with
   | none=>simp only;exact toksAt_sgs _ is
   | some s=>simp only [List.map_cons];rw [toksAt_sgs _ is];rfl
theorem go_items:∀ (is:List It) (f k:Nat),okF is []->(flat is).length<f ->
    goTok f ((flat is).drop (blanks false (flat is))) (k+blanks false (flat is))=.ok (toksAt k is++[endT (k+(flat is).length)])
 | [],f,k,_,hf=>by
   obtain ⟨f,rfl⟩:∃ g,f=g+1:=⟨f-1,by omega⟩
   simp [flat_nil,blanks,Lx.goTok_nil,toksAt,endT]
 | i :: is,f,k,⟨h1,h2⟩,hf=>by
   rw [flat_cons] at hf ⊢
   unfold toksAt
   cases e:i.sg with
   | none=>
     rw [e] at h1
     have ht:i.text=i.gap:=by unfold It.text;rw [e]
     rw [ht] at hf ⊢
     rw [h1]
     have hd:(i.gap++flat is).drop (i.gap.length+blanks false (flat is))=(flat is).drop (blanks false (flat is)):=by
        rw [<- List.drop_drop,List.drop_left]
     simp only [List.length_append] at hf
     have ih:=go_items is f (k+i.gap.length) h2 (by omega)
     rw [hd,<- Nat.add_assoc,ih,List.length_append]
     simp only [Nat.add_assoc]
   | some s=>
     rw [e] at h1
     simp only [List.append_nil] at h1
     have ht:i.text=s.text:=by unfold It.text;rw [e]
     rw [ht] at hf ⊢
     obtain ⟨hne,hb,hr⟩:=h1
     rw [hb]
     obtain ⟨f,rfl⟩:∃ g,f=g+1:=⟨f-1,by omega⟩
     rw [List.drop_zero,show k+0=k from rfl,Lx.goTok_some (hr k)]
     have hx:(s.at k).text=s.text:=rfl
     have hp:0<s.text.length:=by
        cases h:s.text with
        | nil=>exact absurd h hne
        | cons a b=>simp
     rw [hx,List.drop_left]
     simp only [List.length_append] at hf
     rw [go_items is f (k+s.text.length) h2 (by omega)]
     simp [Lx.Res.pre,Nat.add_assoc]
theorem cut_items (is:List It) (h:okF is []) (hl:(flat is).length<=65536):cutAll (flat is)=.ok (toksAt 0 is++[endT (flat is).length]):=by
 unfold cutAll cutTok
 rw [if_neg (by omega)]
 have:=go_items is ((flat is).length+1) 0 h (by omega)
 simpa using this
def soft:List UInt8->Bool
 | []=>true
 | c :: _ => !wordB (num c) && c != 60 && c != 61 && c != 62
theorem soft_word {c:UInt8} {l:List UInt8} (h:soft (c :: l)=true):wordB (num c)=false:=by
 have h':(!wordB (num c) && c != 60 && c != 61 && c != 62)=true:=h
 cases e:wordB (num c)
 · rfl
 · rw [e] at h';simp at h'
theorem lead_all_then {p:Int->Bool} : ∀ (x l:List UInt8),(∀ c ∈ x,p (num c)=true)->(∀ c r,l=c :: r->p (num c)=false)->lead p (x++l)=x.length
 | [],l,_,h=>by
   cases l with
   | nil=>rfl
   | cons c r=>exact Lx.lead_no (h c r rfl)
 | d :: x,l,h,hl=>by
   rw [List.cons_append,Lx.lead_yes (h d (by simp)),lead_all_then x l (fun c hc=>h c (by simp [hc])) hl];rfl
theorem letter_blank {c:UInt8} (h:letterB (num c)=true):num c≠35/\num c≠10/\blankB (num c)=false:=by
 have:=Lx.letter_is h
 refine ⟨by omega,by omega,Lx.blank_no (by omega)⟩
theorem digit_blank {c:UInt8} (h:Lx.digitB (num c)=true):num c≠35/\num c≠10/\blankB (num c)=false:=by
 have:=Lx.digit_is h
 refine ⟨by omega,by omega,Lx.blank_no (by omega)⟩
theorem blanks_zero {c:UInt8} {l:List UInt8} (h:num c≠35/\num c≠10/\blankB (num c)=false):blanks false (c :: l)=0:=by simp [blanks,h.1,h.2.1,h.2.2]
theorem word_stops {l:List UInt8} (h:soft l=true):∀ c r,l=c :: r->wordB (num c)=false:=fun c r e=>by subst e;exact soft_word h
theorem reads_word {x l:List UInt8} (hx:wordText x) (hl:soft l=true):reads ⟨if keyB x then 2 else 1,x,0⟩ l:=by
 obtain ⟨⟨c,r,rfl,hc⟩,hw⟩:=hx
 refine ⟨by simp,?_,fun k=>?_⟩
 · show blanks false ((c :: r)++l)=0
   rw [List.cons_append];exact blanks_zero (letter_blank hc)
 · have hle:=lead_all_then (p:=wordB) (c :: r) l hw (word_stops hl)
   show readTok ((c :: r)++l) k=_
   have ht:((c :: r)++l).take (lead wordB ((c :: r)++l))=c :: r:=by rw [hle];simp
   rw [List.cons_append] at ht ⊢
   unfold readTok
   simp only [hc,if_true,ht]
   rfl
def wd (s:ByteArray):Sg:=⟨1,bys s,0⟩
def kw (x:List UInt8):Sg:=⟨2,x,0⟩
def sn (x:List UInt8):Sg:=⟨4,x,0⟩
def dg (n:Nat):Sg:=⟨3,decDigits n,n⟩
theorem reads_wd {s:ByteArray} (h:isName s) {l:List UInt8} (hl:soft l=true):reads (wd s) l:=by
 have:=reads_word h.1 hl
 rw [h.2] at this
 exact this
theorem reads_kw {x:List UInt8} (h:wordText x) (hk:keyB x=true) {l:List UInt8} (hl:soft l=true):reads (kw x) l:=by
 have:=reads_word h hl
 rw [hk] at this
 exact this
theorem reads_one {c:UInt8} (h:c≠60/\c≠61/\c≠62) (hs:Lx.signList.contains c=true) (l:List UInt8):reads (sn [c]) l:=by
 have hmem:c ∈ Lx.signList:=by simpa using hs
 have hcl:letterB (num c)=false/\Lx.digitB (num c)=false/\num c≠35/\num c≠10/\blankB (num c)=false:=by
    have:∀ d ∈ Lx.signList,letterB (num d)=false/\Lx.digitB (num d)=false/\num d≠35/\num d≠10/\blankB (num d)=false:=by decide
    exact this c hmem
 refine ⟨by simp [sn],blanks_zero hcl.2.2,fun k=>?_⟩
 have h1:([60,60]:List UInt8).isPrefixOf (c :: l)=false:=by simp [List.isPrefixOf];exact fun e=>absurd e.symm h.1
 have h2:([62,62]:List UInt8).isPrefixOf (c :: l)=false:=by simp [List.isPrefixOf];exact fun e=>absurd e.symm h.2.2
 have h3:([61,61]:List UInt8).isPrefixOf (c :: l)=false:=by simp [List.isPrefixOf];exact fun e=>absurd e.symm h.2.1
 have hn:signN (c :: l)=1:=by unfold signN;rw [h1,h2,h3];simp only [Bool.false_eq_true,if_false,hs,if_true]
 show readTok (c :: l) k=_
 unfold readTok
 simp only [hcl.1,hcl.2.1,Bool.false_eq_true,if_false,hn]
 rfl
theorem reads_thin {c:UInt8} (h:c=60\/c=61) (l:List UInt8):reads (sn [c]) (32 :: l):=by
 refine ⟨by simp [sn],?_,fun k=>?_⟩
 · rcases h with rfl | rfl <;> (apply blanks_zero;decide)
 · rcases h with rfl | rfl
   all_goals
    show readTok _ k=_
    simp only [sn,List.cons_append,List.nil_append]
    unfold readTok
    have hn:∀ l:List UInt8,signN (60 :: 32 :: l)=1:=fun l=>by unfold signN;simp [List.isPrefixOf];decide
    have hn':∀ l:List UInt8,signN (61 :: 32 :: l)=1:=fun l=>by unfold signN;simp [List.isPrefixOf];decide
    have e1:letterB (num 60)=false/\Lx.digitB (num 60)=false/\letterB (num 61)=false/\Lx.digitB (num 61)=false:=by decide
    simp only [e1.1,e1.2.1,e1.2.2.1,e1.2.2.2,Bool.false_eq_true,if_false,hn,hn']
    rfl
theorem reads_two {c:UInt8} (h:c=60\/c=61\/c=62) (l:List UInt8):reads (sn [c,c]) l:=by
 refine ⟨by simp [sn],?_,fun k=>?_⟩
 · rcases h with rfl | rfl | rfl <;> (apply blanks_zero;decide)
 · have e1:letterB (num 60)=false/\Lx.digitB (num 60)=false/\letterB (num 61)=false/\Lx.digitB (num 61)=false/\letterB (num 62)=false/\Lx.digitB (num 62)=false:=by decide
   have hn:signN (c :: c :: l)=2:=by rcases h with rfl | rfl | rfl <;> simp [signN,List.isPrefixOf]
   show readTok (c :: c :: l) k=_
   unfold readTok
   rcases h with rfl | rfl | rfl <;> (simp only [e1.1,e1.2.1,e1.2.2.1,e1.2.2.2.1,e1.2.2.2.2.1,e1.2.2.2.2.2,Bool.false_eq_true,if_false,hn];rfl)
theorem digits_all (u:Nat):∀ c ∈ decDigits u,Lx.digitB (num c)=true:=by
 induction u using Nat.strongRecOn with
 | _ u ih=>
   intro c hc
   rw [decDigits] at hc
   split at hc
   · simp only [List.mem_singleton] at hc
     subst hc
     rw [num_ofNat _ (by omega)]
     exact Lx.digit_yes (by omega)
   · rcases List.mem_append.1 hc with h | h
     · exact ih (u / 10) (by omega) c h
     · simp only [List.mem_singleton] at h
       subst h
       rw [num_ofNat _ (by omega)]
       exact Lx.digit_yes (by omega)
theorem numFrom_append:∀ (a b:List UInt8) (acc:Nat),numFrom acc (a++b)=(numFrom acc a).bind fun v=>numFrom v b
 | [],b,acc=>rfl
 | c :: a,b,acc=>by
   rw [List.cons_append]
   simp only [numFrom]
   split
   · exact numFrom_append a b _
   · rfl
theorem numFrom_dec (u:Nat):u<18446744073709551616->numFrom 0 (decDigits u)=some u:=by
 induction u using Nat.strongRecOn with
 | _ u ih=>
   intro hu
   rw [decDigits]
   split
   · rename_i h
     have e:(UInt8.ofNat (48+u)).toNat=48+u:=by rw [UInt8.toNat_ofNat'];exact Nat.mod_eq_of_lt (by omega)
     simp only [numFrom,e]
     rw [if_pos (by omega)]
     congr 1
     omega
   · rename_i h
     have e:(UInt8.ofNat (48+u % 10)).toNat=48+u % 10:=by rw [UInt8.toNat_ofNat'];exact Nat.mod_eq_of_lt (by omega)
     rw [numFrom_append,ih (u / 10) (by omega) (by omega)]
     simp only [Option.bind_some,numFrom,e]
     rw [if_pos (by omega)]
     congr 1
     omega
theorem digits_cons (u:Nat):∃ c r,decDigits u=c :: r/\Lx.digitB (num c)=true:=by
 have h1:(decDigits u).length≠0:=by rw [Go.Lib.decDigits_length];have:=Go.Lib.nDigits_pos u;omega
 cases h:decDigits u with
 | nil=>rw [h] at h1;exact absurd rfl h1
 | cons c r=>exact ⟨c,r,rfl,digits_all u c (by rw [h];simp)⟩
theorem reads_dg {u:Nat} (hu:u<18446744073709551616) {l:List UInt8} (hl:soft l=true):reads (dg u) l:=by
 obtain ⟨c,r,e,hc⟩:=digits_cons u
 have hstop:∀ c r,l=c :: r->Lx.digitB (num c)=false/\letterB (num c)=false:=fun c r e=>by
    have:=word_stops hl c r e
    unfold Lx.wordB at this
    simpa [and_comm] using this
 have hle:=lead_all_then (p:=Lx.digitB) (decDigits u) l (digits_all u) (fun c r e=>(hstop c r e).1)
 have hlet:letterB (num c)=false:=Lx.letter_no (by have:=Lx.digit_is hc;omega)
 refine ⟨by show decDigits u≠[];rw [e];simp,?_,fun k=>?_⟩
 · show blanks false (decDigits u++l)=0
   rw [e,List.cons_append];exact blanks_zero (digit_blank hc)
 · show readTok (decDigits u++l) k=_
   have hd:Lx.digitTok (decDigits u++l) k=some ((dg u).at k):=by
    unfold Lx.digitTok
    rw [hle,List.drop_left,List.take_left,numFrom_dec u hu]
    have:Lx.startsLetter l=false:=by
        cases l with
        | nil=>rfl
        | cons c r=>exact (hstop c r rfl).2
    rw [this];rfl
   rw [e,List.cons_append] at hd ⊢
   unfold readTok
   simp only [hlet,hc,Bool.false_eq_true,if_false,if_true,hd]
end Go.Proofs.YtlepckjmdjjolaaGreatDoor.Pr
namespace Go.Proofs.YtlepckjmdjjolaaGreatDoor.Pr
open Go.Lib (decDigits)
open Lx (Tok)
def eits:Nat->Tree->Nat->List It
 | 0,_,_=>[]
 | n+1,t,p=>
   let pt:Nat->Nat->List It:=fun i q=>match t.kids[i]? with | some k=>eits n k q | none=>[]
   let bin:List It:=pt 0 (tightN t.op)++[iG [32],iS (sn (signL t.op.toNat)),iG [32]]++pt 1 (tightN t.op+1)
   if t.kind=0 then [iS (dg t.value)]
   else if t.kind=1 then [iS (wd t.name)]
   else if t.kind=2 then [iS (wd t.name),iS (sn [91])]++pt 0 0++[iS (sn [93])]
   else if t.kind=3 then (if tightN t.op<p then [iS (sn [40])]++bin++[iS (sn [41])] else bin)
   else if t.kind=4 then [iS (sn [126])]++pt 0 9
   else [iS (kw kPick),iS (sn [40])]++pt 0 0++[iS (sn [44]),iG [32]]++pt 1 0++[iS (sn [44]),iG [32]]++pt 2 0++[iS (sn [41])]
theorem eits_0 {n:Nat} {t:Tree} {p:Nat} (h:t.kind=0):eits (n+1) t p=[iS (dg t.value)]:=by simp [eits,h]
theorem eits_1 {n:Nat} {t:Tree} {p:Nat} (h:t.kind=1):eits (n+1) t p=[iS (wd t.name)]:=by simp [eits,h]
theorem eits_2 {n:Nat} {t a:Tree} {p:Nat} (h:t.kind=2) (hk:t.kids=[a]):eits (n+1) t p=[iS (wd t.name),iS (sn [91])]++eits n a 0++[iS (sn [93])]:=by simp [eits,h,hk]
def ebin (n:Nat) (op:Int) (a b:Tree):List It:=eits n a (tightN op)++[iG [32],iS (sn (signL op.toNat)),iG [32]]++eits n b (tightN op+1)
theorem eits_3 {n:Nat} {t a b:Tree} {p:Nat} (h:t.kind=3) (hk:t.kids=[a,b]):eits (n+1) t p=if tightN t.op<p then [iS (sn [40])]++ebin n t.op a b++[iS (sn [41])] else ebin n t.op a b:=by simp [eits,h,hk,ebin]
theorem eits_4 {n:Nat} {t a:Tree} {p:Nat} (h:t.kind=4) (hk:t.kids=[a]):eits (n+1) t p=[iS (sn [126])]++eits n a 9:=by simp [eits,h,hk]
theorem eits_5 {n:Nat} {t a b c:Tree} {p:Nat} (h:t.kind=5) (hk:t.kids=[a,b,c]):eits (n+1) t p=[iS (kw kPick),iS (sn [40])]++eits n a 0++[iS (sn [44]),iG [32]]++eits n b 0++[iS (sn [44]),iG [32]]++eits n c 0++[iS (sn [41])]:=by simp [eits,h,hk]
theorem tight_pos {op:Int} (h0:0<=op) (h1:op<=9):0<tightN op:=Nat.pos_of_ne_zero (tightN_pos op h0 h1)
theorem eits_flat:∀ (n:Nat) (t:Tree) (p:Nat),gT n t->flat (eits n t p)=etext n t p
 | 0,_,_,h=>h.elim
 | n+1,t,p,h=>by
   rcases h with ⟨h,_⟩ | ⟨h,_⟩ | ⟨h,_,_,_,a,hk,ha⟩ | ⟨h,h0,h1,_,_,a,b,hk,ha,hb⟩ | ⟨h,_,_,_,a,hk,ha⟩ | ⟨h,_,_,_,a,b,c,hk,ha,hb,hc⟩
   · rw [eits_0 h,etext_lit n t p h];simp [flat,iS,It.text,dg]
   · rw [eits_1 h,etext_name n t p h];simp [flat,iS,It.text,wd]
   · rw [eits_2 h hk,etext_cell n t p h]
     have e:epart n t.kids 0 0=etext n a 0:=epart_some (by rw [hk];rfl) 0
     simp only [flat_append,eits_flat n a 0 ha,cellText,e]
     simp [flat,iS,It.text,wd,sn]
   · have hp:=tight_pos h0 h1
     rw [eits_3 h hk,etext_bin n t p h]
     have e1:epart n t.kids 0 (tightN t.op)=etext n a (tightN t.op):=epart_some (by rw [hk];rfl) _
     have e2:epart n t.kids 1 (tightN t.op+1)=etext n b (tightN t.op+1):=epart_some (by rw [hk];rfl) _
     have e:flat (ebin n t.op a b)=binText n t:=by
      unfold ebin binText
      simp only [flat_append,eits_flat n a _ ha,eits_flat n b _ hb,e1,e2]
      simp [flat,iS,iG,It.text,sn]
     unfold binTextAt
     rw [if_neg (show ¬ tightN t.op=0 by omega)]
     split
     · simp only [flat_append,e];simp [flat,iS,It.text,sn]
     · exact e
   · rw [eits_4 h hk,etext_not n t p h]
     have e:epart n t.kids 0 9=etext n a 9:=epart_some (by rw [hk];rfl) 9
     simp only [flat_append,eits_flat n a 9 ha,e]
     simp [flat,iS,It.text,sn]
   · rw [eits_5 h hk,etext_pick n t p h]
     have e1:epart n t.kids 0 0=etext n a 0:=epart_some (by rw [hk];rfl) 0
     have e2:epart n t.kids 1 0=etext n b 0:=epart_some (by rw [hk];rfl) 0
     have e3:epart n t.kids 2 0=etext n c 0:=epart_some (by rw [hk];rfl) 0
     simp only [flat_append,eits_flat n a 0 ha,eits_flat n b 0 hb,eits_flat n c 0 hc,pickText,e1,e2,e3]
     simp [flat,iS,iG,It.text,sn,kw,kPick]
theorem gap_of {c:UInt8} (h:Lx.blankB (Lx.num c)=true) (h35:Lx.num c≠35):isGap [c]:=fun l=>by
 show Lx.blanks false (c :: l)=1+Lx.blanks false l
 rw [Lx.blanks,if_neg h35]
 by_cases h10:Lx.num c=10
 · rw [if_pos h10];omega
 · rw [if_neg h10,if_pos (by simp [h])];omega
theorem gap_blank:isGap [32]:=gap_of (by decide) (by decide)
theorem gap_append {a b:List UInt8} (ha:isGap a) (hb:isGap b):isGap (a++b):=fun l=>by rw [List.append_assoc,ha,hb,List.length_append];omega
theorem gap_nil:isGap []:=fun l=>by simp
theorem soft_cons {c:UInt8} (l:List UInt8) (h:soft [c]=true):soft (c :: l)=true:=h
theorem signL_reads (op:Nat) (h:op<=9) (l:List UInt8):reads (sn (signL op)) (32 :: l):=by
 have:op=0\/op=1\/op=2\/op=3\/op=4\/op=5\/op=6\/op=7\/op=8\/op=9:=by omega
 rcases this with rfl | rfl | rfl | rfl | rfl | rfl | rfl | rfl | rfl | rfl
 · exact reads_one (by decide) (by decide) _
 · exact reads_one (by decide) (by decide) _
 · exact reads_one (by decide) (by decide) _
 · exact reads_one (by decide) (by decide) _
 · exact reads_one (by decide) (by decide) _
 · exact reads_one (by decide) (by decide) _
 · exact reads_two (by decide) _
 · exact reads_two (by decide) _
 · exact reads_two (by decide) _
 · exact reads_thin (by decide) _
theorem okF_s {s:Sg} {is:List It} {l:List UInt8} (h:reads s (flat is++l)) (h2:okF is l):okF (iS s :: is) l:=⟨h,h2⟩
theorem okF_g {g:List UInt8} {is:List It} {l:List UInt8} (h:isGap g) (h2:okF is l):okF (iG g :: is) l:=⟨h,h2⟩
theorem okF_nil {l:List UInt8} : okF [] l:=trivial
theorem eits_ok:∀ (n:Nat) (t:Tree) (p:Nat) (l:List UInt8),gT n t->soft l=true->okF (eits n t p) l
 | 0,_,_,_,h,_=>h.elim
 | n+1,t,p,l,h,hl=>by
   rcases h with ⟨h,_,_,hv,_⟩ | ⟨h,_,hn,_⟩ | ⟨h,_,hn,_,a,hk,ha⟩ | ⟨h,h0,h1,_,_,a,b,hk,ha,hb⟩ | ⟨h,_,_,_,a,hk,ha⟩ | ⟨h,_,_,_,a,b,c,hk,ha,hb,hc⟩
   · rw [eits_0 h];exact okF_s (reads_dg hv hl) trivial
   · rw [eits_1 h];exact okF_s (reads_wd hn hl) trivial
   · rw [eits_2 h hk]
     refine okF_append _ _ _ (okF_append _ _ _ (okF_s (reads_wd hn ?_) (okF_s (reads_one (by decide) (by decide) _) trivial)) (eits_ok n a 0 _ ha ?_)) (okF_s (reads_one (by decide) (by decide) _) trivial)
     · rfl
     · rfl
   · have hop:t.op.toNat<=9:=by omega
     have e:∀ l,soft l=true->okF (ebin n t.op a b) l:=fun l hl=>by
      unfold ebin
      exact okF_append _ _ _ (okF_append _ _ _ (eits_ok n a _ _ ha rfl) (okF_g gap_blank (okF_s (signL_reads _ hop _) (okF_g gap_blank trivial)))) (eits_ok n b _ _ hb hl)
     rw [eits_3 h hk]
     split
     · exact okF_append _ _ _ (okF_append _ _ _ (okF_s (reads_one (by decide) (by decide) _) trivial) (e _ rfl)) (okF_s (reads_one (by decide) (by decide) _) trivial)
     · exact e l hl
   · rw [eits_4 h hk]
     exact okF_append _ _ _ (okF_s (reads_one (by decide) (by decide) _) trivial) (eits_ok n a 9 _ ha hl)
   · rw [eits_5 h hk]
     refine okF_append _ _ _ (okF_append _ _ _ (okF_append _ _ _ (okF_append _ _ _ (okF_append _ _ _ (okF_append _ _ _ (okF_s (reads_kw (wordText_of (by decide) (by decide)) (by decide) rfl) (okF_s (reads_one (by decide) (by decide) _) trivial)) (eits_ok n a 0 _ ha rfl)) ?_) (eits_ok n b 0 _ hb rfl)) ?_) (eits_ok n c 0 _ hc rfl)) (okF_s (reads_one (by decide) (by decide) _) trivial)
     · exact okF_s (reads_one (by decide) (by decide) _) (okF_g gap_blank trivial)
     · exact okF_s (reads_one (by decide) (by decide) _) (okF_g gap_blank trivial)
def eqT:Nat->Tree->Tree->Prop
 | 0,_,_=>False
 | n+1,s,t=>s.kind=t.kind/\s.op=t.op/\s.name=t.name/\s.value=t.value/\s.kids.length=t.kids.length/\∀ (i:Nat) (x y:Tree),s.kids[i]?=some x->t.kids[i]?=some y->eqT n x y
theorem eqT_0 {n:Nat} {s t:Tree} (h1:s.kind=t.kind) (h2:s.op=t.op) (h3:s.name=t.name) (h4:s.value=t.value) (hs:s.kids=[]) (ht:t.kids=[]):eqT (n+1) s t:=
 ⟨h1,h2,h3,h4,by rw [hs,ht],fun i x y hx _=>by rw [hs] at hx;simp at hx⟩
theorem eqT_1 {n:Nat} {s t a b:Tree} (h1:s.kind=t.kind) (h2:s.op=t.op) (h3:s.name=t.name) (h4:s.value=t.value) (hs:s.kids=[a]) (ht:t.kids=[b]) (h:eqT n a b):eqT (n+1) s t:=
 ⟨h1,h2,h3,h4,by rw [hs,ht];rfl,fun i x y hx hy=>by
    rw [hs] at hx;rw [ht] at hy
    match i,hx,hy with
    | 0,hx,hy=>simp at hx hy;subst hx hy;exact h⟩
theorem eqT_2 {n:Nat} {s t a b c d:Tree} (h1:s.kind=t.kind) (h2:s.op=t.op) (h3:s.name=t.name) (h4:s.value=t.value) (hs:s.kids=[a,b]) (ht:t.kids=[c,d]) (h:eqT n a c) (h':eqT n b d):eqT (n+1) s t:=
 ⟨h1,h2,h3,h4,by rw [hs,ht];rfl,fun i x y hx hy=>by
    rw [hs] at hx;rw [ht] at hy
    match i,hx,hy with
    | 0,hx,hy=>simp at hx hy;subst hx hy;exact h
    | 1,hx,hy=>simp at hx hy;subst hx hy;exact h'⟩
theorem eqT_3 {n:Nat} {s t a b c d e f:Tree} (h1:s.kind=t.kind) (h2:s.op=t.op) (h3:s.name=t.name) (h4:s.value=t.value) (hs:s.kids=[a,b,c]) (ht:t.kids=[d,e,f]) (h:eqT n a d) (h':eqT n b e) (h'':eqT n c f):eqT (n+1) s t:=
 ⟨h1,h2,h3,h4,by rw [hs,ht];rfl,fun i x y hx hy=>by
    rw [hs] at hx;rw [ht] at hy
    match i,hx,hy with
    | 0,hx,hy=>simp at hx hy;subst hx hy;exact h
    | 1,hx,hy=>simp at hx hy;subst hx hy;exact h'
    | 2,hx,hy=>simp at hx hy;subst hx hy;exact h''⟩
theorem here_cons (t:Tok) (us:List Tok) (e:Option (Nat × Nat)):(Rd.mk (t :: us) e).here=t:=rfl
theorem next_cons (t:Tok) {us:List Tok} (h:us≠[]) (e:Option (Nat × Nat)):(Rd.mk (t :: us) e).next=⟨us,e⟩:=by
 cases us with
 | nil=>exact absurd rfl h
 | cons a b=>simp [Rd.next]
theorem is_cons (t:Tok) (us:List Tok) (e:Option (Nat × Nat)) (s:List UInt8):(Rd.mk (t :: us) e).is s=(t.text == s):=rfl
theorem want_cons {t:Tok} {us:List Tok} (h:us≠[]) (e:Option (Nat × Nat)) {s:List UInt8} (ht:t.text=s):(Rd.mk (t :: us) e).want s=⟨us,e⟩:=by
 unfold Rd.want
 rw [is_cons,ht,beq_self_eq_true,if_pos rfl,next_cons t h]
theorem name_cons {t:Tok} {us:List Tok} (h:us≠[]) (e:Option (Nat × Nat)) (ht:t.kind=1):(Rd.mk (t :: us) e).name=(t.text,⟨us,e⟩):=by
 unfold Rd.name
 rw [here_cons,if_pos ht,next_cons t h]
def goodL (r:List Tok):Prop:=(⟨r,none⟩:Rd).good
theorem goodL.ne {r:List Tok} (h:goodL r):r≠[]:=by have:=Rd.good.pos h;intro e;subst e;simp at this
theorem goodL.app {us r:List Tok} (hu:∀ t ∈ us,t.kind≠0/\t.text≠[]) (h:goodL r):goodL (us++r):=by
 obtain ⟨vs,k,e,hv⟩:=h
 refine ⟨us++vs,k,?_,fun t ht=>?_⟩
 · show us++r=_;rw [show r=vs++[endT k] from e,List.append_assoc]
 · rcases List.mem_append.1 ht with h | h
   · exact hu t h
   · exact hv t h
def sOK (s:Sg):Prop:=s.kind≠0/\s.text≠[]
theorem toks_ok {us:List Tok} {ss:List Sg} (h:us.map sgOf=ss) (hs:∀ s ∈ ss,sOK s):∀ t ∈ us,t.kind≠0/\t.text≠[]:=fun t ht=>
 hs (sgOf t) (by rw [<- h];exact List.mem_map.2 ⟨t,ht,rfl⟩)
theorem wd_ok {s:ByteArray} (h:isName s):sOK (wd s):=⟨by simp [wd],by obtain ⟨⟨⟨c,r,e,_⟩,_⟩,_⟩:=h;show bys s≠[];rw [e];simp⟩
theorem dg_ok (n:Nat):sOK (dg n):=⟨by simp [dg],by obtain ⟨c,r,e,_⟩:=digits_cons n;show decDigits n≠[];rw [e];simp⟩
theorem sn_ok {x:List UInt8} (h:x≠[]):sOK (sn x):=⟨by simp [sn],h⟩
theorem kw_ok {x:List UInt8} (h:x≠[]):sOK (kw x):=⟨by simp [kw],h⟩
theorem signL_ne (op:Nat) (h:op<=9):signL op≠[]:=by
 have:op=0\/op=1\/op=2\/op=3\/op=4\/op=5\/op=6\/op=7\/op=8\/op=9:=by omega
 rcases this with rfl | rfl | rfl | rfl | rfl | rfl | rfl | rfl | rfl | rfl <;> decide
theorem eits_sok:∀ (n:Nat) (t:Tree) (p:Nat),gT n t->∀ s ∈ sgs (eits n t p),sOK s
 | 0,_,_,h=>h.elim
 | n+1,t,p,h=>by
   rcases h with ⟨h,_,_,hv,_⟩ | ⟨h,_,hn,_⟩ | ⟨h,_,hn,_,a,hk,ha⟩ | ⟨h,h0,h1,_,_,a,b,hk,ha,hb⟩ | ⟨h,_,_,_,a,hk,ha⟩ | ⟨h,_,_,_,a,b,c,hk,ha,hb,hc⟩
   · rw [eits_0 h];intro s hs;obtain rfl:s=dg t.value:=by simpa [sgs,iS] using hs
     exact dg_ok _
   · rw [eits_1 h];intro s hs;obtain rfl:s=wd t.name:=by simpa [sgs,iS] using hs
     exact wd_ok hn
   · rw [eits_2 h hk]
     intro s hs
     simp only [sgs_append,List.mem_append] at hs
     rcases hs with (hs | hs) | hs
     · simp [sgs,iS] at hs;rcases hs with rfl | rfl
       · exact wd_ok hn
       · exact sn_ok (by simp)
     · exact eits_sok n a 0 ha s hs
     · simp [sgs,iS] at hs;subst hs;exact sn_ok (by simp)
   · have hop:t.op.toNat<=9:=by omega
     have e:∀ s ∈ sgs (ebin n t.op a b),sOK s:=fun s hs=>by
      unfold ebin at hs
      simp only [sgs_append,List.mem_append] at hs
      rcases hs with (hs | hs) | hs
      · exact eits_sok n a _ ha s hs
      · simp [sgs,iS,iG] at hs;subst hs;exact sn_ok (signL_ne _ hop)
      · exact eits_sok n b _ hb s hs
     rw [eits_3 h hk]
     split
     · intro s hs
       simp only [sgs_append,List.mem_append] at hs
       rcases hs with (hs | hs) | hs
       · simp [sgs,iS] at hs;subst hs;exact sn_ok (by simp)
       · exact e s hs
       · simp [sgs,iS] at hs;subst hs;exact sn_ok (by simp)
     · exact e
   · rw [eits_4 h hk]
     intro s hs
     simp only [sgs_append,List.mem_append] at hs
     rcases hs with hs | hs
     · simp [sgs,iS] at hs;subst hs;exact sn_ok (by simp)
     · exact eits_sok n a 9 ha s hs
   · rw [eits_5 h hk]
     intro s hs
     simp only [sgs_append,List.mem_append] at hs
     rcases hs with (((((hs | hs) | hs) | hs) | hs) | hs) | hs
     · simp [sgs,iS] at hs;rcases hs with rfl | rfl
       · exact kw_ok (by decide)
       · exact sn_ok (by simp)
     · exact eits_sok n a 0 ha s hs
     · simp [sgs,iS,iG] at hs;subst hs;exact sn_ok (by simp)
     · exact eits_sok n b 0 hb s hs
     · simp [sgs,iS,iG] at hs;subst hs;exact sn_ok (by simp)
     · exact eits_sok n c 0 hc s hs
     · simp [sgs,iS] at hs;subst hs;exact sn_ok (by simp)
def notOpen (r:List Tok):Prop:=(r.headD (endT 0)).text≠[91]
def UnC (n:Nat):Prop:=∀ (t:Tree) (p f deep:Nat) (us r:List Tok),gT n t->(t.kind=3->tightN t.op<p)->us.map sgOf=sgs (eits n t p)->goodL r->notOpen r->deep+dpE n t p<=40->41<=deep+f ->
 ∃ t',unaryP f deep ⟨us++r,none⟩=(t',⟨r,none⟩)/\eqT n t' t
def ExC (n:Nat):Prop:=∀ (t:Tree) (p f tight deep:Nat) (us r:List Tok),gT n t->(tight<p\/tight=0)->tightAt r<=p->us.map sgOf=sgs (eits n t p)->goodL r->notOpen r->deep+dpE n t p<=40->41<=deep+f ->
 ∃ t',exprP f tight deep ⟨us++r,none⟩=loopOf (exprP (f-1)) tight deep r.length t' ⟨r,none⟩/\eqT n t' t
theorem ExC.whole {n:Nat} (h:ExC n) (t:Tree) (p f deep:Nat) (us r:List Tok) (hg:gT n t) (ht:tightAt r=0) (hu:us.map sgOf=sgs (eits n t p)) (hr:goodL r) (ho:notOpen r) (hd:deep+dpE n t p<=40) (hf:41<=deep+f):
    ∃ t',exprP f 0 deep ⟨us++r,none⟩=(t',⟨r,none⟩)/\eqT n t' t:=by
 obtain ⟨t',e,h'⟩:=h t p f 0 deep us r hg (Or.inr rfl) (by omega) hu hr ho hd hf
 exact ⟨t',by rw [e,loop_stop (by show tightAt r<=0;omega)],h'⟩
theorem opOf_sign (op:Int) (h0:0<=op) (h1:op<=9):opOf (signL op.toNat)=op:=by
 obtain ⟨k,rfl⟩:∃ k:Nat,op=k:=⟨op.toNat,by omega⟩
 have:k=0\/k=1\/k=2\/k=3\/k=4\/k=5\/k=6\/k=7\/k=8\/k=9:=by omega
 rcases this with rfl | rfl | rfl | rfl | rfl | rfl | rfl | rfl | rfl | rfl <;> decide
theorem signL_open (op:Nat):signL op≠[91]:=by
 unfold signL
 match op with
 | 0=>decide
 | 1=>decide
 | 2=>decide
 | 3=>decide
 | 4=>decide
 | 5=>decide
 | 6=>decide
 | 7=>decide
 | 8=>decide
 | 9=>decide
 | n+10=>simp
theorem gT_pos {n:Nat} {t:Tree} (h:gT n t):1<=n:=by
 cases n with
 | zero=>exact h.elim
 | succ n=>omega
theorem bin_back {n:Nat} (ih:ExC n) (op:Int) (a b:Tree) (f tight deep:Nat) (us r:List Tok) (ha:gT n a) (hb:gT n b) (h0:0<=op) (h1:op<=9) (ht:tight<tightN op) (hr:tightAt r<=tightN op) (hu:us.map sgOf=sgs (ebin n op a b)) (hg:goodL r) (ho:notOpen r)
    (hd:deep+max (dpE n a (tightN op)) (1+dpE n b (tightN op+1))<=40) (hf:41<=deep+f):∃ a' b',exprP f tight deep ⟨us++r,none⟩=loopOf (exprP (f-1)) tight deep r.length (opT op a' b') ⟨r,none⟩/\eqT n a' a/\eqT n b' b:=by
 have hn:=gT_pos ha
 have hop:op.toNat<=9:=by omega
 unfold ebin at hu
 simp only [sgs_append] at hu
 obtain ⟨us1,ub,rfl,hu1,hub⟩:=List.map_eq_append_iff.1 hu
 obtain ⟨ua,um,rfl,hua,hum⟩:=List.map_eq_append_iff.1 hu1
 have hum':um.map sgOf=[sn (signL op.toNat)]:=hum
 obtain ⟨o,um',rfl,ho1,hum2⟩:=List.map_eq_cons_iff.1 hum'
 obtain rfl:um'=[]:=by simpa using hum2
 have hot:o.text=signL op.toNat:=congrArg Sg.text ho1
 have hok:∀ t ∈ ub,t.kind≠0/\t.text≠[]:=toks_ok hub (eits_sok n b _ hb)
 have hgb:goodL (ub++r):=hg.app hok
 have hgo:goodL (o :: (ub++r)):=goodL.app (us:=[o]) (toks_ok hum' (fun s hs=>by simp at hs;subst hs;exact sn_ok (signL_ne _ hop))) hgb
 have hto:tightAt (o :: (ub++r))=tightN op:=by unfold tightAt;simp only [List.headD_cons];rw [hot,opOf_sign op h0 h1]
 obtain ⟨a',ea,qa⟩:=ih a (tightN op) f tight deep ua (o :: (ub++r)) ha (Or.inl ht) (by rw [hto];exact Nat.le_refl _) hua hgo (by unfold notOpen;simp only [List.headD_cons];rw [hot];exact signL_open _) (by omega) hf
 obtain ⟨b',eb,qb⟩:=ih b (tightN op+1) (f-1) (tightN op) (deep+1) ub r hb (Or.inl (by omega)) (by omega) hub hg ho (by omega) (by omega)
 rw [loop_stop (by exact hr)] at eb
 refine ⟨a',b',?_,qa,qb⟩
 have e1:ua++[o]++ub++r=ua++(o :: (ub++r)):=by simp
 rw [e1,ea]
 have e2:(o :: (ub++r)).length=(ub++r).length+1:=rfl
 rw [e2]
 have hne:ub++r≠[]:=hgb.ne
 rw [loopOf,here_cons,hot,opOf_sign op h0 h1,if_neg (by omega),next_cons o hne,eb]
 refine loop_fuel (to_expr _) _ _ _ _ hg ?_ (Nat.le_refl _)
 show r.length<=(ub++r).length
 simp
theorem word_ne {s:ByteArray} (h:isName s) {x:List UInt8} (hx:(match x with | c :: _=>Lx.letterB (Lx.num c) | []=>false)=false):bys s≠x:=by
 obtain ⟨⟨⟨c,r,e,hc⟩,_⟩,_⟩:=h
 intro he
 rw [<- he,e] at hx
 simp only at hx
 rw [hc] at hx;cases hx
theorem name_ne_key {s:ByteArray} (h:isName s) {x:List UInt8} (hx:Lx.keyB x=true):bys s≠x:=fun e=>by rw [<- e,h.2] at hx;cases hx
theorem dec_ne {n:Nat} {x:List UInt8} (hx:(match x with | c :: _=>Lx.digitB (Lx.num c) | []=>false)=false):decDigits n≠x:=by
 obtain ⟨c,r,e,hc⟩:=digits_cons n
 intro he
 rw [<- he,e] at hx
 simp only at hx
 rw [hc] at hx;cases hx
theorem un_succ {n:Nat} (ihU:UnC n) (ihE:ExC n):UnC (n+1):=by
 intro t p f deep us r hg h3 hu hr ho hd hf
 obtain ⟨f,rfl⟩:∃ g,f=g+1:=⟨f-1,by omega⟩
 have hdeep:¬ 40<deep:=by omega
 rw [unaryP_succ]
 rcases hg with ⟨h,h2,h4,hv,hk⟩ | ⟨h,h2,hn,hv,hk⟩ | ⟨h,h2,hn,hv,a,hk,ha⟩ | ⟨h,h0,h1,h4,hv,a,b,hk,ha,hb⟩ | ⟨h,h2,h4,hv,a,hk,ha⟩ | ⟨h,h2,h4,hv,a,b,c,hk,ha,hb,hc⟩
 · rw [eits_0 h] at hu
   have hu':us.map sgOf=[dg t.value]:=hu
   obtain ⟨x,us',rfl,hx,hus⟩:=List.map_eq_cons_iff.1 hu'
   obtain rfl:us'=[]:=by simpa using hus
   have hxk:x.kind=3:=congrArg Sg.kind hx
   have hxt:x.text=decDigits t.value:=congrArg Sg.text hx
   have hxv:x.value=t.value:=congrArg Sg.value hx
   refine ⟨⟨0,0,⟨#[]⟩,x.value,[],x.at_⟩,?_,eqT_0 h.symm h2.symm h4.symm hxv rfl hk⟩
   unfold unaryOf
   simp only [List.cons_append,List.nil_append,here_cons,next_cons x hr.ne]
   rw [if_neg (by simp [beginsB,hxk]),if_neg hdeep,if_neg (by rw [hxt];exact dec_ne (by decide)),if_neg (by rw [hxt];exact dec_ne (by decide)),if_neg (by rw [hxt];exact dec_ne (by decide)),if_pos hxk]
 · rw [eits_1 h] at hu
   have hu':us.map sgOf=[wd t.name]:=hu
   obtain ⟨x,us',rfl,hx,hus⟩:=List.map_eq_cons_iff.1 hu'
   obtain rfl:us'=[]:=by simpa using hus
   have hxk:x.kind=1:=congrArg Sg.kind hx
   have hxt:x.text=bys t.name:=congrArg Sg.text hx
   refine ⟨⟨1,0,bstr x.text,0,[],x.at_⟩,?_,eqT_0 h.symm h2.symm (by show bstr x.text=_;rw [hxt,bstr_bys]) hv.symm rfl hk⟩
   unfold unaryOf
   simp only [List.cons_append,List.nil_append,here_cons,next_cons x hr.ne]
   rw [if_neg (by simp [beginsB,hxk]),if_neg hdeep,if_neg (by rw [hxt];exact word_ne hn (by decide)),if_neg (by rw [hxt];exact name_ne_key hn (by decide)),if_neg (by rw [hxt];exact word_ne hn (by decide)),if_neg (by rw [hxk];decide)]
   unfold namedOf
   rw [if_neg (by
    intro e
    exact ho (by simpa [Rd.is,Rd.here] using e))]
 · rw [eits_2 h hk] at hu
   rw [dp_2 h hk] at hd
   have hu':us.map sgOf=wd t.name :: sn [91] :: (sgs (eits n a 0)++[sn [93]]):=by simpa [sgs_append,sgs,iS] using hu
   obtain ⟨x,us1,rfl,hx,hu1⟩:=List.map_eq_cons_iff.1 hu'
   obtain ⟨y,us2,rfl,hy,hu2⟩:=List.map_eq_cons_iff.1 hu1
   obtain ⟨ua,uz,rfl,hua,huz⟩:=List.map_eq_append_iff.1 hu2
   obtain ⟨z,uz',rfl,hz,huz2⟩:=List.map_eq_cons_iff.1 huz
   obtain rfl:uz'=[]:=by simpa using huz2
   have hxk:x.kind=1:=congrArg Sg.kind hx
   have hxt:x.text=bys t.name:=congrArg Sg.text hx
   have hyt:y.text=[91]:=congrArg Sg.text hy
   have hzt:z.text=[93]:=congrArg Sg.text hz
   have hgz:goodL (z :: r):=goodL.app (us:=[z]) (toks_ok huz (fun s hs=>by simp at hs;subst hs;exact sn_ok (by simp))) hr
   have hga:goodL (ua++(z :: r)):=hgz.app (toks_ok hua (eits_sok n a _ ha))
   obtain ⟨a',ea,qa⟩:=ihE.whole a 0 f (deep+1) ua (z :: r) ha (by unfold tightAt;simp only [List.headD_cons];rw [hzt];decide) hua hgz (by unfold notOpen;simp only [List.headD_cons];rw [hzt];decide) (by omega) (by omega)
   refine ⟨⟨2,0,bstr x.text,0,[a'],x.at_⟩,?_,eqT_1 h.symm h2.symm (by show bstr x.text=_;rw [hxt,bstr_bys]) hv.symm rfl hk qa⟩
   have e1:x :: y :: (ua++[z])++r=x :: y :: (ua++(z :: r)):=by simp
   rw [e1]
   unfold unaryOf
   simp only [here_cons,next_cons x (show y :: (ua++(z :: r))≠[] by simp)]
   rw [if_neg (by simp [beginsB,hxk]),if_neg hdeep,if_neg (by rw [hxt];exact word_ne hn (by decide)),if_neg (by rw [hxt];exact name_ne_key hn (by decide)),if_neg (by rw [hxt];exact word_ne hn (by decide)),if_neg (by rw [hxk];decide)]
   unfold namedOf
   rw [if_pos (by rw [is_cons,hyt];rfl),next_cons y hga.ne,ea]
   simp only [want_cons hr.ne none hzt]
 · have hop:t.op.toNat<=9:=by omega
   have hb3:=h3 h
   rw [eits_3 h hk,if_pos hb3] at hu
   rw [dp_3 h hk,if_pos hb3] at hd
   have hu':us.map sgOf=sn [40] :: (sgs (ebin n t.op a b)++[sn [41]]):=by simpa [sgs_append,sgs,iS] using hu
   obtain ⟨x,us1,rfl,hx,hu1⟩:=List.map_eq_cons_iff.1 hu'
   obtain ⟨ua,uz,rfl,hua,huz⟩:=List.map_eq_append_iff.1 hu1
   obtain ⟨z,uz',rfl,hz,huz2⟩:=List.map_eq_cons_iff.1 huz
   obtain rfl:uz'=[]:=by simpa using huz2
   have hxt:x.text=[40]:=congrArg Sg.text hx
   have hzt:z.text=[41]:=congrArg Sg.text hz
   have hgz:goodL (z :: r):=goodL.app (us:=[z]) (toks_ok huz (fun s hs=>by simp at hs;subst hs;exact sn_ok (by simp))) hr
   have htz:tightAt (z :: r)=0:=by unfold tightAt;simp only [List.headD_cons];rw [hzt];decide
   obtain ⟨a',b',e,qa,qb⟩:=bin_back ihE t.op a b f 0 (deep+1) ua (z :: r) ha hb h0 h1 (tight_pos h0 h1) (by omega) hua hgz (by unfold notOpen;simp only [List.headD_cons];rw [hzt];decide) (by omega) (by omega)
   rw [loop_stop (by show tightAt (z :: r)<=0;omega)] at e
   refine ⟨opT t.op a' b',?_,eqT_2 h.symm rfl h4.symm hv.symm rfl hk qa qb⟩
   have e1:x :: (ua++[z])++r=x :: (ua++(z :: r)):=by simp
   rw [e1]
   unfold unaryOf
   simp only [here_cons,next_cons x (show ua++(z :: r)≠[] by simp)]
   rw [if_neg (by simp [beginsB,hxt]),if_neg hdeep,if_neg (by rw [hxt];decide),if_neg (by rw [hxt];decide),if_pos hxt,e]
   simp only [want_cons hr.ne none hzt]
 · rw [eits_4 h hk] at hu
   rw [dp_4 h hk] at hd
   have hu':us.map sgOf=sn [126] :: sgs (eits n a 9):=by simpa [sgs_append,sgs,iS] using hu
   obtain ⟨x,ua,rfl,hx,hua⟩:=List.map_eq_cons_iff.1 hu'
   have hxt:x.text=[126]:=congrArg Sg.text hx
   obtain ⟨a',ea,qa⟩:=ihU a 9 f (deep+1) ua r ha (fun _=>by have:=tightN_le a.op;omega) hua hr ho (by omega) (by omega)
   refine ⟨⟨4,0,⟨#[]⟩,0,[a'],x.at_⟩,?_,eqT_1 h.symm h2.symm h4.symm hv.symm rfl hk qa⟩
   unfold unaryOf
   simp only [List.cons_append,here_cons,next_cons x (show ua++r≠[] from fun e=>hr.ne (by simp at e;exact e.2))]
   rw [if_neg (by simp [beginsB,hxt]),if_neg hdeep,if_pos hxt,ea]
 · rw [eits_5 h hk] at hu
   rw [dp_5 h hk] at hd
   have hu':us.map sgOf=kw kPick :: sn [40] :: (sgs (eits n a 0)++(sn [44] :: (sgs (eits n b 0)++(sn [44] :: (sgs (eits n c 0)++[sn [41]]))))):=by simpa [sgs_append,sgs,iS,iG] using hu
   obtain ⟨x,us1,rfl,hx,hu1⟩:=List.map_eq_cons_iff.1 hu'
   obtain ⟨y,us2,rfl,hy,hu2⟩:=List.map_eq_cons_iff.1 hu1
   obtain ⟨ua,us3,rfl,hua,hu3⟩:=List.map_eq_append_iff.1 hu2
   obtain ⟨c1,us4,rfl,hc1,hu4⟩:=List.map_eq_cons_iff.1 hu3
   obtain ⟨ub,us5,rfl,hub,hu5⟩:=List.map_eq_append_iff.1 hu4
   obtain ⟨c2,us6,rfl,hc2,hu6⟩:=List.map_eq_cons_iff.1 hu5
   obtain ⟨uc,uz,rfl,huc,huz⟩:=List.map_eq_append_iff.1 hu6
   obtain ⟨z,uz',rfl,hz,huz2⟩:=List.map_eq_cons_iff.1 huz
   obtain rfl:uz'=[]:=by simpa using huz2
   have hxt:x.text=kPick:=congrArg Sg.text hx
   have hyt:y.text=[40]:=congrArg Sg.text hy
   have hc1t:c1.text=[44]:=congrArg Sg.text hc1
   have hc2t:c2.text=[44]:=congrArg Sg.text hc2
   have hzt:z.text=[41]:=congrArg Sg.text hz
   have one:∀ (t:Tok) (s:List UInt8) (l:List Tok),sgOf t=sn s->s≠[]->goodL l->goodL (t :: l):=fun t s l e hs hl=>goodL.app (us:=[t]) (fun x hx=>by simp at hx;subst hx;exact ⟨by rw [show x.kind=4 from congrArg Sg.kind e];decide,by rw [show x.text=s from congrArg Sg.text e];exact hs⟩) hl
   have hgz:goodL (z :: r):=one z _ r hz (by simp) hr
   have hgc:goodL (c2 :: (uc++(z :: r))):=one c2 _ _ hc2 (by simp) (hgz.app (toks_ok huc (eits_sok n c _ hc)))
   have hgb:goodL (c1 :: (ub++(c2 :: (uc++(z :: r))))):=one c1 _ _ hc1 (by simp) (hgc.app (toks_ok hub (eits_sok n b _ hb)))
   have zero:∀ (t:Tok) (l:List Tok) (s:List UInt8),t.text=s->tightN (opOf s)=0->tightAt (t :: l)=0:=fun t l s e h=>by unfold tightAt;simp only [List.headD_cons];rw [e];exact h
   have nope:∀ (t:Tok) (l:List Tok) (s:List UInt8),t.text=s->s≠[91]->notOpen (t :: l):=fun t l s e h=>by unfold notOpen;simp only [List.headD_cons];rw [e];exact h
   obtain ⟨a',ea,qa⟩:=ihE.whole a 0 f (deep+1) ua (c1 :: (ub++(c2 :: (uc++(z :: r))))) ha (zero _ _ _ hc1t (by decide)) hua hgb (nope _ _ _ hc1t (by decide)) (by omega) (by omega)
   obtain ⟨b',eb,qb⟩:=ihE.whole b 0 f (deep+1) ub (c2 :: (uc++(z :: r))) hb (zero _ _ _ hc2t (by decide)) hub hgc (nope _ _ _ hc2t (by decide)) (by omega) (by omega)
   obtain ⟨c',ec,qc⟩:=ihE.whole c 0 f (deep+1) uc (z :: r) hc (zero _ _ _ hzt (by decide)) huc hgz (nope _ _ _ hzt (by decide)) (by omega) (by omega)
   refine ⟨⟨5,0,⟨#[]⟩,0,[a',b',c'],x.at_⟩,?_,eqT_3 h.symm h2.symm h4.symm hv.symm rfl hk qa qb qc⟩
   have e1:x :: y :: (ua++c1 :: (ub++c2 :: (uc++[z])))++r=x :: y :: (ua++(c1 :: (ub++(c2 :: (uc++(z :: r)))))):=by simp
   rw [e1]
   unfold unaryOf
   simp only [here_cons,next_cons x (show y :: (ua++(c1 :: (ub++(c2 :: (uc++(z :: r))))))≠[] by simp)]
   rw [if_neg (by simp [beginsB,hxt]),if_neg hdeep,if_neg (by rw [hxt];decide),if_pos hxt]
   unfold threeOf
   simp only [want_cons (show ua++(c1 :: (ub++(c2 :: (uc++(z :: r)))))≠[] by simp) none hyt,ea,want_cons (show ub++(c2 :: (uc++(z :: r)))≠[] by simp) none hc1t,eb,want_cons (show uc++(z :: r)≠[] by simp) none hc2t,ec,want_cons hr.ne none hzt]
theorem ex_succ {n:Nat} (ihU:UnC n) (ihE:ExC n):ExC (n+1):=by
 intro t p f tight deep us r hg htp hrt hu hr ho hd hf
 have hU:=un_succ ihU ihE
 by_cases hb:t.kind=3/\¬ tightN t.op<p
 · obtain ⟨h,hnp⟩:=hb
   rcases hg with ⟨h',_⟩ | ⟨h',_⟩ | ⟨h',_⟩ | ⟨_,h0,h1,h4,hv,a,b,hk,ha,hb⟩ | ⟨h',_⟩ | ⟨h',_⟩
   · rw [h] at h';cases h'
   · rw [h] at h';cases h'
   · rw [h] at h';cases h'
   · rw [eits_3 h hk,if_neg hnp] at hu
     rw [dp_3 h hk,if_neg hnp] at hd
     have hp:=tight_pos h0 h1
     obtain ⟨a',b',e,qa,qb⟩:=bin_back ihE t.op a b f tight deep us r ha hb h0 h1 (by omega) (by omega) hu hr ho (by omega) hf
     exact ⟨opT t.op a' b',e,eqT_2 h.symm rfl h4.symm hv.symm rfl hk qa qb⟩
   · rw [h] at h';cases h'
   · rw [h] at h';cases h'
 · obtain ⟨t',e,q⟩:=hU t p f deep us r hg (fun h=>Decidable.byContradiction fun hn=>hb ⟨h,hn⟩) hu hr ho hd hf
   obtain ⟨f,rfl⟩:∃ g,f=g+1:=⟨f-1,by omega⟩
   refine ⟨t',?_,q⟩
   rw [exprP_succ]
   unfold exprOf
   rw [e]
   rfl
theorem back_all:∀ n,UnC n/\ExC n
 | 0=>⟨fun _ _ _ _ _ _ h=>h.elim,fun _ _ _ _ _ _ _ h=>h.elim⟩
 | n+1=>⟨un_succ (back_all n).1 (back_all n).2,ex_succ (back_all n).1 (back_all n).2⟩
end Go.Proofs.YtlepckjmdjjolaaGreatDoor.Pr
