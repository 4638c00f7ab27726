/- What the texts of ParseLimits are read as: plain. Conditions: none. -/
import Derived.Test.YtlepckjmdjjolaaGreatDoorGWMadeA
import Derived.Test.YtlepckjmdjjolaaGreatDoorGPPlainB
namespace Go.Proofs.YtlepckjmdjjolaaGreatDoor.Pr
open Go.Lib (decDigits)
open Lx (Tok)
set_option linter.unusedVariables false
set_option linter.unusedSimpArgs false
theorem declLoop_full (r:List Tok) (hr:goodL r):∀ (ds:List Dcl) (k:Nat) (acc:List Dcl) (us:List Tok),(∀ d ∈ ds,gD d)->us.map sgOf=sgs (ds.map dits).flatten->acc.length<=64->64<acc.length+ds.length->64<acc.length+k ->
 ∃ a,(declLoop k acc ⟨us++r,none⟩).2.err=some (6,a)
 | [],k,acc,us,_,_,h1,h2,_=>by simp at h2;omega
 | d :: ds,k,acc,us,hg,hu,h1,h2,h3=>by
   simp only [List.map_cons,List.flatten_cons,sgs_append] at hu
   obtain ⟨ua,ub,rfl,hua,hub⟩:=List.map_eq_append_iff.1 hu
   have hgb:goodL (ub++r):=hr.app (toks_ok hub (allOK_map dits ds fun x hx=>dits_sok x (hg x (by simp [hx]))))
   obtain ⟨d',ed,qd⟩:=decl_back d ua (ub++r) (hg d (by simp)) hua hgb
   simp only [List.length_cons] at h2
   obtain ⟨k,rfl⟩:∃ j,k=j+1:=⟨k-1,by omega⟩
   have his:(⟨ua++(ub++r),none⟩:Rd).is kThread=false:=by
     obtain ⟨x,ss,e0,hx⟩:=dits_head (d:=d)
     rw [e0] at hua
     obtain ⟨t,ts,rfl,_,ht,_⟩:=tok_cons hua
     rw [List.cons_append,is_cons,ht]
     rcases hx with rfl | rfl | rfl <;> decide
   rw [declLoop,List.append_assoc]
   simp only [Option.isSome_none,Bool.false_eq_true,if_false,his]
   by_cases h64:acc.length=64
   · rw [if_pos h64]
     exact ⟨_,rfl⟩
   · rw [if_neg h64,ed]
     exact declLoop_full r hr ds k (acc++[d']) ub (fun x hx=>hg x (by simp [hx])) hub (by simp;omega) (by simp;omega) (by simp;omega)
theorem thrLoop_full (m n e:Nat):∀ (ts:List (List Stm)) (k:Nat) (acc:List (List Stm)) (us:List Tok),(∀ ss ∈ ts,∀ s ∈ ss,gS m n s)->(∀ ss ∈ ts,∀ s ∈ ss,fitS m n 1 s)->us.map sgOf=sgs (ts.map (tits m n)).flatten->acc.length<=16->16<acc.length+ts.length->16<acc.length+k ->
 ∃ a,(thrLoop k acc ⟨us++[endT e],none⟩).2.err=some (6,a)
 | [],k,acc,us,_,_,_,h1,h2,_=>by simp at h2;omega
 | ss :: ts,k,acc,us,hg,hf,hu,h1,h2,h3=>by
   simp only [List.map_cons,List.flatten_cons,sgs_append] at hu
   obtain ⟨ua,ub,rfl,hua,hub⟩:=List.map_eq_append_iff.1 hu
   have hgb:goodL (ub++[endT e]):=(end_good e).app (toks_ok hub (allOK_map (tits m n) ts fun x hx=>tits_sok m n x (hg x (by simp [hx]))))
   obtain ⟨s',es,qs⟩:=thr_back m n ss ua (ub++[endT e]) (hg ss (by simp)) (hf ss (by simp)) hua hgb
   simp only [List.length_cons] at h2
   obtain ⟨k,rfl⟩:∃ j,k=j+1:=⟨k-1,by omega⟩
   have hkind:¬ (⟨ua++(ub++[endT e]),none⟩:Rd).here.kind=0:=by
    unfold tits at hua
    obtain ⟨t,us',rfl,hk',_⟩:=tok_cons (show ua.map sgOf=kw kThread :: _ from hua)
    rw [List.cons_append,here_cons,hk'];decide
   rw [thrLoop,List.append_assoc]
   simp only [Option.isSome_none,Bool.false_eq_true,if_false,if_neg hkind]
   by_cases h16:acc.length=16
   · rw [if_pos h16]
     exact ⟨_,rfl⟩
   · rw [if_neg h16,es]
     exact thrLoop_full m n e ts k (acc++[s']) ub (fun x hx=>hg x (by simp [hx])) (fun x hx=>hf x (by simp [hx])) hub (by simp;omega) (by simp;omega) (by simp;omega)
theorem thrLoop_err {r:Rd} {e:Nat × Nat} (h:r.err=some e):∀ k acc,(thrLoop k acc r).2.err=some e
 | 0,acc=>h
 | k+1,acc=>by rw [thrLoop,h];exact h
theorem toks_full (m n:Nat) (p:Prg) (hd:∀ d ∈ p.decls,gD d) (hs:∀ ss ∈ p.threads,∀ s ∈ ss,gS m n s) (hf:∀ ss ∈ p.threads,∀ s ∈ ss,fitS m n 1 s) (h1:1<=p.threads.length) (hbig:64<p.decls.length\/16<p.threads.length) (us:List Tok) (e:Nat) (hu:us.map sgOf=sgs (pits m n p)):
 ∃ a,progP (us++[endT e])=.error (6,a):=by
 unfold pits at hu
 rw [sgs_append] at hu
 obtain ⟨ua,ub,rfl,hua,hub⟩:=List.map_eq_append_iff.1 hu
 have hgb:goodL (ub++[endT e]):=(end_good e).app (toks_ok hub (allOK_map (tits m n) _ fun x hx=>tits_sok m n x (hs x hx)))
 have hth:((ub++[endT e]).headD (endT 0)).text=kThread:=by
  cases ht:p.threads with
  | nil=>rw [ht] at h1;simp at h1
  | cons ss ts=>
    rw [ht] at hub
    simp only [List.map_cons,List.flatten_cons,sgs_append] at hub
    obtain ⟨uc,ud,rfl,huc,_⟩:=List.map_eq_append_iff.1 hub
    unfold tits at huc
    obtain ⟨t,us',rfl,_,hx,_⟩:=tok_cons (show uc.map sgOf=kw kThread :: _ from huc)
    simpa using hx
 unfold progP declsP threadsP
 rw [List.append_assoc]
 by_cases h64:64<p.decls.length
 · obtain ⟨a,ha⟩:=declLoop_full (ub++[endT e]) hgb p.decls 65 [] ua hd hua (by simp) (by simpa using h64) (by simp)
   have:=thrLoop_err ha 17 []
   exact ⟨a,by simp only [this]⟩
 · obtain ⟨ds',ed,qd⟩:=declLoop_back (ub++[endT e]) hgb hth p.decls 65 [] ua hd hua (by simp;omega) (by omega)
   obtain ⟨a,ha⟩:=thrLoop_full m n e p.threads 17 [] ub hs hf hub (by simp) (by simp;omega) (by simp)
   rw [ed]
   exact ⟨a,by simp only [ha]⟩
def aN (k:Nat):ByteArray:=bstr (97 :: decDigits k)
def declT (k:Nat):List UInt8:=[112,117,98,108,105,99,32,97]++decDigits k++[59,32]
def thrT:List UInt8:=[116,104,114,101,97,100,32,123,32,125,32]
def declsT (d:Nat):List UInt8:=((List.range d).map declT).flatten
def thrsT (t:Nat):List UInt8:=(List.replicate t thrT).flatten
theorem declsT_succ (d:Nat):declsT (d+1)=declsT d++declT d:=by unfold declsT;rw [List.range_succ];simp
theorem thrsT_succ (t:Nat):thrsT (t+1)=thrsT t++thrT:=by unfold thrsT;rw [List.replicate_succ'];simp
def aD (k:Nat):Dcl:=⟨false,0,aN k,0,⟨#[]⟩,0⟩
def limP (d t:Nat):Prg:=⟨(List.range d).map aD,List.replicate t []⟩
def declI (k:Nat):List It:=[iS (kw kPublic),iG [32],iS (wd (aN k)),iS (sn [59]),iG [32]]
def thrI:List It:=[iS (kw kThread),iG [32],iS (sn [123]),iG [32],iS (sn [125]),iG [32]]
def limI (d t:Nat):List It:=((List.range d).map declI).flatten++(List.replicate t thrI).flatten
theorem name_a (k:Nat):isName (aN k):=by
 obtain ⟨c,r,e,hc⟩:=digits_cons k
 refine ⟨⟨⟨97,decDigits k,rfl,by decide⟩,fun x hm=>?_⟩,digit_no_key (x:=97 :: decDigits k) (c:=c) (by rw [e];simp) hc⟩
 have hm':x ∈ 97 :: decDigits k:=hm
 rcases List.mem_cons.1 hm' with rfl | h
 · exact letter_word (by decide)
 · exact digit_word (digits_all k x h)
theorem limI_flat (d t:Nat):flat (limI d t)=declsT d++thrsT t:=by
 unfold limI declsT thrsT
 rw [flat_append,flat_map declI declT _ fun k _=>by simp [declI,declT,flat_s,flat_g,flat_nil,kw,wd,sn,kPublic,aN,bys_bstr]]
 congr 1
 induction t with
 | zero=>rfl
 | succ t ih=>rw [List.replicate_succ,List.replicate_succ,List.flatten_cons,List.flatten_cons,flat_append,ih];rfl
theorem sgs_map {α : Type} (f g : α -> List It):∀ (l:List α),(∀ x,sgs (f x)=sgs (g x))->sgs (l.map f).flatten=sgs (l.map g).flatten
 | [],_=>rfl
 | x :: l,h=>by simp only [List.map_cons,List.flatten_cons,sgs_append];rw [h x,sgs_map f g l h]
theorem limI_sgs (d t:Nat):sgs (limI d t)=sgs (pits 1 1 (limP d t)):=by
 unfold limI pits limP
 simp only [sgs_append,List.map_map,List.map_replicate]
 congr 1
 · exact sgs_map declI (dits ∘ aD) _ fun k=>rfl
 · induction t with
   | zero=>rfl
   | succ t ih=>rw [List.replicate_succ,List.replicate_succ,List.flatten_cons,List.flatten_cons,sgs_append,sgs_append,ih];rfl
theorem limI_ok (d t:Nat):okF (limI d t) []:=by
 refine okF_append _ _ _ (okF_map declI _ _ fun k _ r=>ok_kw (by decide) (by decide) (by decide) rfl (okF_g gap_blank (ok_wd (name_a k) rfl (ok_one (by decide) (by decide) (okF_g gap_blank trivial))))) ?_
 induction t with
 | zero=>trivial
 | succ t ih=>
   rw [List.replicate_succ,List.flatten_cons]
   exact okF_append _ _ _ (ok_kw (by decide) (by decide) (by decide) rfl (okF_g gap_blank (ok_one (by decide) (by decide) (okF_g gap_blank (ok_one (by decide) (by decide) (okF_g gap_blank trivial)))))) ih
theorem dig_few (k:Nat) (h:k<1000):(decDigits k).length<=3:=by
 rw [Go.Lib.decDigits_length]
 by_cases h1:k<10
 · rw [Go.Lib.nDigits_small h1];omega
 · rw [Go.Lib.nDigits_big h1]
   by_cases h2:k / 10<10
   · rw [Go.Lib.nDigits_small h2];omega
   · rw [Go.Lib.nDigits_big h2,Go.Lib.nDigits_small (by omega)];omega
theorem declsT_len:∀ d,d<=1000->(declsT d).length<=13*d
 | 0,_=>by simp [declsT]
 | d+1,h=>by
   have:=declsT_len d (by omega)
   have h3:=dig_few d (by omega)
   rw [declsT_succ,List.length_append]
   simp only [declT,List.length_append,List.length_cons,List.length_nil]
   omega
theorem thrsT_len:∀ t,(thrsT t).length=11*t
 | 0=>rfl
 | t+1=>by rw [thrsT_succ,List.length_append,thrsT_len t];simp [thrT];omega
theorem limP_gD (d t:Nat):∀ x ∈ (limP d t).decls,gD x:=fun x hx=>by
 obtain ⟨k,_,rfl⟩:=List.mem_map.1 (show x ∈ (List.range d).map aD from hx)
 exact ⟨name_a k,.inr ⟨rfl,.inl rfl,⟨0,rfl,by omega⟩,.inl rfl⟩⟩
theorem limP_none {P:Stm->Prop} (d t:Nat):∀ ss ∈ (limP d t).threads,∀ s ∈ ss,P s:=fun ss hss s hs=>by
 have:=List.eq_of_mem_replicate (show ss ∈ List.replicate t [] from hss)
 subst this;simp at hs
theorem lim1 (d t:Nat) (hd:d<=100) (h1:1<=t) (ht:t<=100):(d<=64/\t<=16/\∃ q,parseP (declsT d++thrsT t)=.ok q)\/(¬ (d<=64/\t<=16)/\∃ a,parseP (declsT d++thrsT t)=.error (6,a)):=by
 have hl:(flat (limI d t)).length<=65536:=by
    rw [limI_flat,List.length_append,thrsT_len]
    have:=declsT_len d (by omega)
    omega
 rw [<- limI_flat]
 by_cases h:d<=64/\t<=16
 · obtain ⟨q,hq,_⟩:=items_back 1 1 (limP d t) ⟨limP_gD d t,by simpa [limP] using h.1,limP_none d t,limP_none d t,by simpa [limP] using h1,by simpa [limP] using h.2⟩ (limI d t) (limI_ok d t) (limI_sgs d t) hl
   exact .inl ⟨h.1,h.2,q,hq⟩
 · refine .inr ⟨h,?_⟩
   obtain ⟨a,ha⟩:=toks_full 1 1 (limP d t) (limP_gD d t) (limP_none d t) (limP_none d t) (by simpa [limP] using h1) (by simp [limP];omega) (toksAt 0 (limI d t)) (flat (limI d t)).length (by rw [toksAt_sgs,limI_sgs])
   refine ⟨a,?_⟩
   unfold parseP
   rw [cut_items _ (limI_ok d t) hl]
   exact ha
def dig3 (n:Nat):List UInt8:=if n<10 then [UInt8.ofNat (48+n)] else if n<100 then [UInt8.ofNat (48+n / 10),UInt8.ofNat (48+n % 10)] else [UInt8.ofNat (48+n / 10 / 10),UInt8.ofNat (48+n / 10 % 10),UInt8.ofNat (48+n % 10)]
theorem dig3_eq (n:Nat) (h:n<1000):decDigits n=dig3 n:=by
 unfold dig3
 split
 · exact Go.Lib.decDigits_one (by assumption)
 · split
   · exact Go.Lib.decDigits_two (by assumption) (by assumption)
   · rw [decDigits,dif_neg (by assumption),Go.Lib.decDigits_two (by omega) (by omega)];rfl
def fits6 (l:List UInt8) (may:Bool):Bool:=match parseP l with | .ok _=>may | .error (n,_)=>n == 6 && !may
theorem fits6_is {l:List UInt8} {may:Bool} (h:fits6 l may=true):(may=true/\∃ q,parseP l=.ok q)\/(may=false/\∃ a,parseP l=.error (6,a)):=by
 unfold fits6 at h
 split at h
 · exact .inl ⟨h,_,by assumption⟩
 · rename_i n a heq
   simp only [Bool.and_eq_true,beq_iff_eq,Bool.not_eq_true'] at h
   exact .inr ⟨h.2,a,by rw [heq,h.1]⟩
def sizeT (x:List UInt8):List UInt8:=[112,117,98,108,105,99,32,97,91]++x++[93,59,32,116,104,114,101,97,100,32,123,32,125]
def roundT (x:List UInt8):List UInt8:=[116,104,114,101,97,100,32,123,32,108,111,111,112,32,105,32]++x++[32,123,32,125,32,125]
def wrapT:Nat->List UInt8
 | 0=>[49]
 | k+1=>[40]++wrapT k++[41]
def outT (x:List UInt8):List UInt8:=[116,104,114,101,97,100,32,123,32,111,117,116,112,117,116,32]++x++[59,32,125]
theorem lim2_all:((List.range 100).all fun n=>fits6 (sizeT (dig3 n)) (decide (1<=n) && decide (n<=64)))=true:=by kernel_rfl
theorem lim3_all:((List.range 400).all fun n=>fits6 (roundT (dig3 n)) (decide (1<=n) && decide (n<=256)))=true:=by kernel_rfl
theorem lim4_all:((List.range 60).all fun n=>fits6 (outT (wrapT n)) (decide (n+2<=40)))=true:=by kernel_rfl
theorem lim2 (n:Nat) (h:n<100):(1<=n/\n<=64/\∃ q,parseP (sizeT (decDigits n))=.ok q)\/(¬ (1<=n/\n<=64)/\∃ a,parseP (sizeT (decDigits n))=.error (6,a)):=by
 rw [dig3_eq n (by omega)]
 rcases fits6_is (List.all_eq_true.1 lim2_all n (List.mem_range.2 h)) with ⟨hm,hq⟩ | ⟨hm,hq⟩
 · simp only [Bool.and_eq_true,decide_eq_true_eq] at hm
   exact .inl ⟨hm.1,hm.2,hq⟩
 · refine .inr ⟨fun hh=>?_,hq⟩
   rw [decide_eq_true hh.1,decide_eq_true hh.2] at hm;cases hm
theorem lim3 (n:Nat) (h:n<400):(1<=n/\n<=256/\∃ q,parseP (roundT (decDigits n))=.ok q)\/(¬ (1<=n/\n<=256)/\∃ a,parseP (roundT (decDigits n))=.error (6,a)):=by
 rw [dig3_eq n (by omega)]
 rcases fits6_is (List.all_eq_true.1 lim3_all n (List.mem_range.2 h)) with ⟨hm,hq⟩ | ⟨hm,hq⟩
 · simp only [Bool.and_eq_true,decide_eq_true_eq] at hm
   exact .inl ⟨hm.1,hm.2,hq⟩
 · refine .inr ⟨fun hh=>?_,hq⟩
   rw [decide_eq_true hh.1,decide_eq_true hh.2] at hm;cases hm
theorem lim4 (n:Nat) (h:n<60):(n+2<=40/\∃ q,parseP (outT (wrapT n))=.ok q)\/(¬ n+2<=40/\∃ a,parseP (outT (wrapT n))=.error (6,a)):=by
 rcases fits6_is (List.all_eq_true.1 lim4_all n (List.mem_range.2 h)) with ⟨hm,hq⟩ | ⟨hm,hq⟩
 · exact .inl ⟨of_decide_eq_true hm,hq⟩
 · refine .inr ⟨fun hh=>?_,hq⟩
   rw [decide_eq_true hh] at hm;cases hm
theorem wrapT_len:∀ k,(wrapT k).length=2*k+1
 | 0=>rfl
 | k+1=>by rw [wrapT,List.length_append,List.length_append,wrapT_len k];simp;omega
theorem bys_cat (a b:ByteArray):bys (a++b)=bys a++bys b:=by unfold bys;simp [ByteArray.data_append]
theorem bstr_cat (a b:List UInt8):bstr a++bstr b=bstr (a++b):=bys_inj (by rw [bys_cat,bys_bstr,bys_bstr,bys_bstr])
end Go.Proofs.YtlepckjmdjjolaaGreatDoor.Pr
