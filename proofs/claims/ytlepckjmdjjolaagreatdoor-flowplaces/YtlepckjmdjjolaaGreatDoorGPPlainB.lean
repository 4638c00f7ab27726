/- Own texts laid together: PLift, PSuf, PErr, PEat. Conditions: as each theorem says. -/
import Derived.Test.YtlepckjmdjjolaaGreatDoorGPBackAll
set_option linter.unusedVariables false
set_option linter.unusedSimpArgs false
namespace Go.Proofs.YtlepckjmdjjolaaGreatDoor.Pr
open Lx (Tok)
theorem ptext_ne {m n:Nat} {p:Prg} (h:1<=p.threads.length):ptext m n p≠[]:=by
 cases ht:p.threads with
 | nil=>rw [ht] at h;simp at h
 | cons ss ts=>
   intro e
   unfold ptext at e
   rw [ht] at e
   simp only [List.map_cons,List.flatten_cons,List.append_eq_nil_iff] at e
   have:=e.2.1
   simp [ttext,lineT,sThread] at this
end Go.Proofs.YtlepckjmdjjolaaGreatDoor.Pr
namespace Go.Proofs.YtlepckjmdjjolaaGreatDoor.Pr
open Go.Lib (decDigits)
open Lx (Tok)
def Rd.suf (r r':Rd):Prop:=∃ us,r.ts=us++r'.ts
theorem Rd.suf.refl (r:Rd):r.suf r:=⟨[],rfl⟩
theorem Rd.suf.trans {a b c:Rd} (h:a.suf b) (k:b.suf c):a.suf c:=by
 obtain ⟨u,h⟩:=h
 obtain ⟨v,k⟩:=k
 exact ⟨u++v,by rw [h,k,List.append_assoc]⟩
theorem sf_drop (r:Rd) (n:Nat) (e:Option (Nat × Nat)):r.suf ⟨r.ts.drop n,e⟩:=⟨r.ts.take n,(List.take_append_drop n r.ts).symm⟩
theorem sf_next (r:Rd):r.suf r.next:=by
 unfold Rd.next
 split
 · exact sf_drop r 1 _
 · exact ⟨[],rfl⟩
theorem sf_fail (n:Nat) (r:Rd):r.suf (r.fail n):=sf_drop r _ _
theorem sf_want (s:List UInt8) (r:Rd):r.suf (r.want s):=by unfold Rd.want;split;exact sf_next r;exact sf_fail 2 r
theorem sf_name (r:Rd):r.suf r.name.2:=by unfold Rd.name;split;exact sf_next r;exact sf_fail 2 r
theorem sf_number (m:Nat) (r:Rd):r.suf (r.number m).2:=by
 unfold Rd.number
 split
 · split;exact sf_fail 6 r;exact sf_next r
 · exact sf_fail 2 r
def SfE (ex:ExP):Prop:=∀ t d r,Rd.suf r (ex t d r).2
theorem sf_three {ex:ExP} (h:SfE ex) (d:Nat) (r:Rd):r.suf (threeOf ex d r).2:=
 ((((((sf_want _ r).trans (h _ _ _)).trans (sf_want _ _)).trans (h _ _ _)).trans (sf_want _ _)).trans (h _ _ _)).trans (sf_want _ _)
theorem sf_named {ex:ExP} (h:SfE ex) (t:Tok) (d:Nat) (r:Rd):r.suf (namedOf ex t d r).2:=by
 unfold namedOf
 split
 · exact ((sf_next r).trans (h _ _ _)).trans (sf_want _ _)
 · exact Rd.suf.refl r
theorem sf_unary {ex:ExP} {un:Nat->Rd->Tree × Rd} (h:SfE ex) (hu:∀ d r,Rd.suf r (un d r).2) (d:Nat) (r:Rd):r.suf (unaryOf ex un d r).2:=by
 unfold unaryOf
 split
 · exact sf_fail 2 r
 split
 · exact sf_fail 6 r
 split
 · exact (sf_next r).trans (hu _ _)
 split
 · exact (sf_next r).trans (sf_three h _ _)
 split
 · exact ((sf_next r).trans (h _ _ _)).trans (sf_want _ _)
 split
 · exact sf_next r
 · exact (sf_next r).trans (sf_named h _ _ _)
theorem sf_loop {ex:ExP} (h:SfE ex) (t d:Nat):∀ (k:Nat) (left:Tree) (r:Rd),r.suf (loopOf ex t d k left r).2
 | 0,left,r=>Rd.suf.refl r
 | k+1,left,r=>by
   unfold loopOf
   split
   · exact Rd.suf.refl r
   · exact ((sf_next r).trans (h _ _ _)).trans (sf_loop h t d k _ _)
theorem sf_failU (r:Rd):r.suf (failU r).2:=by unfold failU;simp only;split;exact sf_fail 2 r;exact sf_fail 6 r
theorem sf_pair:∀ f,SfE (exprP f)/\∀ d r,Rd.suf r (unaryP f d r).2
 | 0=>⟨fun _ _ r=>sf_failU r,fun _ r=>sf_failU r⟩
 | f+1=>by
   obtain ⟨h1,h2⟩:=sf_pair f
   have hu:∀ d r,Rd.suf r (unaryP (f+1) d r).2:=fun d r=>by rw [unaryP_succ];exact sf_unary h1 h2 d r
   exact ⟨fun t d r=>by rw [exprP_succ];exact (hu d r).trans (sf_loop h1 t d _ _ _),hu⟩
theorem sf_expr (f:Nat):SfE (exprP f):=(sf_pair f).1
theorem sf_value (d:Nat) (s:Stm) (r:Rd):r.suf (valueP d s r).2:=sf_expr _ _ _ _
theorem sf_simple (t:Tok) (d:Nat) (s:Stm) (r:Rd):r.suf (simpleP t d s r).2:=by
 unfold simpleP
 split
 · exact ((sf_name r).trans (sf_want _ _)).trans (sf_value _ _ _)
 split
 · split
   · exact ((((sf_next r).trans (sf_value _ _ _)).trans (sf_want _ _)).trans (sf_want _ _)).trans (sf_value _ _ _)
   · exact (sf_want _ r).trans (sf_value _ _ _)
 split
 · exact sf_name r
 split
 · exact sf_name r
 split
 · exact (sf_name r).trans (sf_value _ _ _)
 split
 · exact sf_value _ _ _
 · exact Rd.suf.refl r
def SfB (bl:BlP):Prop:=∀ d r,Rd.suf r (bl d r).2
theorem sf_choice {bl:BlP} (h:SfB bl) (d:Nat) (s:Stm) (r:Rd):r.suf (choiceOf bl d s r).2:=by
 have hb:=(((sf_want [40] r).trans (sf_value d s _)).trans (sf_want [41] _)).trans (h (d+1) _)
 unfold choiceOf
 simp only
 split
 · exact (hb.trans (sf_next _)).trans (h _ _)
 · exact hb
theorem sf_stmt {bl:BlP} (h:SfB bl) (d:Nat) (r:Rd):r.suf (stmtOf bl d r).2:=by
 unfold stmtOf
 split
 · exact sf_fail 2 r
 split
 · exact sf_fail 6 r
 simp only
 split
 · exact (sf_next r).trans (sf_choice h _ _ _)
 split
 · exact (((sf_next r).trans (sf_name _)).trans (sf_number _ _)).trans (h _ _)
 · exact ((sf_next r).trans (sf_simple _ _ _ _)).trans (sf_want _ _)
theorem sf_blk {st:Nat->Rd->Stm × Rd} (h:∀ d r,Rd.suf r (st d r).2) (d:Nat):∀ (k:Nat) (ss:List Stm) (r:Rd),r.suf (blkLoop st d k ss r).2
 | 0,ss,r=>Rd.suf.refl r
 | k+1,ss,r=>by
   unfold blkLoop
   split
   · exact Rd.suf.refl r
   split
   · exact sf_next r
   · exact (h _ _).trans (sf_blk h d k _ _)
theorem sf_block {st:Nat->Rd->Stm × Rd} (h:∀ d r,Rd.suf r (st d r).2):SfB (blockOf st):=fun d r=>(sf_want _ r).trans (sf_blk h d _ _ _)
theorem sf_st:∀ f d r,Rd.suf r (stP f d r).2
 | 0,_,r=>by
   show Rd.suf r (if (kindP r.here).isNone then r.fail 2 else r.fail 6)
   split;exact sf_fail 2 r;exact sf_fail 6 r
 | f+1,d,r=>sf_stmt (sf_block (sf_st f)) d r
theorem sf_cells (d:Dcl) (r:Rd):r.suf (cellsP d r).2:=by
 unfold cellsP
 simp only
 by_cases h:r.name.2.is [91]=true
 · simp only [h,if_true]
   split
   · exact (((((sf_name r).trans (sf_next _)).trans (sf_number _ _)).trans (sf_want _ _)).trans (sf_next _)).trans (sf_name _)
   · exact (((sf_name r).trans (sf_next _)).trans (sf_number _ _)).trans (sf_want _ _)
 · simp only [h]
   split
   · rename_i h';simp at h'
   · simp only [Bool.false_eq_true,if_false]
     split
     · exact ((sf_name r).trans (sf_next _)).trans (sf_name _)
     · exact sf_name r
theorem sf_decl (r:Rd):r.suf (declP r).2:=by
 unfold declP
 refine Rd.suf.trans ?_ (sf_want _ _)
 split
 · exact (sf_next r).trans (sf_name _)
 split
 · exact (sf_next r).trans (sf_cells _ _)
 split
 · exact (sf_next r).trans (sf_cells _ _)
 · exact sf_fail 2 r
theorem thr_to:∀ (k:Nat) (ts:List (List Stm)) (r:Rd),Rd.to r (thrLoop k ts r).2
 | 0,ts,r=>Rd.to.refl r
 | k+1,ts,r=>by
   rw [thrLoop]
   split
   · exact Rd.to.refl r
   split
   · exact Rd.to.refl r
   split
   · exact to_fail 6 r
   · exact ((to_want _ r).trans (to_block (to_st 40) _ _)).trans (thr_to k _ _)
theorem decls_to:∀ (k:Nat) (ds:List Dcl) (r:Rd),Rd.to r (declLoop k ds r).2
 | 0,ds,r=>Rd.to.refl r
 | k+1,ds,r=>by
   rw [declLoop]
   split
   · exact Rd.to.refl r
   split
   · exact Rd.to.refl r
   split
   · exact to_fail 6 r
   · exact (to_decl r).trans (decls_to k _ _)
theorem err_back {r r':Rd} (h:r.to r') (he:r'.err=none):r.err=none:=by
 cases e:r.err with
 | none=>rfl
 | some x=>
   have:=h.2.2 (by rw [e];rfl)
   rw [he,e] at this;cases this
theorem fail_no {n:Nat} {r:Rd} (h:(r.fail n).err=none):False:=by
 have:=fail_err n r
 rw [h] at this;cases this
theorem next_of {r r':Rd} (hg:r.good) (hk:r.here.kind≠0) (h:r.next.suf r'):∃ us,r.ts=r.here :: (us++r'.ts):=by
 rcases good_cases hg with ⟨k,_,e⟩ | ⟨_,_,_,_,h2,_⟩
 · exact absurd (by rw [e];rfl) hk
 · obtain ⟨us,hu⟩:=h
   exact ⟨us,by rw [<- hu,h2];exact hg.cons⟩
theorem value_at (d:Nat) (s:Stm) (r:Rd):(valueP d s r).1.at_=s.at_:=rfl
theorem simple_at (t:Tok) (d:Nat) (s:Stm) (r:Rd):(simpleP t d s r).1.at_=s.at_:=by
 unfold simpleP
 split
 · rfl
 split
 · split <;> rfl
 split
 · rfl
 split
 · rfl
 split
 · rfl
 split <;> rfl
theorem choice_at (bl:BlP) (d:Nat) (s:Stm) (r:Rd):(choiceOf bl d s r).1.at_=s.at_:=by
 unfold choiceOf
 simp only
 split <;> rfl
theorem kind_here {r:Rd} {k:Int} (h:kindP r.here=some k) (hg:r.good):r.here.kind≠0:=by
 rcases good_cases hg with ⟨j,_,e⟩ | ⟨h,_⟩
 · rw [e] at h;cases (show kindP (endT j)=none from rfl).symm.trans h
 · exact h
theorem decls_suf:∀ (k:Nat) (ds:List Dcl) (r:Rd),Rd.suf r (declLoop k ds r).2
 | 0,ds,r=>Rd.suf.refl r
 | k+1,ds,r=>by
   rw [declLoop]
   split
   · exact Rd.suf.refl r
   split
   · exact Rd.suf.refl r
   split
   · exact sf_fail 6 r
   · exact (sf_decl r).trans (decls_suf k _ _)
def Rd.eo (A:Nat) (r:Rd):Prop:=(∀ t ∈ r.ts,t.at_<=A)/\∀ n a,r.err=some (n,a)->(n=2\/n=6)/\a<=A
def Rd.er (r r':Rd):Prop:=∀ A,r.eo A->r'.eo A
theorem Rd.er.refl (r:Rd):r.er r:=fun _ h=>h
theorem Rd.er.trans {a b c:Rd} (h:a.er b) (k:b.er c):a.er c:=fun A x=>k A (h A x)
theorem er_next (r:Rd):r.er r.next:=fun A h=>⟨fun t ht=>by
 obtain ⟨us,e⟩:=sf_next r
 exact h.1 t (by rw [e];simp [ht]),h.2⟩
theorem here_le {A:Nat} {r:Rd} (h:∀ t ∈ r.ts,t.at_<=A):r.here.at_<=A:=by
 unfold Rd.here
 cases e:r.ts with
 | nil=>exact Nat.zero_le _
 | cons t ts=>exact h t (by rw [e];simp)
theorem er_fail (n:Nat) (r:Rd) (hn:n=2\/n=6:=by decide):r.er (r.fail n):=fun A h=>⟨fun t ht=>by
 obtain ⟨us,e⟩:=sf_fail n r
 exact h.1 t (by rw [e];simp [ht]),fun m a he=>by
    unfold Rd.fail at he
    simp only at he
    split at he
    · simp only [Option.some.injEq,Prod.mk.injEq] at he
      obtain ⟨rfl,rfl⟩:=he
      exact ⟨hn,here_le h.1⟩
    · rename_i e' heq
      exact h.2 m a (heq.trans he)⟩
theorem er_want (s:List UInt8) (r:Rd):r.er (r.want s):=by unfold Rd.want;split;exact er_next r;exact er_fail 2 r
theorem er_name (r:Rd):r.er r.name.2:=by unfold Rd.name;split;exact er_next r;exact er_fail 2 r
theorem er_number (m:Nat) (r:Rd):r.er (r.number m).2:=by
 unfold Rd.number
 split
 · split;exact er_fail 6 r;exact er_next r
 · exact er_fail 2 r
def ErE (ex:ExP):Prop:=∀ t d r,Rd.er r (ex t d r).2
theorem er_three {ex:ExP} (h:ErE ex) (d:Nat) (r:Rd):r.er (threeOf ex d r).2:=
 ((((((er_want _ r).trans (h _ _ _)).trans (er_want _ _)).trans (h _ _ _)).trans (er_want _ _)).trans (h _ _ _)).trans (er_want _ _)
theorem er_named {ex:ExP} (h:ErE ex) (t:Tok) (d:Nat) (r:Rd):r.er (namedOf ex t d r).2:=by
 unfold namedOf
 split
 · exact ((er_next r).trans (h _ _ _)).trans (er_want _ _)
 · exact Rd.er.refl r
theorem er_unary {ex:ExP} {un:Nat->Rd->Tree × Rd} (h:ErE ex) (hu:∀ d r,Rd.er r (un d r).2) (d:Nat) (r:Rd):r.er (unaryOf ex un d r).2:=by
 unfold unaryOf
 split
 · exact er_fail 2 r
 split
 · exact er_fail 6 r
 split
 · exact (er_next r).trans (hu _ _)
 split
 · exact (er_next r).trans (er_three h _ _)
 split
 · exact ((er_next r).trans (h _ _ _)).trans (er_want _ _)
 split
 · exact er_next r
 · exact (er_next r).trans (er_named h _ _ _)
theorem er_loop {ex:ExP} (h:ErE ex) (t d:Nat):∀ (k:Nat) (left:Tree) (r:Rd),r.er (loopOf ex t d k left r).2
 | 0,left,r=>Rd.er.refl r
 | k+1,left,r=>by
   unfold loopOf
   split
   · exact Rd.er.refl r
   · exact ((er_next r).trans (h _ _ _)).trans (er_loop h t d k _ _)
theorem er_failU (r:Rd):r.er (failU r).2:=by unfold failU;simp only;split;exact er_fail 2 r;exact er_fail 6 r
theorem er_pair:∀ f,ErE (exprP f)/\∀ d r,Rd.er r (unaryP f d r).2
 | 0=>⟨fun _ _ r=>er_failU r,fun _ r=>er_failU r⟩
 | f+1=>by
   obtain ⟨h1,h2⟩:=er_pair f
   have hu:∀ d r,Rd.er r (unaryP (f+1) d r).2:=fun d r=>by rw [unaryP_succ];exact er_unary h1 h2 d r
   exact ⟨fun t d r=>by rw [exprP_succ];exact (hu d r).trans (er_loop h1 t d _ _ _),hu⟩
theorem er_expr (f:Nat):ErE (exprP f):=(er_pair f).1
theorem er_value (d:Nat) (s:Stm) (r:Rd):r.er (valueP d s r).2:=er_expr _ _ _ _
theorem er_simple (t:Tok) (d:Nat) (s:Stm) (r:Rd):r.er (simpleP t d s r).2:=by
 unfold simpleP
 split
 · exact ((er_name r).trans (er_want _ _)).trans (er_value _ _ _)
 split
 · split
   · exact ((((er_next r).trans (er_value _ _ _)).trans (er_want _ _)).trans (er_want _ _)).trans (er_value _ _ _)
   · exact (er_want _ r).trans (er_value _ _ _)
 split
 · exact er_name r
 split
 · exact er_name r
 split
 · exact (er_name r).trans (er_value _ _ _)
 split
 · exact er_value _ _ _
 · exact Rd.er.refl r
def ErB (bl:BlP):Prop:=∀ d r,Rd.er r (bl d r).2
theorem er_choice {bl:BlP} (h:ErB bl) (d:Nat) (s:Stm) (r:Rd):r.er (choiceOf bl d s r).2:=by
 have hb:=(((er_want [40] r).trans (er_value d s _)).trans (er_want [41] _)).trans (h (d+1) _)
 unfold choiceOf
 simp only
 split
 · exact (hb.trans (er_next _)).trans (h _ _)
 · exact hb
theorem er_stmt {bl:BlP} (h:ErB bl) (d:Nat) (r:Rd):r.er (stmtOf bl d r).2:=by
 unfold stmtOf
 split
 · exact er_fail 2 r
 split
 · exact er_fail 6 r
 simp only
 split
 · exact (er_next r).trans (er_choice h _ _ _)
 split
 · exact (((er_next r).trans (er_name _)).trans (er_number _ _)).trans (h _ _)
 · exact ((er_next r).trans (er_simple _ _ _ _)).trans (er_want _ _)
theorem er_blk {st:Nat->Rd->Stm × Rd} (h:∀ d r,Rd.er r (st d r).2) (d:Nat):∀ (k:Nat) (ss:List Stm) (r:Rd),r.er (blkLoop st d k ss r).2
 | 0,ss,r=>Rd.er.refl r
 | k+1,ss,r=>by
   unfold blkLoop
   split
   · exact Rd.er.refl r
   split
   · exact er_next r
   · exact (h _ _).trans (er_blk h d k _ _)
theorem er_block {st:Nat->Rd->Stm × Rd} (h:∀ d r,Rd.er r (st d r).2):ErB (blockOf st):=fun d r=>(er_want _ r).trans (er_blk h d _ _ _)
theorem er_st:∀ f d r,Rd.er r (stP f d r).2
 | 0,_,r=>by
   show Rd.er r (if (kindP r.here).isNone then r.fail 2 else r.fail 6)
   split;exact er_fail 2 r;exact er_fail 6 r
 | f+1,d,r=>er_stmt (er_block (er_st f)) d r
theorem er_cells (d:Dcl) (r:Rd):r.er (cellsP d r).2:=by
 unfold cellsP
 simp only
 by_cases h:r.name.2.is [91]=true
 · simp only [h,if_true]
   split
   · exact (((((er_name r).trans (er_next _)).trans (er_number _ _)).trans (er_want _ _)).trans (er_next _)).trans (er_name _)
   · exact (((er_name r).trans (er_next _)).trans (er_number _ _)).trans (er_want _ _)
 · simp only [h]
   split
   · rename_i h';simp at h'
   · simp only [Bool.false_eq_true,if_false]
     split
     · exact ((er_name r).trans (er_next _)).trans (er_name _)
     · exact er_name r
theorem er_decl (r:Rd):r.er (declP r).2:=by
 unfold declP
 refine Rd.er.trans ?_ (er_want _ _)
 split
 · exact (er_next r).trans (er_name _)
 split
 · exact (er_next r).trans (er_cells _ _)
 split
 · exact (er_next r).trans (er_cells _ _)
 · exact er_fail 2 r
theorem thr_er:∀ (k:Nat) (ts:List (List Stm)) (r:Rd),Rd.er r (thrLoop k ts r).2
 | 0,ts,r=>Rd.er.refl r
 | k+1,ts,r=>by
   rw [thrLoop]
   split
   · exact Rd.er.refl r
   split
   · exact Rd.er.refl r
   split
   · exact er_fail 6 r
   · exact ((er_want _ r).trans (er_block (er_st 40) _ _)).trans (thr_er k _ _)
theorem decls_er:∀ (k:Nat) (ds:List Dcl) (r:Rd),Rd.er r (declLoop k ds r).2
 | 0,ds,r=>Rd.er.refl r
 | k+1,ds,r=>by
   rw [declLoop]
   split
   · exact Rd.er.refl r
   split
   · exact Rd.er.refl r
   split
   · exact er_fail 6 r
   · exact (er_decl r).trans (decls_er k _ _)
def okTok (t:Tok):Prop:=(t.kind=1->wordText t.text/\Lx.keyB t.text=false)/\t.value<18446744073709551616
def Bt (ts:List Tok):Nat:=(ts.map fun t=>t.text.length).sum
theorem Bt_cons (t:Tok) (ts:List Tok):Bt (t :: ts)=t.text.length+Bt ts:=by simp [Bt]
theorem Bt_append (a b:List Tok):Bt (a++b)=Bt a+Bt b:=by simp [Bt]
theorem numFrom_lt:∀ (l:List UInt8) (acc v:Nat),acc<18446744073709551616->Lx.numFrom acc l=some v->v<18446744073709551616
 | [],acc,v,h,e=>by simp only [Lx.numFrom,Option.some.injEq] at e;omega
 | c :: r,acc,v,h,e=>by
   simp only [Lx.numFrom] at e
   split at e
   · exact numFrom_lt r _ v (by assumption) e
   · cases e
theorem readTok_ok {l:List UInt8} {k:Nat} {t:Tok} (h:Lx.readTok l k=some t):okTok t:=by
 unfold Lx.readTok at h
 match l,h with
 | c :: r,h=>
   simp only at h
   split at h
   · rename_i hc
     cases h
     refine ⟨fun hk=>?_,by simp⟩
     simp only at hk ⊢
     split at hk
     · omega
     · rename_i hkey
       refine ⟨⟨⟨c,(r.take (Lx.lead Lx.wordB r)),?_,hc⟩,Lx.lead_all _ _⟩,by simpa using hkey⟩
       rw [Lx.lead_yes (letter_word hc)];rfl
   · split at h
     · unfold Lx.digitTok at h
       split at h
       · cases h
       · split at h
         · rename_i v hv
           cases h
           exact ⟨fun hk=>by simp at hk,numFrom_lt _ 0 v (by omega) hv⟩
         · cases h
     · split at h
       · cases h
       · cases h;exact ⟨fun hk=>by simp at hk,by simp⟩
theorem pre_ok {t:Tok} {x:Lx.Res} {ts:List Tok} (h:x.pre [t]=.ok ts):∃ us,x=.ok us/\ts=t :: us:=by
 cases x with
 | ok us=>simp only [Lx.Res.pre,Except.ok.injEq] at h;exact ⟨us,rfl,h.symm⟩
 | error e=>simp [Lx.Res.pre] at h
theorem pre_err {t:Tok} {x:Lx.Res} {e:Nat × Nat} (h:x.pre [t]=.error e):x=.error e:=by
 cases x with
 | ok us=>simp [Lx.Res.pre] at h
 | error e'=>simpa [Lx.Res.pre] using h
theorem goTok_ok:∀ (f:Nat) (l:List UInt8) (k:Nat) (ts:List Tok),Lx.goTok f l k=.ok ts->(∀ t ∈ ts,okTok t/\t.at_<=k+l.length)/\Bt ts<=l.length
 | 0,l,k,ts,h=>by cases h
 | f+1,l,k,ts,h=>by
   unfold Lx.goTok at h
   cases l with
   | nil=>
     simp only [Except.ok.injEq] at h
     subst h
     exact ⟨fun t ht=>by simp only [List.mem_singleton] at ht;subst ht;exact ⟨⟨fun hk=>by simp at hk,by simp⟩,by simp⟩,by simp [Bt]⟩
   | cons c r=>
     simp only at h
     cases hr:Lx.readTok (c :: r) k with
     | none=>rw [hr] at h;cases h
     | some t=>
       rw [hr] at h
       obtain ⟨us,h1,rfl⟩:=pre_ok h
       obtain ⟨n,htx,hn,hnl,htl,hat⟩:=Lx.readTok_some hr
       obtain ⟨a,b⟩:=goTok_ok f _ _ us h1
       have hb:=Lx.blanks_le false ((c :: r).drop t.text.length)
       simp only [List.length_drop] at a b hb
       refine ⟨fun x hx=>?_,by rw [Bt_cons];omega⟩
       rcases List.mem_cons.1 hx with rfl | hx
       · exact ⟨readTok_ok hr,by omega⟩
       · exact ⟨(a x hx).1,by have:=(a x hx).2;omega⟩
theorem goTok_err:∀ (f:Nat) (l:List UInt8) (k n a:Nat),l.length<f->Lx.goTok f l k=.error (n,a)->n=1/\a<=k+l.length
 | 0,l,k,n,a,hf,h=>by omega
 | f+1,l,k,n,a,hf,h=>by
   unfold Lx.goTok at h
   cases l with
   | nil=>cases h
   | cons c r=>
     simp only at h
     cases hr:Lx.readTok (c :: r) k with
     | none=>
       rw [hr] at h
       simp only [Except.error.injEq,Prod.mk.injEq] at h
       obtain ⟨rfl,rfl⟩:=h
       exact ⟨rfl,by omega⟩
     | some t=>
       rw [hr] at h
       have h1:=pre_err h
       obtain ⟨m,htx,hm,hml,htl,hat⟩:=Lx.readTok_some hr
       have hb:=Lx.blanks_le false ((c :: r).drop t.text.length)
       simp only [List.length_drop] at hb
       have:=goTok_err f _ _ n a (by simp only [List.length_drop];omega) h1
       simp only [List.length_drop] at this
       exact ⟨this.1,by omega⟩
theorem cut_toks_ok {l:List UInt8} {ts:List Tok} (h:Lx.cutAll l=.ok ts):(∀ t ∈ ts,okTok t/\t.at_<=l.length)/\Bt ts<=l.length:=by
 unfold Lx.cutAll Lx.cutTok at h
 split at h
 · cases h
 · have hb:=Lx.blanks_le false l
   have:=goTok_ok _ _ _ ts h
   simp only [List.length_drop] at this
   exact ⟨fun t ht=>⟨(this.1 t ht).1,by have:=(this.1 t ht).2;omega⟩,by omega⟩
theorem cut_err_ok {l:List UInt8} {n a:Nat} (h:Lx.cutAll l=.error (n,a)):(n=1\/n=6)/\a<=l.length:=by
 unfold Lx.cutAll Lx.cutTok at h
 split at h
 · simp only [Except.error.injEq,Prod.mk.injEq] at h
   obtain ⟨rfl,rfl⟩:=h
   exact ⟨.inr rfl,Nat.zero_le _⟩
 · have hb:=Lx.blanks_le false l
   have:=goTok_err _ _ _ n a (by simp only [List.length_drop];omega) h
   simp only [List.length_drop] at this
   exact ⟨.inl this.1,by omega⟩
theorem parse_err_ok {l:List UInt8} {n a:Nat} (h:parseP l=.error (n,a)):(n=1\/n=2\/n=6)/\a<=l.length:=by
 unfold parseP at h
 split at h
 · rename_i e he
   cases h
   have:=cut_err_ok he
   exact ⟨by omega,this.2⟩
 · rename_i ts hts
   unfold progP at h
   simp only at h
   split at h
   · rename_i e he
     cases h
     have ho:(⟨ts,none⟩:Rd).eo l.length:=⟨fun t ht=>((cut_toks_ok hts).1 t ht).2,fun n a h=>by cases h⟩
     have:=(thr_er 17 [] _ _ (decls_er 65 [] ⟨ts,none⟩ _ ho)).2 n a he
     exact ⟨by omega,this.2⟩
   · cases h
end Go.Proofs.YtlepckjmdjjolaaGreatDoor.Pr
namespace Go.Proofs.YtlepckjmdjjolaaGreatDoor.Pr
open Go.Lib (decDigits itoa)
open Lx (Tok)
def GG (r:Rd):Prop:=r.good/\∀ t ∈ r.ts,okTok t
theorem GG.on {r r':Rd} (h:GG r) (hs:r.suf r') (ht:r.to r'):GG r':=⟨ht.1 h.1,fun t m=>h.2 t (by obtain ⟨us,e⟩:=hs;rw [e];simp [m])⟩
theorem GG.here {r:Rd} (h:GG r):okTok r.here:=h.2 _ (by rw [h.1.cons];simp)
def Eats (r r':Rd) (n b:Nat):Prop:=n+r'.ts.length<=r.ts.length/\b+Bt r'.ts<=Bt r.ts
theorem Eats.trans {a b c:Rd} {n m x y:Nat} (h:Eats a b n x) (k:Eats b c m y):Eats a c (n+m) (x+y):=⟨by have:=h.1;have:=k.1;omega,by have:=h.2;have:=k.2;omega⟩
theorem Eats.refl (r:Rd):Eats r r 0 0:=⟨by omega,by omega⟩
theorem Eats.less {a b:Rd} {n m x y:Nat} (h:Eats a b n x) (h1:m<=n) (h2:y<=x):Eats a b m y:=⟨by have:=h.1;omega,by have:=h.2;omega⟩
theorem eats_next {r:Rd} (hg:GG r) (hk:r.here.kind≠0):Eats r r.next 1 r.here.text.length:=by
 rcases good_cases hg.1 with ⟨k,_,e⟩ | ⟨_,_,_,_,h2,h3⟩
 · exact absurd (by rw [e];rfl) hk
 · refine ⟨by omega,?_⟩
   have:=hg.1.cons
   rw [h2]
   have e:Bt r.ts=Bt (r.here :: r.ts.drop 1):=congrArg Bt this
   rw [e,Bt_cons];omega
theorem text_kind {r:Rd} (hg:GG r) (h:r.here.text≠[]):r.here.kind≠0:=by
 rcases good_cases hg.1 with ⟨j,_,e⟩ | ⟨h,_⟩
 · rw [e] at h;exact absurd rfl h
 · exact h
theorem text_pos {r:Rd} (hg:GG r) (h:r.here.kind≠0):1<=r.here.text.length:=by
 rcases good_cases hg.1 with ⟨j,_,e⟩ | ⟨_,h,_⟩
 · rw [e] at h;exact absurd rfl h
 · cases e:r.here.text with
   | nil=>exact absurd e h
   | cons _ _=>simp
theorem is_text {r:Rd} {s:List UInt8} (h:r.is s=true):r.here.text=s:=by simpa [Rd.is] using h
theorem want_is {r:Rd} {s:List UInt8} (he:(r.want s).err=none):r.is s=true/\r.want s=r.next:=by
 unfold Rd.want at he ⊢
 split at he
 · rename_i h;exact ⟨h,by rw [if_pos h]⟩
 · exact (fail_no he).elim
theorem eats_want {r:Rd} (hg:GG r) {s:List UInt8} (hs:s≠[]) (he:(r.want s).err=none):Eats r (r.want s) 1 s.length:=by
 obtain ⟨h,e⟩:=want_is he
 have ht:=is_text h
 rw [e,<- ht]
 exact eats_next hg (text_kind hg (by rw [ht];exact hs))
theorem succ_of {n m:Nat} (h:n+1<=m):∃ k,m=k+1/\n<=k:=⟨m-1,by omega,by omega⟩
theorem eats_name {r:Rd} (hg:GG r) (he:r.name.2.err=none):isName (bstr r.name.1)/\Eats r r.name.2 1 r.name.1.length/\GG r.name.2/\1<=r.name.1.length:=by
 unfold Rd.name at he ⊢
 by_cases h:r.here.kind=1
 · rw [if_pos h] at he ⊢
   have hk:r.here.kind≠0:=by rw [h];decide
   exact ⟨hg.here.1 h,eats_next hg hk,hg.on (sf_next r) (to_next r),text_pos hg hk⟩
 · rw [if_neg h] at he ⊢
   exact (fail_no he).elim
theorem eats_number {r:Rd} {most:Nat} (hg:GG r) (he:(r.number most).2.err=none):(1<=(r.number most).1/\(r.number most).1<=most)/\Eats r (r.number most).2 1 1/\GG (r.number most).2:=by
 unfold Rd.number at he ⊢
 by_cases h:r.here.kind=3
 · rw [if_pos h] at he ⊢
   have hk:r.here.kind≠0:=by rw [h];decide
   by_cases h2:r.here.value<1\/most<r.here.value
   · rw [if_pos h2] at he;exact (fail_no he).elim
   · rw [if_neg h2] at he ⊢
     exact ⟨by simp only;omega,(eats_next hg hk).less (Nat.le_refl _) (text_pos hg hk),hg.on (sf_next r) (to_next r)⟩
 · rw [if_neg h] at he ⊢
   exact (fail_no he).elim
theorem kind_is {t:Tok} {k:Int} (h:kindP t=some k):(k=1/\t.kind=1)\/(k=0/\t.text=kLocal)\/(k=3/\t.text=kIf)\/(k=4/\t.text=kLoop)\/(k=5/\t.text=kTake)\/(k=6/\t.text=kGive)\/(k=7/\t.text=kAdd)\/(k=8/\t.text=kFence)\/(k=9/\t.text=kOutput):=by
 unfold kindP at h
 split at h
 · cases h;exact .inl ⟨rfl,by assumption⟩
 split at h
 · cases h;exact .inr (.inl ⟨rfl,by assumption⟩)
 split at h
 · cases h;exact .inr (.inr (.inl ⟨rfl,by assumption⟩))
 split at h
 · cases h;exact .inr (.inr (.inr (.inl ⟨rfl,by assumption⟩)))
 split at h
 · cases h;exact .inr (.inr (.inr (.inr (.inl ⟨rfl,by assumption⟩))))
 split at h
 · cases h;exact .inr (.inr (.inr (.inr (.inr (.inl ⟨rfl,by assumption⟩)))))
 split at h
 · cases h;exact .inr (.inr (.inr (.inr (.inr (.inr (.inl ⟨rfl,by assumption⟩))))))
 split at h
 · cases h;exact .inr (.inr (.inr (.inr (.inr (.inr (.inr (.inl ⟨rfl,by assumption⟩)))))))
 split at h
 · cases h;exact .inr (.inr (.inr (.inr (.inr (.inr (.inr (.inr ⟨rfl,by assumption⟩)))))))
 · cases h
end Go.Proofs.YtlepckjmdjjolaaGreatDoor.Pr
