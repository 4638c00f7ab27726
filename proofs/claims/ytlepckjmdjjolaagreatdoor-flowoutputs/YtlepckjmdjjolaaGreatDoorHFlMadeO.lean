/- A thread that numbers make with an output behind it, as flow's plain checker has it. Plain. -/
import Derived.Test.YtlepckjmdjjolaaGreatDoorGFlM
namespace Go.Proofs.YtlepckjmdjjolaaGreatDoor.Fl
open Sc (Mng mnone put localM putAll Dc declM bad meansOf firstBad none0)
set_option linter.unusedVariables false
set_option linter.unusedSimpArgs false
def outS (s:ByteArray):Stm := { kind:=9,name:=⟨#[]⟩,exprs:=[nameT s],count:=0,body:=[],els:=[],at_:=77 }
theorem out_seen {st:St} {s:ByteArray} (hk:(st.f s).kind=2):stmtP 13 5 st 0 (outS s)=if (st.f s).label≠0 then .error (4,77) else .ok st:=by
 rw [stmt_5 13 4 _ _ (show (4:Int)<9 by decide)]
 have hv:valueP 13 st.f (outS s)=.ok (st.f s).label:=value_one rfl (label_name (nameP_shared hk) 12)
 have e:seenP 13 st (outS s)=intoP st (outS s) (st.f s).label 0:=by
    unfold seenP
    rw [if_neg (show ¬ ((outS s).kind=5\/(outS s).kind=6) by simp [outS]),if_pos (show (outS s).kind=9 from rfl),hv]
 rw [e]
 show intoP st (outS s) (st.f s).label 0=_
 unfold intoP
 by_cases h:(st.f s).label≠0
 · rw [if_pos ⟨h,rfl⟩,if_pos h];rfl
 · rw [if_neg (fun h'=>h h'.1),if_neg h]
theorem thread_out {S:Int} (hS:S=0\/S=1) {f0:ByteArray->Mng} {j:Nat} (hg:Glob S f0 j) (hfr:∀ t i,f0 (xn t i)=mnone) (ns:List UInt8):
    blockP 13 5 ⟨f0,[]⟩ 0 ((blockM (stmtM 5) false (E0 j) ns).1++[outS ⟨#[112,digitB j]⟩])=.ok ⟨f0,[]⟩ /\
    (S=1->blockP 13 5 ⟨f0,[]⟩ 0 ((blockM (stmtM 5) false (E0 j) ns).1++[outS ⟨#[115,digitB j]⟩])=.error (4,77)):=by
 obtain ⟨st1,E1,e1,h1,ht,e2⟩:=thread_seq hS hg hfr ns
 have at1:∀ c:UInt8,c≠120->st1.f ⟨#[c,digitB j]⟩=f0 ⟨#[c,digitB j]⟩:=fun c hc=>h1.at (by show some c≠some 120;exact fun e=>hc (Option.some.inj e))
 constructor
 · have o:=out_seen (st:=st1) (s:=⟨#[112,digitB j]⟩) (by rw [at1 _ (by decide)];exact hg.p.1)
   rw [at1 _ (by decide),hg.p.2,if_neg (by decide)] at o
   unfold blockP blkP
   rw [seq_append _ _ _ _ _ _ e1,seq_one o]
   show Except.ok (leaveP st1 0)=_
   rw [e2]
 · intro hS1
   have o:=out_seen (st:=st1) (s:=⟨#[115,digitB j]⟩) (by rw [at1 _ (by decide)];exact hg.s.1)
   rw [at1 _ (by decide),hg.s.2,hS1,if_pos (by decide)] at o
   unfold blockP blkP
   rw [seq_append _ _ _ _ _ _ e1]
   simp only [seqP,o]
theorem threads_first {st:St} {x:Er} : ∀ (k:Nat) (ts:List (List Stm)) (t:List Stm),ts[k]?=some t->(∀ i u,i<k->ts[i]?=some u->blockP 13 5 st 0 u=.ok st)->blockP 13 5 st 0 t=.error x->threadsP 13 5 st ts=some x
 | _,[],t,h,_,_=>by simp at h
 | 0,u :: ts,t,h,_,hx=>by
   simp at h;subst h
   unfold threadsP
   rw [hx]
 | k+1,u :: ts,t,h,ha,hx=>by
   unfold threadsP
   rw [ha 0 u (by omega) rfl]
   exact threads_first k ts t (by simpa using h) (fun i v hi hv=>ha (i+1) v (by omega) (by simpa using hv)) hx
theorem threads_at:∀ (k:Nat) (ns:List UInt8) (j:Nat),j<k->∃ ns',(threadsM k ns).2.1[j]?=some (blockM (stmtM 5) false (E0 j) ns').1
 | 0,ns,j,h=>by omega
 | k+1,ns,j,h=>by
   have hl:=(show (threadsM k ns).2.1.length=k from by
    clear h
    induction k with
    | zero=>rfl
    | succ k ih=>show ((threadsM k ns).2.1++[_]).length=_;rw [List.length_append,ih];rfl)
   show ∃ ns',((threadsM k ns).2.1++[(blockM (stmtM 5) false (E0 k) (threadsM k ns).2.2).1])[j]?=_
   by_cases hj:j<k
   · obtain ⟨ns',e⟩:=threads_at k ns j hj
     exact ⟨ns',by rw [List.getElem?_append_left (by omega)];exact e⟩
   · obtain rfl:j=k:=by omega
     exact ⟨(threadsM j ns).2.2,by rw [List.getElem?_append_right (by omega),hl];simp⟩
theorem made_out (ns:List UInt8) (j:Nat) (hj:j<(makeM ns).threads.length) (ss:List Stm) (hs:(makeM ns).threads[j]?=some ss):
    checkP 13 5 ⟨(makeM ns).decls,(makeM ns).threads.set j (ss++[outS ⟨#[112,digitB j]⟩])⟩=none /\
    checkP 13 5 ⟨(makeM ns).decls,(makeM ns).threads.set j (ss++[outS ⟨#[115,digitB j]⟩])⟩=some (4,77):=by
 have hk:=nxV_lt ns 3 (by decide)
 have hS:(1:Int)=0\/(1:Int)=1:=.inr rfl
 have e:(makeM ns).decls=(declsK (1+nxV ns 3)).map (lbl 1):=by rw [lbl_one];exact threads_decls _ _
 have et:(makeM ns).threads=(threadsM (1+nxV ns 3) ns.tail).2.1:=rfl
 have hl:(makeM ns).threads.length=1+nxV ns 3:=by
    rw [et]
    generalize 1+nxV ns 3=k
    induction k with
    | zero=>rfl
    | succ k ih=>show ((threadsM k ns.tail).2.1++[_]).length=_;rw [List.length_append,ih];rfl
 have hg:=glob_k hS (1+nxV ns 3) j (by omega) (by omega)
 have hfr:=fresh0 1 (1+nxV ns 3)
 obtain ⟨ns',e'⟩:=threads_at (1+nxV ns 3) ns.tail j (by omega)
 rw [<- et,hs] at e'
 have ess:ss=(blockM (stmtM 5) false (E0 j) ns').1:=Option.some.inj e'
 obtain ⟨o1,o2⟩:=thread_out hS hg hfr ns'
 rw [<- ess] at o1 o2
 have all:=made_threads hS (K:=1+nxV ns 3) (fun j hj=>glob_k hS _ j (by omega) hj) hfr _ ns.tail (Nat.le_refl _)
 rw [<- et] at all
 unfold checkP
 simp only [e]
 rw [bad_none hS _ (by omega)]
 refine ⟨?_,?_⟩
 · refine threads_none _ fun t ht=>?_
   rcases List.mem_or_eq_of_mem_set ht with h | h
   · exact all t h
   · rw [h];exact o1
 · refine threads_first j _ _ (List.getElem?_set_self hj) (fun i u hi hu=>?_) (o2 rfl)
   rw [List.getElem?_set_ne (by omega)] at hu
   exact all u (List.mem_of_getElem? hu)
end Go.Proofs.YtlepckjmdjjolaaGreatDoor.Fl
