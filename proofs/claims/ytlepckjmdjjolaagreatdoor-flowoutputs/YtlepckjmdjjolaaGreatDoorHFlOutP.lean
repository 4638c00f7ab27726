/- A program whose thread outputs one thing more: it stays small. Plain. -/
import Derived.Test.YtlepckjmdjjolaaGreatDoorHFlMadeO
import Derived.Test.YtlepckjmdjjolaaGreatDoorGFlN
import Derived.Test.YtlepckjmdjjolaaGreatDoorGFlC
import Derived.Test.YtlepckjmdjjolaaGreatDoorGWMadeA
import Derived.Test.YtlepckjmdjjolaaGreatDoorGMakeP
namespace Go.Proofs.YtlepckjmdjjolaaGreatDoor.Fl
set_option linter.unusedVariables false
set_option linter.unusedSimpArgs false
theorem made_thr_len (ns:List UInt8):(makeM ns).threads.length=1+nxV ns 3:=by
 have et:(makeM ns).threads=(threadsM (1+nxV ns 3) ns.tail).2.1:=rfl
 rw [et]
 generalize 1+nxV ns 3=k
 induction k with
 | zero=>rfl
 | succ k ih=>show ((threadsM k ns.tail).2.1++[_]).length=_;rw [List.length_append,ih];rfl
theorem cntT_set (n:Nat) (x:Stm):∀ (ts:List (List Stm)) (k:Nat) (ss:List Stm),ts[k]?=some ss->cntT n (ts.set k (ss++[x]))=cntT n ts+cntS n x
 | [],k,ss,h=>by simp at h
 | t :: ts,0,ss,h=>by
   simp at h
   subst h
   simp only [List.set_cons_zero,cntT,List.map_cons,List.sum_cons]
   simp [tot,List.map_append,List.sum_append]
   omega
 | t :: ts,k+1,ss,h=>by
   have ih:=cntT_set n x ts k ss (by simpa using h)
   simp only [List.set_cons_succ,cntT,List.map_cons,List.sum_cons] at ih ⊢
   omega
theorem nm_out (s:ByteArray) (hs:s.size<=35184372088832):nmS 13 5 (outS s):=by
 refine ⟨fun e he=>?_,fun t ht=>by simp [outS] at ht,fun t ht=>by simp [outS] at ht⟩
 simp [outS] at he
 subst he
 exact ⟨hs,fun k hk=>by simp [nameT] at hk⟩
theorem small_out (ns:List UInt8) (h:ns.length<=300) (k:Nat) (ss:List Stm) (hk:(makeM ns).threads[k]?=some ss) (s:ByteArray) (hs:s.size<=35184372088832):
 (makeM ns).decls.length+cntT 5 ((makeM ns).threads.set k (ss++[outS s]))<=900000/\∀ tt ∈ (makeM ns).threads.set k (ss++[outS s]),∀ t ∈ tt,nmS 13 5 t:=by
 have hg:=Pr.made_gP ns
 have hl:=made_len 5 ns h
 have h2:=cnt_prog hg
 have h3:=hg.dl
 have hn:=nm_prog hg hl (by omega)
 refine ⟨?_,fun tt htt t ht=>?_⟩
 · rw [cntT_set _ _ _ _ _ hk]
   have e:cntS 5 (outS s)=1:=rfl
   rw [e]
   unfold cntT
   omega
 · rcases List.mem_or_eq_of_mem_set htt with h | h
   · exact hn tt h t ht
   · subst h
     rcases List.mem_append.1 ht with h | h
     · exact hn ss (List.mem_of_getElem? hk) t h
     · simp only [List.mem_singleton] at h
       subst h
       exact nm_out s hs
theorem thr_few (ns:List UInt8) (k:Nat) (ss:List Stm) (hk:(makeM ns).threads[k]?=some ss):1<=ss.length/\ss.length<=35:=
 ⟨made_some _ _ ss (List.mem_of_getElem? hk),made_few _ _ ss (List.mem_of_getElem? hk)⟩
end Go.Proofs.YtlepckjmdjjolaaGreatDoor.Fl
