/- Own texts laid together: MakePlain, TreeWf. Conditions: as each theorem says. -/
import Derived.Test.YtlepckjmdjjolaaGreatDoorGBits
import Derived.Test.YtlepckjmdjjolaaGreatDoorGTreeB
import Derived.Lib.ItoaLen
set_option linter.unusedVariables false
set_option linter.unusedSimpArgs false
namespace Go.Proofs.YtlepckjmdjjolaaGreatDoor
structure Env where
 loc:List ByteArray
 sec:List Bool
 cnt:List Int
 held:Bool
 thread:Nat
 deep:Nat
def nxV (ns:List UInt8) (k:Nat):Nat:=match ns with | []=>0 | x :: _=>x.toNat % k
def digitB (n:Nat):UInt8:=UInt8.ofNat (48+n % 10)
def dig (c:UInt8) (E:Env):ByteArray:=⟨#[c,digitB E.thread]⟩
def sharedS:ByteArray:=⟨#[115,104,97,114,101,100]⟩
def hiddenS:ByteArray:=⟨#[104,105,100,100,101,110]⟩
def counterUpto (E:Env):Nat->Option ByteArray
 | 0=>none
 | n+1=>if 0<E.cnt.getD n 0/\E.cnt.getD n 0<=4 then some (E.loc.getD n ⟨#[]⟩) else counterUpto E n
def placeM (pub:Nat->List UInt8->Tree × List UInt8) (E:Env) (deep:Nat) (ns:List UInt8):Tree × List UInt8:=
 if nxV ns 3=0 then
    match counterUpto E E.loc.length with
    | some s=>(nameT s,ns.tail)
    | none=>(litT (nxV ns.tail 4),ns.tail.tail)
 else if nxV ns 3=1 then (binT 3 (pub (deep+1) ns.tail).1 (litT 3),(pub (deep+1) ns.tail).2)
 else (litT (nxV ns.tail 4),ns.tail.tail)
def binM (f:Nat->List UInt8->Tree × List UInt8) (deep:Nat) (ns:List UInt8):Tree × List UInt8:=
 (binT (nxV ns 10) (f (deep+1) ns.tail).1 (f (deep+1) (f (deep+1) ns.tail).2).1,(f (deep+1) (f (deep+1) ns.tail).2).2)
def pubM (E:Env):Nat->Nat->List UInt8->Tree × List UInt8
 | 0,_,ns=>(litT (nxV ns.tail 256),ns.tail.tail)
 | f+1,deep,ns=>
   let k:=nxV ns 8
   if 3<deep\/k=0 then (litT (nxV ns.tail 256),ns.tail.tail)
   else if k=1 then (nameT (dig 112 E),ns.tail)
   else if k=2/\E.held=true then (nameT sharedS,ns.tail)
   else if k=3 then (cellT (dig 113 E) (placeM (pubM E f) E deep ns.tail).1,(placeM (pubM E f) E deep ns.tail).2)
   else if k=4/\0<E.loc.length then
    (if E.sec.getD (nxV ns.tail E.loc.length) false=false then (nameT (E.loc.getD (nxV ns.tail E.loc.length) ⟨#[]⟩),ns.tail.tail) else binM (pubM E f) deep ns.tail.tail)
   else if k=5 then (notT (pubM E f (deep+1) ns.tail).1,(pubM E f (deep+1) ns.tail).2)
   else binM (pubM E f) deep ns.tail
def secM (E:Env):Nat->Nat->List UInt8->Tree × List UInt8
 | 0,deep,ns=>pubM E 0 (deep+1) ns.tail
 | f+1,deep,ns=>
   let k:=nxV ns 8
   if 3<deep\/k=0 then pubM E f (deep+1) ns.tail
   else if k=1 then (nameT (dig 115 E),ns.tail)
   else if k=2 then (cellT (dig 116 E) (placeM (pubM E f) E deep ns.tail).1,(placeM (pubM E f) E deep ns.tail).2)
   else if k=3/\E.held=true then (nameT hiddenS,ns.tail)
   else if k=4/\0<E.loc.length then (nameT (E.loc.getD (nxV ns.tail E.loc.length) ⟨#[]⟩),ns.tail.tail)
   else if k=5 then
    (pickT (secM E f (deep+1) ns.tail).1 (secM E f (deep+1) (secM E f (deep+1) ns.tail).2).1 (secM E f (deep+1) (secM E f (deep+1) (secM E f (deep+1) ns.tail).2).2).1,(secM E f (deep+1) (secM E f (deep+1) (secM E f (deep+1) ns.tail).2).2).2)
   else binM (secM E f) deep ns.tail
theorem nxV_lt (ns:List UInt8) (k:Nat) (h:0<k):nxV ns k<k:=by
 unfold nxV;cases ns with
 | nil=>exact h
 | cons x r=>exact Nat.mod_lt _ h
def wfT:Nat->Tree->Prop
 | 0,_=>False
 | n+1,t=>(t.kind=3->0<=t.op/\t.op<=9)/\(t.kind=1->0<t.name.size)/\t.name.size<=16/\t.value<18446744073709551616/\∀ k ∈ t.kids,wfT n k
theorem wfT.lift:∀ {n:Nat} {t:Tree},wfT n t->wfT (n+1) t
 | 0,_,h=>h.elim
 | n+1,t,⟨a,b,c,d,e⟩=>⟨a,b,c,d,fun k hk=>(e k hk).lift⟩
theorem wfT.up {n:Nat} {t:Tree} (h:wfT n t):∀ {m:Nat},n<=m->wfT m t:=fun {m} hm=>by
 induction m with
 | zero=>obtain rfl:n=0:=by omega
         exact h
 | succ m ih=>
   by_cases e:n=m+1
   · subst e;exact h
   · exact (ih (by omega)).lift
def goodE (E:Env):Prop:=∀ s ∈ E.loc,0<s.size/\s.size<=16
theorem wf_lit (n v:Nat) (h:v<18446744073709551616):wfT (n+1) (litT v):=⟨by simp [litT],by simp [litT],by simp [litT,ByteArray.size],h,by simp [litT]⟩
theorem wf_name (n:Nat) (s:ByteArray) (h:0<s.size) (h2:s.size<=16):wfT (n+1) (nameT s):=⟨by simp [nameT],fun _=>h,h2,by simp [nameT],by simp [nameT]⟩
theorem wf_cell (n:Nat) (s:ByteArray) (x:Tree) (h2:s.size<=16) (hx:wfT n x):wfT (n+1) (cellT s x):=⟨by simp [cellT],by simp [cellT],h2,by simp [cellT],by simp [cellT];exact hx⟩
theorem wf_bin (n:Nat) (o:Nat) (x y:Tree) (ho:o<=9) (hx:wfT n x) (hy:wfT n y):wfT (n+1) (binT o x y):=⟨fun _=>⟨by simp [binT],by simp [binT];omega⟩,by simp [binT],by simp [binT,ByteArray.size],by simp [binT],by simp [binT];exact ⟨hx,hy⟩⟩
theorem wf_not (n:Nat) (x:Tree) (hx:wfT n x):wfT (n+1) (notT x):=⟨by simp [notT],by simp [notT],by simp [notT,ByteArray.size],by simp [notT],by simp [notT];exact hx⟩
theorem wf_pick (n:Nat) (x y z:Tree) (hx:wfT n x) (hy:wfT n y) (hz:wfT n z):wfT (n+1) (pickT x y z):=⟨by simp [pickT],by simp [pickT],by simp [pickT,ByteArray.size],by simp [pickT],by simp [pickT];exact ⟨hx,hy,hz⟩⟩
theorem dig_size (c:UInt8) (E:Env):(dig c E).size=2:=rfl
theorem loc_good {E:Env} (h:goodE E) (i:Nat) (hi:i<E.loc.length):0<(E.loc.getD i ⟨#[]⟩).size/\(E.loc.getD i ⟨#[]⟩).size<=16:=by
 have:E.loc.getD i ⟨#[]⟩ ∈ E.loc:=by simp [hi]
 exact h _ this
theorem counter_good {E:Env} (h:goodE E):∀ (n:Nat) (s:ByteArray),n<=E.loc.length->counterUpto E n=some s->0<s.size/\s.size<=16
 | 0,s,_,hs=>by simp [counterUpto] at hs
 | n+1,s,hn,hs=>by
   unfold counterUpto at hs
   split at hs
   · cases hs;exact loc_good h n (by omega)
   · exact counter_good h n s (by omega) hs
theorem place_wf {E:Env} (h:goodE E) {pub:Nat->List UInt8->Tree × List UInt8} {n deep:Nat} (hp:∀ d ns,wfT n (pub d ns).1) (ns:List UInt8):wfT (n+1) (placeM pub E deep ns).1:=by
 unfold placeM
 have hv:=nxV_lt ns.tail 4 (by omega)
 split
 · split
   · next s hs=>exact wf_name _ _ (counter_good h _ s (Nat.le_refl _) hs).1 (counter_good h _ s (Nat.le_refl _) hs).2
   · exact wf_lit _ _ (by omega)
 · split
   · cases n with
     | zero=>exact (hp 0 []).elim
     | succ n=>exact wf_bin _ 3 _ _ (by omega) (hp _ _) (wf_lit _ _ (by omega))
   · exact wf_lit _ _ (by omega)
theorem bin_wf {f:Nat->List UInt8->Tree × List UInt8} {n deep:Nat} (hp:∀ d ns,wfT n (f d ns).1) (ns:List UInt8):wfT (n+1) (binM f deep ns).1:=by
 have:=nxV_lt ns 10 (by omega)
 exact wf_bin _ _ _ _ (by omega) (hp _ _) (hp _ _)
theorem pub_wf {E:Env} (h:goodE E):∀ (f deep:Nat) (ns:List UInt8),wfT (2*f+1) (pubM E f deep ns).1
 | 0,deep,ns=>wf_lit _ _ (by have:=nxV_lt ns.tail 256 (by omega);omega)
 | f+1,deep,ns=>by
   have ih:=pub_wf h f
   have hv:=nxV_lt ns.tail 256 (by omega)
   show wfT (2*f+2+1) _
   simp only [pubM]
   split
   · exact wf_lit _ _ (by omega)
   · split
     · exact wf_name _ _ (by rw [dig_size];omega) (by rw [dig_size];omega)
     · split
       · exact wf_name _ _ (by decide) (by decide)
       · split
         · exact wf_cell _ _ _ (by rw [dig_size];omega) (place_wf h ih _)
         · split
           · next hl=>
             have:=nxV_lt ns.tail E.loc.length hl.2
             split
             · exact wf_name _ _ (loc_good h _ this).1 (loc_good h _ this).2
             · exact (bin_wf ih _).up (by omega)
           · split
             · exact (wf_not _ _ (ih _ _)).up (by omega)
             · exact (bin_wf ih _).up (by omega)
theorem sec_wf {E:Env} (h:goodE E):∀ (f deep:Nat) (ns:List UInt8),wfT (2*f+1) (secM E f deep ns).1
 | 0,deep,ns=>pub_wf h 0 _ _
 | f+1,deep,ns=>by
   have ih:=sec_wf h f
   have ihp:=pub_wf h f
   show wfT (2*f+2+1) _
   simp only [secM]
   split
   · exact (ihp _ _).up (by omega)
   · split
     · exact wf_name _ _ (by rw [dig_size];omega) (by rw [dig_size];omega)
     · split
       · exact wf_cell _ _ _ (by rw [dig_size];omega) (place_wf h ihp _)
       · split
         · exact wf_name _ _ (by decide) (by decide)
         · split
           · next hl=>
             have:=nxV_lt ns.tail E.loc.length hl.2
             exact wf_name _ _ (loc_good h _ this).1 (loc_good h _ this).2
           · split
             · exact (wf_pick _ _ _ _ (ih _ _) (ih _ _) (ih _ _)).up (by omega)
             · exact (bin_wf ih _).up (by omega)
theorem signL_len (o:Nat):(signL o).length<=2:=by
 unfold signL
 match o with
 | 0 | 1 | 2 | 3 | 4 | 5 | 6 | 7 | 8 | 9=>decide
 | _+10=>simp
theorem epart_len {n:Nat} {ks:List Tree} {L:Nat} (h1:1<=L) (h:∀ k ∈ ks,∀ p,(etext n k p).length<=L) (i p:Nat):(epart n ks i p).length<=L:=by
 unfold epart
 split
 · next k hk=>exact h k (List.mem_of_getElem? hk) p
 · simpa using h1
theorem etext_len:∀ (n:Nat) (t:Tree) (p:Nat),wfT n t->(etext n t p).length<=100*4 ^ n
 | 0,t,p,h=>h.elim
 | n+1,t,p,⟨h1,h2,h3,h4,h5⟩=>by
   have hp:1<=4 ^ n:=Nat.one_le_pow _ _ (by omega)
   have he:∀ i p,(epart n t.kids i p).length<=100*4 ^ n:=epart_len (by omega) fun k hk p=>etext_len n k p (h5 k hk)
   have hs:=signL_len t.op.toNat
   have e0:=he 0 (tightN t.op)
   have e1:=he 1 (tightN t.op+1)
   have e2:=he 0 0
   have e3:=he 1 0
   have e4:=he 2 0
   have e5:=he 0 9
   rw [Nat.pow_succ]
   rcases kind_cases t.kind with hk | hk | hk | hk | hk | hk | ⟨k0,k1,k2,k3,k4,k5⟩
   · rw [etext_lit n t p hk]
     have:(Lib.decDigits t.value).length<=20:=by rw [Lib.decDigits_length];exact Lib.nDigits_le20 _ h4
     omega
   · rw [etext_name n t p hk,bys_length];omega
   · rw [etext_cell n t p hk];simp only [cellText,List.length_append,List.length_cons,List.length_nil,bys_length];omega
   · rw [etext_bin n t p hk];unfold binTextAt
     split
     · simp;omega
     · split <;> (simp only [binText,List.length_append,List.length_cons,List.length_nil];omega)
   · rw [etext_not n t p hk];simp only [List.length_append,List.length_cons,List.length_nil];omega
   · rw [etext_pick n t p hk];simp only [pickText,List.length_append,List.length_cons,List.length_nil];omega
   · rw [etext_else n t p k0 k1 k2 k3 k4 k5];simp;omega
theorem etext_some (n:Nat) (t:Tree) (p:Nat) (h:wfT (n+1) t):etext (n+1) t p≠[]:=by
 by_cases h1:t.kind=1
 · rw [etext_name n t p h1]
   intro e
   have:=h.2.1 h1
   have h2:=bys_length t.name
   rw [e] at h2
   simp at h2
   omega
 · exact etext_ne n t p h1
end Go.Proofs.YtlepckjmdjjolaaGreatDoor
