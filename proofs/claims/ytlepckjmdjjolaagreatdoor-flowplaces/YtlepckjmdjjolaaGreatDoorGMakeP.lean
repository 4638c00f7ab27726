/- Own texts laid together: MakePlain, TreeWf, MakeStmPlain, MakeSize. Conditions: as each theorem says. -/
import Derived.Test.YtlepckjmdjjolaaGreatDoorGBits
import Derived.Test.YtlepckjmdjjolaaGreatDoorGTreeB
import Derived.Lib.ItoaLen
set_option linter.unusedVariables false
set_option linter.unusedSimpArgs false
namespace Go.Proofs.YtlepckjmdjjolaaGreatDoor
structure Env where
 loc:List ByteArray
 sec:List Bool
 cnt:List Int
 held:Bool
 thread:Nat
 deep:Nat
def nxV (ns:List UInt8) (k:Nat):Nat:=match ns with | []=>0 | x :: _=>x.toNat % k
def digitB (n:Nat):UInt8:=UInt8.ofNat (48+n % 10)
def dig (c:UInt8) (E:Env):ByteArray:=⟨#[c,digitB E.thread]⟩
def sharedS:ByteArray:=⟨#[115,104,97,114,101,100]⟩
def hiddenS:ByteArray:=⟨#[104,105,100,100,101,110]⟩
def counterUpto (E:Env):Nat->Option ByteArray
 | 0=>none
 | n+1=>if 0<E.cnt.getD n 0/\E.cnt.getD n 0<=4 then some (E.loc.getD n ⟨#[]⟩) else counterUpto E n
def placeM (pub:Nat->List UInt8->Tree × List UInt8) (E:Env) (deep:Nat) (ns:List UInt8):Tree × List UInt8:=
 if nxV ns 3=0 then
    match counterUpto E E.loc.length with
    | some s=>(nameT s,ns.tail)
    | none=>(litT (nxV ns.tail 4),ns.tail.tail)
 else if nxV ns 3=1 then (binT 3 (pub (deep+1) ns.tail).1 (litT 3),(pub (deep+1) ns.tail).2)
 else (litT (nxV ns.tail 4),ns.tail.tail)
def binM (f:Nat->List UInt8->Tree × List UInt8) (deep:Nat) (ns:List UInt8):Tree × List UInt8:=
 (binT (nxV ns 10) (f (deep+1) ns.tail).1 (f (deep+1) (f (deep+1) ns.tail).2).1,(f (deep+1) (f (deep+1) ns.tail).2).2)
def pubM (E:Env):Nat->Nat->List UInt8->Tree × List UInt8
 | 0,_,ns=>(litT (nxV ns.tail 256),ns.tail.tail)
 | f+1,deep,ns=>
   let k:=nxV ns 8
   if 3<deep\/k=0 then (litT (nxV ns.tail 256),ns.tail.tail)
   else if k=1 then (nameT (dig 112 E),ns.tail)
   else if k=2/\E.held=true then (nameT sharedS,ns.tail)
   else if k=3 then (cellT (dig 113 E) (placeM (pubM E f) E deep ns.tail).1,(placeM (pubM E f) E deep ns.tail).2)
   else if k=4/\0<E.loc.length then
    (if E.sec.getD (nxV ns.tail E.loc.length) false=false then (nameT (E.loc.getD (nxV ns.tail E.loc.length) ⟨#[]⟩),ns.tail.tail) else binM (pubM E f) deep ns.tail.tail)
   else if k=5 then (notT (pubM E f (deep+1) ns.tail).1,(pubM E f (deep+1) ns.tail).2)
   else binM (pubM E f) deep ns.tail
def secM (E:Env):Nat->Nat->List UInt8->Tree × List UInt8
 | 0,deep,ns=>pubM E 0 (deep+1) ns.tail
 | f+1,deep,ns=>
   let k:=nxV ns 8
   if 3<deep\/k=0 then pubM E f (deep+1) ns.tail
   else if k=1 then (nameT (dig 115 E),ns.tail)
   else if k=2 then (cellT (dig 116 E) (placeM (pubM E f) E deep ns.tail).1,(placeM (pubM E f) E deep ns.tail).2)
   else if k=3/\E.held=true then (nameT hiddenS,ns.tail)
   else if k=4/\0<E.loc.length then (nameT (E.loc.getD (nxV ns.tail E.loc.length) ⟨#[]⟩),ns.tail.tail)
   else if k=5 then
    (pickT (secM E f (deep+1) ns.tail).1 (secM E f (deep+1) (secM E f (deep+1) ns.tail).2).1 (secM E f (deep+1) (secM E f (deep+1) (secM E f (deep+1) ns.tail).2).2).1,(secM E f (deep+1) (secM E f (deep+1) (secM E f (deep+1) ns.tail).2).2).2)
   else binM (secM E f) deep ns.tail
theorem nxV_lt (ns:List UInt8) (k:Nat) (h:0<k):nxV ns k<k:=by
 unfold nxV;cases ns with
 | nil=>exact h
 | cons x r=>exact Nat.mod_lt _ h
def wfT:Nat->Tree->Prop
 | 0,_=>False
 | n+1,t=>(t.kind=3->0<=t.op/\t.op<=9)/\(t.kind=1->0<t.name.size)/\t.name.size<=16/\t.value<18446744073709551616/\∀ k ∈ t.kids,wfT n k
theorem wfT.lift:∀ {n:Nat} {t:Tree},wfT n t->wfT (n+1) t
 | 0,_,h=>h.elim
 | n+1,t,⟨a,b,c,d,e⟩=>⟨a,b,c,d,fun k hk=>(e k hk).lift⟩
theorem wfT.up {n:Nat} {t:Tree} (h:wfT n t):∀ {m:Nat},n<=m->wfT m t:=fun {m} hm=>by
 induction m with
 | zero=>obtain rfl:n=0:=by omega
         exact h
 | succ m ih=>
   by_cases e:n=m+1
   · subst e;exact h
   · exact (ih (by omega)).lift
def goodE (E:Env):Prop:=∀ s ∈ E.loc,0<s.size/\s.size<=16
theorem wf_lit (n v:Nat) (h:v<18446744073709551616):wfT (n+1) (litT v):=⟨by simp [litT],by simp [litT],by simp [litT,ByteArray.size],h,by simp [litT]⟩
theorem wf_name (n:Nat) (s:ByteArray) (h:0<s.size) (h2:s.size<=16):wfT (n+1) (nameT s):=⟨by simp [nameT],fun _=>h,h2,by simp [nameT],by simp [nameT]⟩
theorem wf_cell (n:Nat) (s:ByteArray) (x:Tree) (h2:s.size<=16) (hx:wfT n x):wfT (n+1) (cellT s x):=⟨by simp [cellT],by simp [cellT],h2,by simp [cellT],by simp [cellT];exact hx⟩
theorem wf_bin (n:Nat) (o:Nat) (x y:Tree) (ho:o<=9) (hx:wfT n x) (hy:wfT n y):wfT (n+1) (binT o x y):=⟨fun _=>⟨by simp [binT],by simp [binT];omega⟩,by simp [binT],by simp [binT,ByteArray.size],by simp [binT],by simp [binT];exact ⟨hx,hy⟩⟩
theorem wf_not (n:Nat) (x:Tree) (hx:wfT n x):wfT (n+1) (notT x):=⟨by simp [notT],by simp [notT],by simp [notT,ByteArray.size],by simp [notT],by simp [notT];exact hx⟩
theorem wf_pick (n:Nat) (x y z:Tree) (hx:wfT n x) (hy:wfT n y) (hz:wfT n z):wfT (n+1) (pickT x y z):=⟨by simp [pickT],by simp [pickT],by simp [pickT,ByteArray.size],by simp [pickT],by simp [pickT];exact ⟨hx,hy,hz⟩⟩
theorem dig_size (c:UInt8) (E:Env):(dig c E).size=2:=rfl
theorem loc_good {E:Env} (h:goodE E) (i:Nat) (hi:i<E.loc.length):0<(E.loc.getD i ⟨#[]⟩).size/\(E.loc.getD i ⟨#[]⟩).size<=16:=by
 have:E.loc.getD i ⟨#[]⟩ ∈ E.loc:=by simp [hi]
 exact h _ this
theorem counter_good {E:Env} (h:goodE E):∀ (n:Nat) (s:ByteArray),n<=E.loc.length->counterUpto E n=some s->0<s.size/\s.size<=16
 | 0,s,_,hs=>by simp [counterUpto] at hs
 | n+1,s,hn,hs=>by
   unfold counterUpto at hs
   split at hs
   · cases hs;exact loc_good h n (by omega)
   · exact counter_good h n s (by omega) hs
theorem place_wf {E:Env} (h:goodE E) {pub:Nat->List UInt8->Tree × List UInt8} {n deep:Nat} (hp:∀ d ns,wfT n (pub d ns).1) (ns:List UInt8):wfT (n+1) (placeM pub E deep ns).1:=by
 unfold placeM
 have hv:=nxV_lt ns.tail 4 (by omega)
 split
 · split
   · next s hs=>exact wf_name _ _ (counter_good h _ s (Nat.le_refl _) hs).1 (counter_good h _ s (Nat.le_refl _) hs).2
   · exact wf_lit _ _ (by omega)
 · split
   · cases n with
     | zero=>exact (hp 0 []).elim
     | succ n=>exact wf_bin _ 3 _ _ (by omega) (hp _ _) (wf_lit _ _ (by omega))
   · exact wf_lit _ _ (by omega)
theorem bin_wf {f:Nat->List UInt8->Tree × List UInt8} {n deep:Nat} (hp:∀ d ns,wfT n (f d ns).1) (ns:List UInt8):wfT (n+1) (binM f deep ns).1:=by
 have:=nxV_lt ns 10 (by omega)
 exact wf_bin _ _ _ _ (by omega) (hp _ _) (hp _ _)
theorem pub_wf {E:Env} (h:goodE E):∀ (f deep:Nat) (ns:List UInt8),wfT (2*f+1) (pubM E f deep ns).1
 | 0,deep,ns=>wf_lit _ _ (by have:=nxV_lt ns.tail 256 (by omega);omega)
 | f+1,deep,ns=>by
   have ih:=pub_wf h f
   have hv:=nxV_lt ns.tail 256 (by omega)
   show wfT (2*f+2+1) _
   simp only [pubM]
   split
   · exact wf_lit _ _ (by omega)
   · split
     · exact wf_name _ _ (by rw [dig_size];omega) (by rw [dig_size];omega)
     · split
       · exact wf_name _ _ (by decide) (by decide)
       · split
         · exact wf_cell _ _ _ (by rw [dig_size];omega) (place_wf h ih _)
         · split
           · next hl=>
             have:=nxV_lt ns.tail E.loc.length hl.2
             split
             · exact wf_name _ _ (loc_good h _ this).1 (loc_good h _ this).2
             · exact (bin_wf ih _).up (by omega)
           · split
             · exact (wf_not _ _ (ih _ _)).up (by omega)
             · exact (bin_wf ih _).up (by omega)
theorem sec_wf {E:Env} (h:goodE E):∀ (f deep:Nat) (ns:List UInt8),wfT (2*f+1) (secM E f deep ns).1
 | 0,deep,ns=>pub_wf h 0 _ _
 | f+1,deep,ns=>by
   have ih:=sec_wf h f
   have ihp:=pub_wf h f
   show wfT (2*f+2+1) _
   simp only [secM]
   split
   · exact (ihp _ _).up (by omega)
   · split
     · exact wf_name _ _ (by rw [dig_size];omega) (by rw [dig_size];omega)
     · split
       · exact wf_cell _ _ _ (by rw [dig_size];omega) (place_wf h ihp _)
       · split
         · exact wf_name _ _ (by decide) (by decide)
         · split
           · next hl=>
             have:=nxV_lt ns.tail E.loc.length hl.2
             exact wf_name _ _ (loc_good h _ this).1 (loc_good h _ this).2
           · split
             · exact (wf_pick _ _ _ _ (ih _ _) (ih _ _) (ih _ _)).up (by omega)
             · exact (bin_wf ih _).up (by omega)
theorem signL_len (o:Nat):(signL o).length<=2:=by
 unfold signL
 match o with
 | 0 | 1 | 2 | 3 | 4 | 5 | 6 | 7 | 8 | 9=>decide
 | _+10=>simp
theorem epart_len {n:Nat} {ks:List Tree} {L:Nat} (h1:1<=L) (h:∀ k ∈ ks,∀ p,(etext n k p).length<=L) (i p:Nat):(epart n ks i p).length<=L:=by
 unfold epart
 split
 · next k hk=>exact h k (List.mem_of_getElem? hk) p
 · simpa using h1
theorem etext_len:∀ (n:Nat) (t:Tree) (p:Nat),wfT n t->(etext n t p).length<=100*4 ^ n
 | 0,t,p,h=>h.elim
 | n+1,t,p,⟨h1,h2,h3,h4,h5⟩=>by
   have hp:1<=4 ^ n:=Nat.one_le_pow _ _ (by omega)
   have he:∀ i p,(epart n t.kids i p).length<=100*4 ^ n:=epart_len (by omega) fun k hk p=>etext_len n k p (h5 k hk)
   have hs:=signL_len t.op.toNat
   have e0:=he 0 (tightN t.op)
   have e1:=he 1 (tightN t.op+1)
   have e2:=he 0 0
   have e3:=he 1 0
   have e4:=he 2 0
   have e5:=he 0 9
   rw [Nat.pow_succ]
   rcases kind_cases t.kind with hk | hk | hk | hk | hk | hk | ⟨k0,k1,k2,k3,k4,k5⟩
   · rw [etext_lit n t p hk]
     have:(Lib.decDigits t.value).length<=20:=by rw [Lib.decDigits_length];exact Lib.nDigits_le20 _ h4
     omega
   · rw [etext_name n t p hk,bys_length];omega
   · rw [etext_cell n t p hk];simp only [cellText,List.length_append,List.length_cons,List.length_nil,bys_length];omega
   · rw [etext_bin n t p hk];unfold binTextAt
     split
     · simp;omega
     · split <;> (simp only [binText,List.length_append,List.length_cons,List.length_nil];omega)
   · rw [etext_not n t p hk];simp only [List.length_append,List.length_cons,List.length_nil];omega
   · rw [etext_pick n t p hk];simp only [pickText,List.length_append,List.length_cons,List.length_nil];omega
   · rw [etext_else n t p k0 k1 k2 k3 k4 k5];simp;omega
theorem etext_some (n:Nat) (t:Tree) (p:Nat) (h:wfT (n+1) t):etext (n+1) t p≠[]:=by
 by_cases h1:t.kind=1
 · rw [etext_name n t p h1]
   intro e
   have:=h.2.1 h1
   have h2:=bys_length t.name
   rw [e] at h2
   simp at h2
   omega
 · exact etext_ne n t p h1
def nameX (E:Env):ByteArray:=⟨#[120,digitB E.thread,digitB (E.loc.length / 10),digitB E.loc.length]⟩
def enterE (E:Env) (s:Bool) (c:Int):Env := { E with loc:=E.loc++[nameX E],sec:=E.sec++[s],cnt:=E.cnt++[c] }
def cutE (E:Env) (n:Nat):Env := { E with loc:=E.loc.take n,sec:=E.sec.take n,cnt:=E.cnt.take n }
def doorS:ByteArray:=⟨#[100,111,111,114]⟩
def countS:ByteArray:=⟨#[99,111,117,110,116]⟩
def stmE (k:Int) (s:ByteArray) (es:List Tree):Stm:=⟨k,s,es,0,[],[],0⟩
abbrev Mk:Type:=List Stm × Env × List UInt8
def loopM (st:Bool->Env->List UInt8->Mk) (inside:Bool):Nat->Env->List UInt8->Mk
 | 0,E,ns=>([],E,ns)
 | j+1,E,ns=>((loopM st inside j E ns).1++(st inside (loopM st inside j E ns).2.1 (loopM st inside j E ns).2.2).1,(st inside (loopM st inside j E ns).2.1 (loopM st inside j E ns).2.2).2)
def blockM (st:Bool->Env->List UInt8->Mk) (inside:Bool) (E:Env) (ns:List UInt8):Mk:=
 let r:=loopM st inside (nxV ns 5+1) { E with deep:=E.deep+1 } ns.tail
 (r.1,{ cutE r.2.1 E.loc.length with deep:=E.deep },r.2.2)
def oneM (k:Int) (s:ByteArray) (E:Env) (e:Tree × List UInt8):Mk:=([stmE k s [e.1]],E,e.2)
def storeM (s:ByteArray) (E:Env) (i:Tree) (e:Tree × List UInt8):Mk:=([stmE 2 s [i,e.1]],E,e.2)
def ifM (st:Bool->Env->List UInt8->Mk) (inside:Bool) (E:Env) (e:Tree × List UInt8):Mk:=
 ([⟨3,⟨#[]⟩,[e.1],0,(blockM st inside E e.2).1,(blockM st inside E (blockM st inside E e.2).2.2).1,0⟩],E,(blockM st inside E (blockM st inside E e.2).2.2).2.2)
def forM (st:Bool->Env->List UInt8->Mk) (inside:Bool) (E:Env) (n:Nat) (ns:List UInt8):Mk:=
 ([⟨4,nameX E,[],n,(blockM st inside (enterE E false n) ns).1,[],0⟩],E,(blockM st inside (enterE E false n) ns).2.2)
def heldM (r:Mk) (v:Tree × List UInt8):Mk:=([stmE 5 doorS []]++r.1++[stmE 1 sharedS [v.1],stmE 6 doorS []],{ r.2.1 with held:=false },v.2)
def stmtB (st:Bool->Env->List UInt8->Mk) (inside:Bool) (E:Env) (ns:List UInt8):Mk:=
    if nxV ns 12=0/\E.loc.length<90 then oneM 0 (nameX E) (enterE E true 0) (secM E 6 0 ns.tail)
    else if nxV ns 12=1/\E.loc.length<90/\inside=false then oneM 0 (nameX E) (enterE E false 0) (pubM E 6 0 ns.tail)
    else if nxV ns 12=2 then oneM 1 (dig 115 E) E (secM E 6 0 ns.tail)
    else if nxV ns 12=3 then storeM (dig 116 E) E (placeM (pubM E 5) E 0 ns.tail).1 (secM E 6 0 (placeM (pubM E 5) E 0 ns.tail).2)
    else if nxV ns 12=4/\E.deep<4 then ifM st true E (secM E 6 0 ns.tail)
    else if nxV ns 12=5/\E.deep<4 then forM st inside E (1+nxV ns.tail 5) ns.tail.tail
    else if inside=true then oneM 1 (dig 115 E) E (secM E 6 0 ns.tail)
    else if nxV ns 12=6/\E.deep<4 then ifM st false E (pubM E 6 0 ns.tail)
    else if nxV ns 12=7 then storeM (dig 113 E) E (placeM (pubM E 5) E 0 ns.tail).1 (pubM E 6 0 (placeM (pubM E 5) E 0 ns.tail).2)
    else if nxV ns 12=8/\E.held=false then
     heldM (loopM st false (nxV ns.tail 4+1) { E with held:=true } ns.tail.tail) (pubM (loopM st false (nxV ns.tail 4+1) { E with held:=true } ns.tail.tail).2.1 6 1 (loopM st false (nxV ns.tail 4+1) { E with held:=true } ns.tail.tail).2.2)
    else if nxV ns 12=9 then oneM 7 countS E (pubM E 6 0 ns.tail)
    else if nxV ns 12=10 then oneM 9 ⟨#[]⟩ E (pubM E 6 0 ns.tail)
    else if nxV ns 12=11 then ([stmE 8 ⟨#[]⟩ []],E,ns.tail)
    else oneM 1 (dig 112 E) E (pubM E 6 0 ns.tail)
def stmtM:Nat->Bool->Env->List UInt8->Mk
 | 0=>fun _ E ns=>([],E,ns)
 | f+1=>stmtB (stmtM f)
def declsOf (k:Nat):List Dcl:=[⟨false,0,⟨#[112,digitB k]⟩,0,⟨#[]⟩,0⟩,⟨false,0,⟨#[113,digitB k]⟩,4,⟨#[]⟩,0⟩,⟨false,1,⟨#[115,digitB k]⟩,0,⟨#[]⟩,0⟩,⟨false,1,⟨#[116,digitB k]⟩,4,⟨#[]⟩,0⟩]
def decls0:List Dcl:=[⟨true,0,doorS,0,⟨#[]⟩,0⟩,⟨false,0,sharedS,0,doorS,0⟩,⟨false,1,hiddenS,0,doorS,0⟩,⟨false,0,countS,0,⟨#[]⟩,0⟩]
def threadsM:Nat->List UInt8->List Dcl × List (List Stm) × List UInt8
 | 0,ns=>(decls0,[],ns)
 | k+1,ns=>
   let r:=threadsM k ns
   let b:=blockM (stmtM 5) false ⟨[],[],[],false,k,0⟩ r.2.2
   (r.1++declsOf k,r.2.1++[b.1],b.2.2)
def makeM (ns:List UInt8):Prg:=let r:=threadsM (1+nxV ns 3) ns.tail;⟨r.1,r.2.1⟩
def growE (E E':Env):Prop:=E'.held=E.held/\E'.thread=E.thread/\E'.deep=E.deep/\∃ l s c,E'.loc=E.loc++l/\E'.sec=E.sec++s/\E'.cnt=E.cnt++c/\s.length=l.length/\c.length=l.length
theorem growE.refl (E:Env):growE E E:=⟨rfl,rfl,rfl,[],[],[],by simp⟩
theorem growE.trans {a b c:Env} (h:growE a b) (k:growE b c):growE a c:=by
 obtain ⟨h1,h2,h3,l,s,c,h4,h5,h6,h7,h8⟩:=h
 obtain ⟨k1,k2,k3,l',s',c',k4,k5,k6,k7,k8⟩:=k
 exact ⟨k1.trans h1,k2.trans h2,k3.trans h3,l++l',s++s',c++c',by rw [k4,h4,List.append_assoc],by rw [k5,h5,List.append_assoc],by rw [k6,h6,List.append_assoc],by simp [h7,k7],by simp [h8,k8]⟩
theorem growE.enter (E:Env) (s:Bool) (c:Int):growE E (enterE E s c):=⟨rfl,rfl,rfl,[nameX E],[s],[c],rfl,rfl,rfl,rfl,rfl⟩
def fullE (E:Env):Prop:=E.sec.length=E.loc.length/\E.cnt.length=E.loc.length
theorem cutE_grow {E E':Env} (hf:fullE E) (h:growE E E'):cutE E' E.loc.length=E:=by
 obtain ⟨h1,h2,h3,l,s,c,h4,h5,h6,h7,h8⟩:=h
 obtain ⟨E1,E2,E3,E4,E5,E6⟩:=E
 obtain ⟨F1,F2,F3,F4,F5,F6⟩:=E'
 simp only at h1 h2 h3 h4 h5 h6
 subst h1 h2 h3 h4 h5 h6
 obtain ⟨g1,g2⟩:=hf
 simp only at g1 g2
 have a1:(E1++l).take E1.length=E1:=by simp
 have a2:(E2++s).take E1.length=E2:=by rw [<- g1];simp
 have a3:(E3++c).take E1.length=E3:=by rw [<- g2];simp
 simp only [cutE,a1,a2,a3]
theorem growE.full {E E':Env} (hf:fullE E) (h:growE E E'):fullE E':=by
 obtain ⟨h1,h2,h3,l,s,c,h4,h5,h6,h7,h8⟩:=h
 obtain ⟨g1,g2⟩:=hf
 exact ⟨by simp [h4,h5,g1,h7],by simp [h4,h6,g2,h8]⟩
theorem enter_full {E:Env} (hf:fullE E) (s:Bool) (c:Int):fullE (enterE E s c):=(growE.enter E s c).full hf
theorem loop_grow {st:Bool->Env->List UInt8->Mk} {inside:Bool} (h:∀ E ns,fullE E->growE E (st inside E ns).2.1):∀ (j:Nat) (E:Env) (ns:List UInt8),fullE E->growE E (loopM st inside j E ns).2.1
 | 0,E,ns,_=>growE.refl E
 | j+1,E,ns,hf=>by
   have ih:=loop_grow h j E ns hf
   exact ih.trans (h _ _ (ih.full hf))
theorem block_env {st:Bool->Env->List UInt8->Mk} {inside:Bool} (h:∀ E ns,fullE E->growE E (st inside E ns).2.1) (E:Env) (ns:List UInt8) (hf:fullE E):(blockM st inside E ns).2.1=E:=by
 have g:=loop_grow h (nxV ns 5+1) { E with deep:=E.deep+1 } ns.tail hf
 have e:=cutE_grow (E := { E with deep:=E.deep+1 }) hf g
 show { cutE _ E.loc.length with deep:=E.deep } = E
 have e':cutE (loopM st inside (nxV ns 5+1) { E with deep:=E.deep+1 } ns.tail).2.1 E.loc.length = { E with deep:=E.deep+1 } := e
 rw [e']
theorem held_grow {E E':Env} (h:growE { E with held:=true } E') (hh:E.held=false):growE E { E' with held:=false } := by
 obtain ⟨h1,h2,h3,h4⟩:=h
 exact ⟨hh.symm,h2,h3,h4⟩
theorem loop_env {E:Env} {s:Bool} {c:Int} (hf:fullE E):cutE (enterE E s c) ((enterE E s c).loc.length-1)=E:=by
 have:(enterE E s c).loc.length-1=E.loc.length:=by simp [enterE]
 rw [this]
 exact cutE_grow hf (growE.enter E s c)
theorem grow_ite {E:Env} {c:Prop} [Decidable c] {x y:Mk} (h1:c->growE E x.2.1) (h2:¬ c->growE E y.2.1):growE E (if c then x else y).2.1:=by
 by_cases h:c
 · rw [if_pos h];exact h1 h
 · rw [if_neg h];exact h2 h
theorem stmt_grow:∀ (f:Nat) (inside:Bool) (E:Env) (ns:List UInt8),fullE E->growE E (stmtM f inside E ns).2.1
 | 0,inside,E,ns,_=>growE.refl E
 | f+1,inside,E,ns,hf=>by
   have ih:=stmt_grow f
   have hl:=loop_grow (fun E ns hf=>ih false E ns hf) (nxV ns.tail 4+1) { E with held:=true } ns.tail.tail hf
   show growE E (stmtB (stmtM f) inside E ns).2.1
   exact grow_ite (fun _=>growE.enter _ _ _) fun _=>grow_ite (fun _=>growE.enter _ _ _) fun _=>grow_ite (fun _=>growE.refl _) fun _=>grow_ite (fun _=>growE.refl _) fun _=>grow_ite (fun _=>growE.refl _) fun _=>grow_ite (fun _=>growE.refl _) fun _=>grow_ite (fun _=>growE.refl _) fun _=>grow_ite (fun _=>growE.refl _) fun _=>grow_ite (fun _=>growE.refl _) fun _=>grow_ite (fun h=>held_grow hl h.2) fun _=>grow_ite (fun _=>growE.refl _) fun _=>grow_ite (fun _=>growE.refl _) fun _=>grow_ite (fun _=>growE.refl _) fun _=>growE.refl _
def heldN (E:Env):Nat:=if E.held=true then 1 else 0
theorem grow_heldN {E E':Env} (h:growE E E'):heldN E'=heldN E:=by unfold heldN;rw [h.1]
theorem loop_len {st:Bool->Env->List UInt8->Mk} {E:Env} {L:Nat} (hg:∀ E ns,fullE E->growE E (st false E ns).2.1) (h:∀ E' ns,growE E E'->(st false E' ns).1.length=L) (hf:fullE E):∀ (j:Nat) (ns:List UInt8),(loopM st false j E ns).1.length=j*L
 | 0,ns=>by simp [loopM]
 | j+1,ns=>by
   have g:=loop_grow hg j E ns hf
   show ((loopM st false j E ns).1++(st false (loopM st false j E ns).2.1 (loopM st false j E ns).2.2).1).length=_
   rw [List.length_append,loop_len hg h hf j ns,h _ _ g,Nat.succ_mul]
def lenOK (E:Env) (x:Mk):Prop:=1<=x.1.length/\x.1.length<=7/\(E.held=true->x.1.length=1)
theorem len_ite {E:Env} {c:Prop} [Decidable c] {x y:Mk} (h1:c->lenOK E x) (h2:¬ c->lenOK E y):lenOK E (if c then x else y):=by
 by_cases h:c
 · rw [if_pos h];exact h1 h
 · rw [if_neg h];exact h2 h
theorem len_one {E E':Env} {s:Stm} {ns:List UInt8} : lenOK E ([s],E',ns):=⟨by simp,by simp,fun _=>by simp⟩
theorem stmt_len:∀ (f:Nat) (inside:Bool) (E:Env) (ns:List UInt8),fullE E->1<=f->2<=f+heldN E->lenOK E (stmtM f inside E ns)
 | 0,inside,E,ns,_,h,_=>by omega
 | f+1,inside,E,ns,hf,_,h2=>by
   have hh:E.held=false->lenOK E (heldM (loopM (stmtM f) false (nxV ns.tail 4+1) { E with held:=true } ns.tail.tail) (pubM (loopM (stmtM f) false (nxV ns.tail 4+1) { E with held:=true } ns.tail.tail).2.1 6 1 (loopM (stmtM f) false (nxV ns.tail 4+1) { E with held:=true } ns.tail.tail).2.2)):=fun hh=>by
    have h1:1<=f:=by
     have:heldN E=0:=by simp [heldN,hh]
     omega
    have hone:∀ E' ns,growE { E with held:=true } E'->(stmtM f false E' ns).1.length=1:=fun E' ns g=>by
     have e1:heldN E'=1:=by rw [grow_heldN g];rfl
     exact (stmt_len f false E' ns (growE.full (E := { E with held:=true }) hf g) h1 (by omega)).2.2 g.1
    have hl:=loop_len (E := { E with held:=true }) (L:=1) (fun E ns hf=>stmt_grow f false E ns hf) hone hf (nxV ns.tail 4+1) ns.tail.tail
    have:=nxV_lt ns.tail 4 (by omega)
    refine ⟨?_,?_,fun e=>by rw [hh] at e;cases e⟩ <;> (simp only [heldM,List.length_append,List.length_cons,List.length_nil,hl];omega)
   show lenOK E (stmtB (stmtM f) inside E ns)
   exact len_ite (fun _=>len_one) fun _=>len_ite (fun _=>len_one) fun _=>len_ite (fun _=>len_one) fun _=>len_ite (fun _=>len_one) fun _=>len_ite (fun _=>len_one) fun _=>len_ite (fun _=>len_one) fun _=>len_ite (fun _=>len_one) fun _=>len_ite (fun _=>len_one) fun _=>len_ite (fun _=>len_one) fun _=>len_ite (fun h=>hh h.2) fun _=>len_ite (fun _=>len_one) fun _=>len_ite (fun _=>len_one) fun _=>len_ite (fun _=>len_one) fun _=>len_one
def roomE (E:Env):Prop:=E.loc.length+1<=90+E.deep
theorem room_ite {d:Nat} {c:Prop} [Decidable c] {x y:Mk} (h1:c->x.2.1.loc.length+1<=90+d) (h2:¬ c->y.2.1.loc.length+1<=90+d):(if c then x else y).2.1.loc.length+1<=90+d:=by
 by_cases h:c
 · rw [if_pos h];exact h1 h
 · rw [if_neg h];exact h2 h
theorem loop_room {st:Bool->Env->List UInt8->Mk} {inside:Bool} (hg:∀ E ns,fullE E->growE E (st inside E ns).2.1) (h:∀ E ns,fullE E->1<=E.deep->roomE E->roomE (st inside E ns).2.1):∀ (j:Nat) (E:Env) (ns:List UInt8),fullE E->1<=E.deep->roomE E->roomE (loopM st inside j E ns).2.1
 | 0,E,ns,_,_,hr=>hr
 | j+1,E,ns,hf,hd,hr=>by
   have g:=loop_grow hg j E ns hf
   exact h _ _ (g.full hf) (by rw [g.2.2.1];exact hd) (loop_room hg h j E ns hf hd hr)
theorem stmt_room:∀ (f:Nat) (inside:Bool) (E:Env) (ns:List UInt8),fullE E->1<=E.deep->roomE E->roomE (stmtM f inside E ns).2.1
 | 0,inside,E,ns,_,_,h=>h
 | f+1,inside,E,ns,hf,hd,h=>by
   have hdeep:=(stmt_grow (f+1) inside E ns hf).2.2.1
   have hl:=loop_room (fun E ns hf=>stmt_grow f false E ns hf) (fun E ns hf hd hr=>stmt_room f false E ns hf hd hr) (nxV ns.tail 4+1) { E with held:=true } ns.tail.tail hf hd h
   have hld:=(loop_grow (fun E ns hf=>stmt_grow f false E ns hf) (nxV ns.tail 4+1) { E with held:=true } ns.tail.tail hf).2.2.1
   unfold roomE at *
   rw [hdeep]
   show (stmtB (stmtM f) inside E ns).2.1.loc.length+1<=_
   exact room_ite (fun c=>by simp [oneM,enterE];omega) fun _=>room_ite (fun c=>by simp [oneM,enterE];omega) fun _=>room_ite (fun _=>h) fun _=>room_ite (fun _=>h) fun _=>room_ite (fun _=>h) fun _=>room_ite (fun _=>h) fun _=>room_ite (fun _=>h) fun _=>room_ite (fun _=>h) fun _=>room_ite (fun _=>h) fun _=>room_ite (fun _=>by rw [hld] at hl;exact hl) fun _=>room_ite (fun _=>h) fun _=>room_ite (fun _=>h) fun _=>room_ite (fun _=>h) fun _=>h
theorem nDig3 (v:Nat) (h:v<1000):Lib.nDigits v<=3:=by
 by_cases a:v<10
 · rw [Lib.nDigits_small a];omega
 · rw [Lib.nDigits_big a]
   by_cases b:v / 10<10
   · rw [Lib.nDigits_small b];omega
   · rw [Lib.nDigits_big b,Lib.nDigits_small (by omega)];omega
theorem len_lit (N v p:Nat) (hv:v<1000):(etext N (litT v) p).length<=3:=by
 cases N with
 | zero=>simp [etext]
 | succ N=>rw [etext_lit N _ p rfl];show (Lib.decDigits v).length<=3;rw [Lib.decDigits_length];exact nDig3 v hv
theorem len_lit0 (N p:Nat):(etext N (litT 0) p).length<=1:=by
 cases N with
 | zero=>simp [etext]
 | succ N=>rw [etext_lit N _ p rfl];show (Lib.decDigits 0).length<=1;rw [Lib.decDigits_length];rw [Lib.nDigits_small (by omega)];omega
theorem len_name (N p:Nat) (s:ByteArray):(etext N (nameT s) p).length<=s.size:=by
 cases N with
 | zero=>simp [etext]
 | succ N=>rw [etext_name N _ p rfl,bys_length];exact Nat.le_refl _
theorem len_cell (N p:Nat) (s:ByteArray) (x:Tree) (X:Nat) (hx:∀ N p,(etext N x p).length<=X):(etext N (cellT s x) p).length<=s.size+2+X:=by
 cases N with
 | zero=>simp [etext]
 | succ N=>
   rw [etext_cell N _ p rfl,cellText,show (cellT s x).kids=[x] from rfl,epart_some (k:=x) rfl]
   have:=hx N 0
   simp only [List.length_append,List.length_cons,List.length_nil,bys_length,show (cellT s x).name=s from rfl];omega
theorem len_bin (N p:Nat) (o:Int) (x y:Tree) (X Y:Nat) (hx:∀ N p,(etext N x p).length<=X) (hy:∀ N p,(etext N y p).length<=Y):(etext N (binT o x y) p).length<=6+X+Y:=by
 cases N with
 | zero=>simp [etext]
 | succ N=>
   rw [etext_bin N _ p rfl]
   have h1:=hx N (tightN (binT o x y).op)
   have h2:=hy N (tightN (binT o x y).op+1)
   have hs:=signL_len (binT o x y).op.toNat
   unfold binTextAt
   split
   · simp;omega
   · have e0:epart N (binT o x y).kids 0 (tightN (binT o x y).op)=etext N x (tightN (binT o x y).op):=epart_some rfl _
     have e1:epart N (binT o x y).kids 1 (tightN (binT o x y).op+1)=etext N y (tightN (binT o x y).op+1):=epart_some rfl _
     split <;> (simp only [binText,e0,e1,List.length_append,List.length_cons,List.length_nil];omega)
theorem len_not (N p:Nat) (x:Tree) (X:Nat) (hx:∀ N p,(etext N x p).length<=X):(etext N (notT x) p).length<=1+X:=by
 cases N with
 | zero=>simp [etext]
 | succ N=>
   rw [etext_not N _ p rfl,show (notT x).kids=[x] from rfl,epart_some (k:=x) rfl]
   have:=hx N 9
   simp only [List.length_append,List.length_cons,List.length_nil];omega
theorem len_pick (N p:Nat) (x y z:Tree) (X Y Z:Nat) (hx:∀ N p,(etext N x p).length<=X) (hy:∀ N p,(etext N y p).length<=Y) (hz:∀ N p,(etext N z p).length<=Z):(etext N (pickT x y z) p).length<=10+X+Y+Z:=by
 cases N with
 | zero=>simp [etext]
 | succ N=>
   rw [etext_pick N _ p rfl,pickText,show (pickT x y z).kids=[x,y,z] from rfl,epart_some (k:=x) rfl,epart_some (k:=y) rfl,epart_some (k:=z) rfl]
   have h1:=hx N 0
   have h2:=hy N 0
   have h3:=hz N 0
   simp only [List.length_append,List.length_cons,List.length_nil];omega
def FitE (A:Nat) (ns:List UInt8) (r:Tree × List UInt8):Prop:=r.2.length<=ns.length/\∀ N p,(etext N r.1 p).length<=A+20*(ns.length-r.2.length)
theorem fit_bin {f:Nat->List UInt8->Tree × List UInt8} (h:∀ d ns,FitE 1 ns (f d ns)) (deep:Nat) (ns:List UInt8):(binM f deep ns).2.length<=ns.length/\∀ N p,(etext N (binM f deep ns).1 p).length<=8+20*(ns.length-(binM f deep ns).2.length):=by
 have h1:=h (deep+1) ns.tail
 have h2:=h (deep+1) (f (deep+1) ns.tail).2
 have hl:ns.tail.length<=ns.length:=by simp
 unfold binM
 refine ⟨by have:=h1.1;have:=h2.1;simp only;omega,fun N p=>?_⟩
 have:=len_bin N p (nxV ns 10) _ _ _ _ h1.2 h2.2
 have a1:=h1.1
 have a2:=h2.1
 simp only
 omega
theorem fit_place {E:Env} (hE:goodE E) {f:Nat->List UInt8->Tree × List UInt8} (h:∀ d ns,FitE 1 ns (f d ns)) (deep:Nat) (ns:List UInt8):FitE 16 ns (placeM f E deep ns):=by
 have hl:ns.tail.length<=ns.length:=by simp
 have hl2:ns.tail.tail.length<=ns.tail.length:=by simp
 have h4:=nxV_lt ns.tail 4 (by omega)
 unfold placeM
 split
 · split
   · next s hs=>
     refine ⟨hl,fun N p=>?_⟩
     have:=len_name N p s
     have:=(counter_good hE _ s (Nat.le_refl _) hs).2
     simp only;omega
   · refine ⟨by simp only;omega,fun N p=>?_⟩
     have:=len_lit N (nxV ns.tail 4) p (by omega)
     simp only;omega
 · split
   · have h1:=h (deep+1) ns.tail
     have a1:=h1.1
     refine ⟨by simp only;omega,fun N p=>?_⟩
     have:=len_bin N p 3 _ (litT 3) _ _ h1.2 (fun N p=>len_lit N 3 p (by omega))
     simp only;omega
   · refine ⟨by simp only;omega,fun N p=>?_⟩
     have:=len_lit N (nxV ns.tail 4) p (by omega)
     simp only;omega
theorem fit_lit (ns:List UInt8):FitE 1 ns (litT (nxV ns.tail 256),ns.tail.tail):=by
 cases ns with
 | nil=>exact ⟨by simp,fun N p=>by have:=len_lit0 N p;simpa [nxV] using this⟩
 | cons x r=>
   have hv:=nxV_lt r 256 (by omega)
   refine ⟨by simp;omega,fun N p=>?_⟩
   have:=len_lit N (nxV r 256) p (by omega)
   simp only [List.tail_cons,List.length_cons,List.length_tail]
   omega
theorem fit_name (x:UInt8) (r r':List UInt8) (s:ByteArray) (hs:s.size<=16) (hr:r'.length<=r.length):FitE 1 (x :: r) (nameT s,r'):=by
 refine ⟨by simp;omega,fun N p=>?_⟩
 have:=len_name N p s
 simp only [List.length_cons];omega
theorem fit_cell {E:Env} (hE:goodE E) {f:Nat->List UInt8->Tree × List UInt8} (h:∀ d ns,FitE 1 ns (f d ns)) (deep:Nat) (x:UInt8) (r:List UInt8) (c:UInt8):FitE 1 (x :: r) (cellT (dig c E) (placeM f E deep r).1,(placeM f E deep r).2):=by
 have h1:=fit_place hE h deep r
 have a1:=h1.1
 refine ⟨by simp only [List.length_cons];omega,fun N p=>?_⟩
 have:=len_cell N p (dig c E) _ _ h1.2
 rw [dig_size] at this
 simp only [List.length_cons];omega
theorem fit_more {A:Nat} {x:UInt8} {r:List UInt8} {t:Tree × List UInt8} (a:t.2.length<=r.length) (h:∀ N p,(etext N t.1 p).length<=8+20*(r.length-t.2.length)):FitE 1 (x :: r) t:=by
 refine ⟨by simp only [List.length_cons];omega,fun N p=>?_⟩
 have:=h N p
 simp only [List.length_cons];omega
theorem fit_ite {A:Nat} {ns:List UInt8} {c:Prop} {i:Decidable c} {x y:Tree × List UInt8} (h1:c->FitE A ns x) (h2:¬ c->FitE A ns y):FitE A ns (@ite _ c i x y):=by
 by_cases h:c
 · rw [if_pos h];exact h1 h
 · rw [if_neg h];exact h2 h
theorem pub_fit {E:Env} (hE:goodE E):∀ (f deep:Nat) (ns:List UInt8),FitE 1 ns (pubM E f deep ns)
 | 0,deep,ns=>fit_lit ns
 | f+1,deep,[]=>by
   have:pubM E (f+1) deep []=(litT (nxV ([]:List UInt8).tail 256),([]:List UInt8).tail.tail):=by simp [pubM,nxV]
   rw [this];exact fit_lit []
 | f+1,deep,x :: r=>by
   have ih:=pub_fit hE f
   simp only [pubM,List.tail_cons]
   split
   · exact fit_lit (x :: r)
   · split
     · exact fit_name x r r _ (by rw [dig_size];omega) (Nat.le_refl _)
     · split
       · exact fit_name x r r _ (by decide) (Nat.le_refl _)
       · split
         · exact fit_cell hE ih deep x r 113
         · split
           · next hl=>
             have:=nxV_lt r E.loc.length hl.2
             refine fit_ite (fun _=>?_) (fun _=>?_)
             · exact fit_name x r r.tail _ (loc_good hE _ this).2 (by simp)
             · have:=fit_bin ih deep r.tail
               have hl:r.tail.length<=r.length:=by simp
               exact fit_more (A:=1) (by omega) (fun N p=>by have:=this.2 N p;omega)
           · split
             · have h1:=ih (deep+1) r
               refine fit_more (A:=1) h1.1 (fun N p=>?_)
               have:=len_not N p _ _ h1.2
               simp only;omega
             · have:=fit_bin ih deep r
               exact fit_more (A:=1) this.1 this.2
theorem fit_tail {x:UInt8} {r:List UInt8} {t:Tree × List UInt8} (h:FitE 1 r t):FitE 1 (x :: r) t:=fit_more (A:=1) h.1 (fun N p=>by have:=h.2 N p;omega)
theorem sec_fit {E:Env} (hE:goodE E):∀ (f deep:Nat) (ns:List UInt8),FitE 1 ns (secM E f deep ns)
 | 0,deep,[]=>pub_fit hE 0 _ []
 | 0,deep,x :: r=>fit_tail (pub_fit hE 0 _ r)
 | f+1,deep,[]=>by
   have:secM E (f+1) deep []=pubM E f (deep+1) []:=by simp [secM,nxV]
   rw [this];exact pub_fit hE _ _ _
 | f+1,deep,x :: r=>by
   have ih:=sec_fit hE f
   have ihp:=pub_fit hE f
   simp only [secM,List.tail_cons]
   split
   · exact fit_tail (ihp _ _)
   · split
     · exact fit_name x r r _ (by rw [dig_size];omega) (Nat.le_refl _)
     · split
       · exact fit_cell hE ihp deep x r 116
       · split
         · exact fit_name x r r _ (by decide) (Nat.le_refl _)
         · split
           · next hl=>
             have:=nxV_lt r E.loc.length hl.2
             exact fit_name x r r.tail _ (loc_good hE _ this).2 (by simp)
           · split
             · have h1:=ih (deep+1) r
               have h2:=ih (deep+1) (secM E f (deep+1) r).2
               have h3:=ih (deep+1) (secM E f (deep+1) (secM E f (deep+1) r).2).2
               have a1:=h1.1
               have a2:=h2.1
               have a3:=h3.1
               refine ⟨by simp only [List.length_cons];omega,fun N p=>?_⟩
               have:=len_pick N p _ _ _ _ _ _ h1.2 h2.2 h3.2
               simp only [List.length_cons];omega
             · have:=fit_bin ih deep r
               exact fit_more (A:=1) this.1 this.2
def sumT (N d:Nat) (ss:List Stm):Nat:=(btext 13 N d ss).length
theorem sumT_append (N d:Nat) (a b:List Stm):sumT N d (a++b)=sumT N d a+sumT N d b:=by simp [sumT,btext]
theorem sumT_one (N d:Nat) (s:Stm):sumT N d [s]=(stext 13 N d s).length:=by simp [sumT,btext]
theorem sumT_nil (N d:Nat):sumT N d []=0:=rfl
def FitS (d:Nat) (ns:List UInt8) (r:Mk):Prop:=r.2.2.length<=ns.length/\∀ N,sumT N d r.1<=24+110*(ns.length-r.2.2.length)
theorem epart0_len {e:Tree} {X:Nat} (h:∀ N p,(etext N e p).length<=X) (m:Nat) (es:List Tree):(epart m (e :: es) 0 0).length<=X:=by rw [epart_some (k:=e) rfl];exact h m 0
theorem epart1_len {i e:Tree} {X:Nat} (h:∀ N p,(etext N e p).length<=X) (m:Nat):(epart m [i,e] 1 0).length<=X:=by rw [epart_some (k:=e) rfl];exact h m 0
theorem len_value (N d:Nat) (k:Int) (s:ByteArray) (e:Tree) (X:Nat) (hk:k=0\/k=1\/k=7\/k=9) (he:∀ N p,(etext N e p).length<=X):(stext 13 N d (stmE k s [e])).length<=d+11+s.size+X:=by
 cases N with
 | zero=>simp [stext]
 | succ N=>
   have h0:=epart0_len he 13 []
   rcases hk with rfl | rfl | rfl | rfl
   · rw [stext_0 13 N d _ rfl];simp only [valueT,stmE,List.length_append,tabs_len,bys_length,List.length_cons,List.length_nil,sLocal,sIs];omega
   · rw [stext_1 13 N d _ rfl];simp only [valueT,stmE,List.length_append,tabs_len,bys_length,List.length_cons,List.length_nil,sIs];omega
   · rw [stext_7 13 N d _ rfl];simp only [valueT,stmE,List.length_append,tabs_len,bys_length,List.length_cons,List.length_nil,sAdd];omega
   · rw [stext_9 13 N d _ (by simp [stmE]) (by simp [stmE]) (by simp [stmE]) (by simp [stmE]) (by simp [stmE]) (by simp [stmE]) (by simp [stmE]) (by simp [stmE]) (by simp [stmE])];simp only [valueT,stmE,List.length_append,tabs_len,bys_length,List.length_cons,List.length_nil,sOutput];omega
theorem len_store (N d:Nat) (s:ByteArray) (i e:Tree) (X Y:Nat) (hi:∀ N p,(etext N i p).length<=X) (he:∀ N p,(etext N e p).length<=Y):(stext 13 N d (stmE 2 s [i,e])).length<=d+7+s.size+X+Y:=by
 cases N with
 | zero=>simp [stext]
 | succ N=>
   have h0:=epart0_len hi 13 [e]
   have h1:=epart1_len (i:=i) he 13
   rw [stext_2 13 N d _ rfl];simp only [cellText,stmE,List.length_append,tabs_len,bys_length,List.length_cons,List.length_nil,sIs];omega
theorem len_line (N d:Nat) (k:Int) (s:ByteArray) (hk:k=5\/k=6\/k=8):(stext 13 N d (stmE k s [])).length<=d+7+s.size:=by
 cases N with
 | zero=>simp [stext]
 | succ N=>
   rcases hk with rfl | rfl | rfl
   · rw [stext_5 13 N d _ rfl];simp only [lineT,stmE,List.length_append,tabs_len,bys_length,List.length_cons,List.length_nil,sTake];omega
   · rw [stext_6 13 N d _ rfl];simp only [lineT,stmE,List.length_append,tabs_len,bys_length,List.length_cons,List.length_nil,sGive];omega
   · rw [stext_8 13 N d _ rfl];simp only [lineT,stmE,List.length_append,tabs_len,bys_length,List.length_cons,List.length_nil,sFence];omega
theorem len_if (N d:Nat) (e:Tree) (b1 b2:List Stm) (X Y Z:Nat) (he:∀ N p,(etext N e p).length<=X) (h1:∀ N,sumT N (d+1) b1<=Y) (h2:∀ N,sumT N (d+1) b2<=Z):(stext 13 N d ⟨3,⟨#[]⟩,[e],0,b1,b2,0⟩).length<=3*d+19+X+Y+Z:=by
 cases N with
 | zero=>simp [stext]
 | succ N=>
   have h0:=epart0_len he 13 []
   have a1:=h1 N
   have a2:=h2 N
   unfold sumT at a1 a2
   rw [stext_3 13 N d _ rfl]
   unfold choiceT
   split <;> (simp only [lineT,List.length_append,tabs_len,List.length_cons,List.length_nil,sIf,sThen,sElse];omega)
theorem len_for (N d:Nat) (s:ByteArray) (c:Nat) (b:List Stm) (Y:Nat) (hc:c<10) (h1:∀ N,sumT N (d+1) b<=Y):(stext 13 N d ⟨4,s,[],c,b,[],0⟩).length<=2*d+12+s.size+Y:=by
 cases N with
 | zero=>simp [stext]
 | succ N=>
   have a1:=h1 N
   unfold sumT at a1
   rw [stext_4 13 N d _ rfl]
   have hi:(Lib.itoa ((c:Nat):Int)).length<=1:=by
    rw [Lib.itoa,if_neg (by omega)]
    simp only [Int.toNat_natCast]
    rw [Lib.decDigits_length,Lib.nDigits_small hc]
    omega
   simp only [lineT,List.length_append,tabs_len,bys_length,List.length_cons,List.length_nil,sLoop];omega
theorem good_enter {E:Env} (h:goodE E) (s:Bool) (c:Int):goodE (enterE E s c):=fun x hx=>by
 have hx':x ∈ E.loc++[nameX E]:=hx
 rcases List.mem_append.1 hx' with h1 | h1
 · exact h x h1
 · simp only [List.mem_singleton] at h1
   subst h1
   exact ⟨by simp [nameX,ByteArray.size],by simp [nameX,ByteArray.size]⟩
theorem good_ite {c:Prop} [Decidable c] {x y:Mk} (h1:c->goodE x.2.1) (h2:¬ c->goodE y.2.1):goodE (if c then x else y).2.1:=by
 by_cases h:c
 · rw [if_pos h];exact h1 h
 · rw [if_neg h];exact h2 h
theorem loop_good {st:Bool->Env->List UInt8->Mk} {inside:Bool} (h:∀ E ns,goodE E->goodE (st inside E ns).2.1):∀ (j:Nat) (E:Env) (ns:List UInt8),goodE E->goodE (loopM st inside j E ns).2.1
 | 0,E,ns,hE=>hE
 | j+1,E,ns,hE=>h _ _ (loop_good h j E ns hE)
theorem stmt_good:∀ (f:Nat) (inside:Bool) (E:Env) (ns:List UInt8),goodE E->goodE (stmtM f inside E ns).2.1
 | 0,inside,E,ns,h=>h
 | f+1,inside,E,ns,h=>by
   have hl:=loop_good (fun E ns hE=>stmt_good f false E ns hE) (nxV ns.tail 4+1) { E with held:=true } ns.tail.tail h
   show goodE (stmtB (stmtM f) inside E ns).2.1
   exact good_ite (fun _=>good_enter h _ _) fun _=>good_ite (fun _=>good_enter h _ _) fun _=>good_ite (fun _=>h) fun _=>good_ite (fun _=>h) fun _=>good_ite (fun _=>h) fun _=>good_ite (fun _=>h) fun _=>good_ite (fun _=>h) fun _=>good_ite (fun _=>h) fun _=>good_ite (fun _=>h) fun _=>good_ite (fun _=>hl) fun _=>good_ite (fun _=>h) fun _=>good_ite (fun _=>h) fun _=>good_ite (fun _=>h) fun _=>h
theorem fitS_ite {d:Nat} {ns:List UInt8} {c:Prop} [Decidable c] {x y:Mk} (h1:c->FitS d ns x) (h2:¬ c->FitS d ns y):FitS d ns (if c then x else y):=by
 by_cases h:c
 · rw [if_pos h];exact h1 h
 · rw [if_neg h];exact h2 h
theorem fitS_one {d:Nat} (hd:d<=4) {x:UInt8} {r:List UInt8} {k:Int} {s:ByteArray} {E:Env} {e:Tree × List UInt8} (hk:k=0\/k=1\/k=7\/k=9) (hs:s.size<=16) (h:FitE 1 r e):FitS d (x :: r) (oneM k s E e):=by
 have a:=h.1
 refine ⟨by simp only [oneM,List.length_cons];omega,fun N=>?_⟩
 have:=len_value N d k s e.1 _ hk h.2
 simp only [oneM,sumT_one,List.length_cons];omega
theorem fitS_store {d:Nat} (hd:d<=4) {x:UInt8} {r:List UInt8} {s:ByteArray} {E:Env} {i:Tree × List UInt8} {e:Tree × List UInt8} (hs:s.size<=16) (hi:FitE 16 r i) (h:FitE 1 i.2 e):FitS d (x :: r) (storeM s E i.1 e):=by
 have a:=h.1
 have b:=hi.1
 refine ⟨by simp only [storeM,List.length_cons];omega,fun N=>?_⟩
 have:=len_store N d s i.1 e.1 _ _ hi.2 h.2
 simp only [storeM,sumT_one,List.length_cons];omega
theorem loop_fit {st:Bool->Env->List UInt8->Mk} {inside:Bool} {d:Nat} (hg:∀ E ns,fullE E->growE E (st inside E ns).2.1) (hgd:∀ E ns,goodE E->goodE (st inside E ns).2.1) (h:∀ E ns,fullE E->goodE E->E.deep=d->FitS d ns (st inside E ns)):∀ (j:Nat) (E:Env) (ns:List UInt8),fullE E->goodE E->E.deep=d->(loopM st inside j E ns).2.2.length<=ns.length/\∀ N,sumT N d (loopM st inside j E ns).1<=24*j+110*(ns.length-(loopM st inside j E ns).2.2.length)
 | 0,E,ns,_,_,_=>⟨Nat.le_refl _,fun N=>by simp [loopM,sumT_nil]⟩
 | j+1,E,ns,hf,hE,hd=>by
   have ih:=loop_fit hg hgd h j E ns hf hE hd
   have g:=loop_grow hg j E ns hf
   have k:=h (loopM st inside j E ns).2.1 (loopM st inside j E ns).2.2 (g.full hf) (loop_good hgd j E ns hE) (by rw [g.2.2.1,hd])
   have a:=ih.1
   have b:=k.1
   refine ⟨by show (st inside (loopM st inside j E ns).2.1 (loopM st inside j E ns).2.2).2.2.length<=_;omega,fun N=>?_⟩
   show sumT N d ((loopM st inside j E ns).1++(st inside (loopM st inside j E ns).2.1 (loopM st inside j E ns).2.2).1)<=24*(j+1)+110*(ns.length-(st inside (loopM st inside j E ns).2.1 (loopM st inside j E ns).2.2).2.2.length)
   rw [sumT_append]
   have h1:=ih.2 N
   have h2:=k.2 N
   omega
theorem block_fit {st:Bool->Env->List UInt8->Mk} {inside:Bool} {d:Nat} (hg:∀ E ns,fullE E->growE E (st inside E ns).2.1) (hgd:∀ E ns,goodE E->goodE (st inside E ns).2.1) (h:∀ E ns,fullE E->goodE E->E.deep=d+1->FitS (d+1) ns (st inside E ns)) (E:Env) (ns:List UInt8) (hf:fullE E) (hE:goodE E) (hd:E.deep=d):FitS (d+1) ns (blockM st inside E ns):=by
 have L:=loop_fit hg hgd h (nxV ns 5+1) { E with deep:=E.deep+1 } ns.tail hf hE (by simp [hd])
 show (loopM st inside (nxV ns 5+1) { E with deep:=E.deep+1 } ns.tail).2.2.length<=ns.length/\∀ N,sumT N (d+1) (loopM st inside (nxV ns 5+1) { E with deep:=E.deep+1 } ns.tail).1<=24+110*(ns.length-(loopM st inside (nxV ns 5+1) { E with deep:=E.deep+1 } ns.tail).2.2.length)
 have h5:=nxV_lt ns 5 (by omega)
 have a:=L.1
 cases ns with
 | nil=>exact ⟨by simpa using a,fun N=>by have:=L.2 N;simp only [nxV] at this ⊢;simp only [List.tail_nil,List.length_nil] at this ⊢;omega⟩
 | cons x r=>
   simp only [List.tail_cons,List.length_cons] at a ⊢
   exact ⟨by omega,fun N=>by have:=L.2 N;simp only [List.tail_cons] at this;omega⟩
theorem stmt_fit:∀ (f:Nat) (inside:Bool) (E:Env) (ns:List UInt8),fullE E->goodE E->E.deep<=4->FitS E.deep ns (stmtM f inside E ns)
 | 0,inside,E,ns,_,_,_=>⟨Nat.le_refl _,fun N=>by show sumT N E.deep []<=_;rw [sumT_nil];omega⟩
 | f+1,inside,E,[],hf,hE,hd=>by
   show FitS E.deep [] (stmtB (stmtM f) inside E [])
   have e1:∀ k s E',(k=0\/k=1)->s.size<=4->∀ e:Tree × List UInt8,FitE 1 [] e->FitS E.deep [] (oneM k s E' e):=fun k s E' hk hs e he=>by
    have a:=he.1
    refine ⟨a,fun N=>?_⟩
    have:=len_value N E.deep k s e.1 _ (by omega) he.2
    simp only [oneM,sumT_one,List.length_nil] at a this ⊢;omega
   have n0:∀ k,nxV ([]:List UInt8) k=0:=fun k=>rfl
   unfold stmtB
   simp only [n0]
   refine fitS_ite (fun _=>e1 0 _ _ (.inl rfl) (by simp [nameX,ByteArray.size]) _ (sec_fit hE 6 0 [])) fun _=>?_
   rw [if_neg (by omega),if_neg (by omega),if_neg (by omega),if_neg (by omega),if_neg (by omega)]
   refine fitS_ite (fun _=>e1 1 _ _ (.inr rfl) (by rw [dig_size];omega) _ (sec_fit hE 6 0 [])) fun _=>?_
   rw [if_neg (by omega),if_neg (by omega),if_neg (by omega),if_neg (by omega),if_neg (by omega),if_neg (by omega)]
   exact e1 1 _ _ (.inr rfl) (by rw [dig_size];omega) _ (pub_fit hE 6 0 [])
 | f+1,inside,E,x :: r,hf,hE,hd=>by
   show FitS E.deep (x :: r) (stmtB (stmtM f) inside E (x :: r))
   have hsec:=sec_fit hE 6 0 r
   have hpub:=pub_fit hE 6 0 r
   have hpl:=fit_place hE (pub_fit hE 5) 0 r
   have hnx:(nameX E).size<=16:=by simp [nameX,ByteArray.size]
   have hdg:∀ c,(dig c E).size<=16:=fun c=>by rw [dig_size];omega
   have hg:=fun ins=>fun E ns (hf:fullE E)=>stmt_grow f ins E ns hf
   have hgd:=fun ins=>fun E ns (hE:goodE E)=>stmt_good f ins E ns hE
   have hblk:∀ ins (E':Env) (ns:List UInt8),fullE E'->goodE E'->E'.deep=E.deep->E.deep<4->FitS (E.deep+1) ns (blockM (stmtM f) ins E' ns):=fun ins E' ns hf' hE' hd' hlt=>block_fit (hg ins) (hgd ins) (fun E'' ns'' a b c=>by have:=stmt_fit f ins E'' ns'' a b (by omega);rwa [c] at this) E' ns hf' hE' hd'
   have hif:∀ ins (e:Tree × List UInt8),E.deep<4->FitE 1 r e->FitS E.deep (x :: r) (ifM (stmtM f) ins E e):=fun ins e hlt he=>by
    have b1:=hblk ins E e.2 hf hE rfl hlt
    have b2:=hblk ins E (blockM (stmtM f) ins E e.2).2.2 hf hE rfl hlt
    have a:=he.1
    have c1:=b1.1
    have c2:=b2.1
    refine ⟨by simp only [ifM,List.length_cons];omega,fun N=>?_⟩
    have:=len_if N E.deep e.1 _ _ _ _ _ he.2 b1.2 b2.2
    simp only [ifM,sumT_one,List.length_cons];omega
   unfold stmtB
   simp only [List.tail_cons]
   refine fitS_ite (fun _=>fitS_one hd (.inl rfl) hnx hsec) fun _=>fitS_ite (fun _=>fitS_one hd (.inl rfl) hnx hpub) fun _=>fitS_ite (fun _=>fitS_one hd (.inr (.inl rfl)) (hdg _) hsec) fun _=>fitS_ite (fun _=>fitS_store hd (hdg _) hpl (sec_fit hE 6 0 _)) fun _=>fitS_ite (fun c=>hif true _ c.2 hsec) fun _=>fitS_ite (fun c=>?_) fun _=>fitS_ite (fun _=>fitS_one hd (.inr (.inl rfl)) (hdg _) hsec) fun _=>fitS_ite (fun c=>hif false _ c.2 hpub) fun _=>fitS_ite (fun _=>fitS_store hd (hdg _) hpl (pub_fit hE 6 0 _)) fun _=>fitS_ite (fun c=>?_) fun _=>fitS_ite (fun _=>fitS_one hd (.inr (.inr (.inl rfl))) (by simp [countS,ByteArray.size]) hpub) fun _=>fitS_ite (fun _=>fitS_one hd (.inr (.inr (.inr rfl))) (by simp [ByteArray.size]) hpub) fun _=>fitS_ite (fun _=>?_) fun _=>fitS_one hd (.inr (.inl rfl)) (hdg _) hpub
   · have h5:=nxV_lt r 5 (by omega)
     have b1:=hblk inside (enterE E false ((1+nxV r 5:Nat):Int)) r.tail (enter_full hf _ _) (good_enter hE _ _) rfl c.2
     have c1:=b1.1
     have hrt:r.tail.length<=r.length:=by simp
     refine ⟨by simp only [forM,List.length_cons];omega,fun N=>?_⟩
     have:=len_for N E.deep (nameX E) (1+nxV r 5) _ _ (by omega) b1.2
     have hn4:(nameX E).size=4:=by simp [nameX,ByteArray.size]
     simp only [forM,sumT_one,List.length_cons];omega
   · have h4:=nxV_lt r 4 (by omega)
     have L:=loop_fit (d:=E.deep) (hg false) (hgd false) (fun E'' ns'' a b c=>by have:=stmt_fit f false E'' ns'' a b (by omega);rwa [c] at this) (nxV r 4+1) { E with held:=true } r.tail hf hE rfl
     generalize hLp:loopM (stmtM f) false (nxV r 4+1) { E with held:=true } r.tail=LR at L ⊢
     have hgL:goodE LR.2.1:=by rw [<- hLp];exact loop_good (hgd false) _ _ _ hE
     have he:=pub_fit hgL 6 1 LR.2.2
     have a:=L.1
     have b:=he.1
     have hrt:r.tail.length<=r.length:=by simp
     refine ⟨by simp only [heldM,List.length_cons];omega,fun N=>?_⟩
     have t1:=len_line N E.deep 5 doorS (.inl rfl)
     have t2:=len_line N E.deep 6 doorS (.inr (.inl rfl))
     have t3:=len_value N E.deep 1 sharedS _ _ (.inr (.inl rfl)) he.2
     have t4:=L.2 N
     have d1:doorS.size=4:=by simp [doorS,ByteArray.size]
     have d2:sharedS.size=6:=by simp [sharedS,ByteArray.size]
     have hr5:r.tail.length+1=r.length\/(r.length=0/\nxV r 4=0):=by
      cases r with
      | nil=>exact .inr ⟨rfl,rfl⟩
      | cons y q=>exact .inl (by simp)
     have e2:sumT N E.deep [stmE 1 sharedS [(pubM LR.2.1 6 1 LR.2.2).1],stmE 6 doorS []]=(stext 13 N E.deep (stmE 1 sharedS [(pubM LR.2.1 6 1 LR.2.2).1])).length+(stext 13 N E.deep (stmE 6 doorS [])).length:=by simp [sumT,btext]
     simp only [heldM,sumT_append,sumT_one,e2,List.length_cons]
     omega
   · refine ⟨by simp,fun N=>?_⟩
     have:=len_line N E.deep 8 ⟨#[]⟩ (.inr (.inr rfl))
     simp only [sumT_one,List.length_cons]
     have e0:(⟨#[]⟩:ByteArray).size=0:=rfl
     omega
end Go.Proofs.YtlepckjmdjjolaaGreatDoor
