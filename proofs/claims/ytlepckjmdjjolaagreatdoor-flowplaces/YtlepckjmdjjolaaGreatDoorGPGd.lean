/- Own texts laid together: PPlain, PGood. Conditions: as each theorem says. -/
import Derived.Test.YtlepckjmdjjolaaGreatDoorGTreeB
import Derived.Test.YtlepckjmdjjolaaGreatDoorLxPlain
set_option linter.unusedVariables false
set_option linter.unusedSimpArgs false
namespace Go.Proofs.YtlepckjmdjjolaaGreatDoor.Pr
open Lx (Tok)
structure Rd where
 ts:List Tok
 err:Option (Nat × Nat)
def endT (k:Nat):Tok:=⟨0,[],0,k⟩
def Rd.here (r:Rd):Tok:=r.ts.headD (endT 0)
def Rd.next (r:Rd):Rd:=⟨if 1<r.ts.length then r.ts.drop 1 else r.ts,r.err⟩
def Rd.fail (n:Nat) (r:Rd):Rd:=⟨r.ts.drop (r.ts.length-1),match r.err with | none=>some (n,r.here.at_) | some e=>some e⟩
def Rd.is (s:List UInt8) (r:Rd):Bool:=r.here.text == s
def Rd.want (s:List UInt8) (r:Rd):Rd:=if r.is s then r.next else r.fail 2
def Rd.name (r:Rd):List UInt8 × Rd:=if r.here.kind=1 then (r.here.text,r.next) else ([],r.fail 2)
def Rd.number (most:Nat) (r:Rd):Nat × Rd:=
 if r.here.kind=3 then (if r.here.value<1\/most<r.here.value then (0,r.fail 6) else (r.here.value,r.next)) else (0,r.fail 2)
def kPick:List UInt8:=[112,105,99,107]
def kThread:List UInt8:=[116,104,114,101,97,100]
def kLock:List UInt8:=[108,111,99,107]
def kPublic:List UInt8:=[112,117,98,108,105,99]
def kSecret:List UInt8:=[115,101,99,114,101,116]
def kBy:List UInt8:=[98,121]
def kElse:List UInt8:=[101,108,115,101]
def kLocal:List UInt8:=[108,111,99,97,108]
def kIf:List UInt8:=[105,102]
def kLoop:List UInt8:=[108,111,111,112]
def kTake:List UInt8:=[116,97,107,101]
def kGive:List UInt8:=[103,105,118,101]
def kAdd:List UInt8:=[97,100,100]
def kFence:List UInt8:=[102,101,110,99,101]
def kOutput:List UInt8:=[111,117,116,112,117,116]
def signs10:List (List UInt8):=[[43],[45],[42],[38],[124],[94],[60,60],[62,62],[61,61],[60]]
def indexL (s:List UInt8):List (List UInt8)->Int
 | [] => -1
 | x :: r=>if x == s then 0 else if indexL s r = -1 then -1 else indexL s r+1
def opOf (s:List UInt8):Int:=indexL s signs10
def tree0:Tree:=⟨0,0,⟨#[]⟩,0,[],0⟩
def beginsB (t:Tok):Bool:=t.kind == 1 || t.kind == 3 || t.text == [126] || t.text == [40] || t.text == kPick
abbrev ExP:=Nat->Nat->Rd->Tree × Rd
def threeOf (ex:ExP) (deep:Nat) (r:Rd):List Tree × Rd:=
 let a:=ex 0 deep (r.want [40])
 let b:=ex 0 deep (a.2.want [44])
 let c:=ex 0 deep (b.2.want [44])
 ([a.1,b.1,c.1],c.2.want [41])
def namedOf (ex:ExP) (t:Tok) (deep:Nat) (r:Rd):Tree × Rd:=
 if r.is [91] then
    let q:=ex 0 (deep+1) r.next
    (⟨2,0,bstr t.text,0,[q.1],t.at_⟩,q.2.want [93])
 else (⟨1,0,bstr t.text,0,[],t.at_⟩,r)
def unaryOf (ex:ExP) (un:Nat->Rd->Tree × Rd) (deep:Nat) (r:Rd):Tree × Rd:=
 if beginsB r.here=false then (tree0,r.fail 2)
 else if 40<deep then (tree0,r.fail 6)
 else if r.here.text=[126] then
    let q:=un (deep+1) r.next
    (⟨4,0,⟨#[]⟩,0,[q.1],r.here.at_⟩,q.2)
 else if r.here.text=kPick then
    let q:=threeOf ex (deep+1) r.next
    (⟨5,0,⟨#[]⟩,0,q.1,r.here.at_⟩,q.2)
 else if r.here.text=[40] then
    let q:=ex 0 (deep+1) r.next
    (q.1,q.2.want [41])
 else if r.here.kind=3 then (⟨0,0,⟨#[]⟩,r.here.value,[],r.here.at_⟩,r.next)
 else namedOf ex r.here deep r.next
def opT (op:Int) (a b:Tree):Tree:=⟨3,op,⟨#[]⟩,0,[a,b],a.at_⟩
def loopOf (ex:ExP) (tight deep:Nat):Nat->Tree->Rd->Tree × Rd
 | 0,left,r=>(left,r)
 | k+1,left,r=>
   if tightN (opOf r.here.text)<=tight then (left,r)
   else
    let q:=ex (tightN (opOf r.here.text)) (deep+1) r.next
    loopOf ex tight deep k (opT (opOf r.here.text) left q.1) q.2
def exprOf (un:Nat->Rd->Tree × Rd) (ex:ExP) (tight deep:Nat) (r:Rd):Tree × Rd:=
 loopOf ex tight deep (un deep r).2.ts.length (un deep r).1 (un deep r).2
def failU (r:Rd):Tree × Rd:=(tree0,if beginsB r.here=false then r.fail 2 else r.fail 6)
def pairP:Nat->ExP × (Nat->Rd->Tree × Rd)
 | 0=>(fun _ _ r=>failU r,fun _ r=>failU r)
 | f+1=>(exprOf (unaryOf (pairP f).1 (pairP f).2) (pairP f).1,unaryOf (pairP f).1 (pairP f).2)
def exprP (f:Nat):ExP:=(pairP f).1
def unaryP (f:Nat):Nat->Rd->Tree × Rd:=(pairP f).2
theorem unaryP_succ (f:Nat):unaryP (f+1)=unaryOf (exprP f) (unaryP f):=rfl
theorem exprP_succ (f:Nat):exprP (f+1)=exprOf (unaryP (f+1)) (exprP f):=rfl
def stm0:Stm:=⟨0,⟨#[]⟩,[],0,[],[],0⟩
def kindP (t:Tok):Option Int:=
 if t.kind=1 then some 1 else if t.text=kLocal then some 0 else if t.text=kIf then some 3 else if t.text=kLoop then some 4 else if t.text=kTake then some 5
 else if t.text=kGive then some 6 else if t.text=kAdd then some 7 else if t.text=kFence then some 8 else if t.text=kOutput then some 9 else none
def valueP (deep:Nat) (s:Stm) (r:Rd):Stm × Rd:=
 let q:=exprP (40-deep) 0 (deep+1) r
 ({ s with exprs:=s.exprs++[q.1] },q.2)
def simpleP (t:Tok) (deep:Nat) (s:Stm) (r:Rd):Stm × Rd:=
 if s.kind=0 then valueP deep { s with name:=bstr r.name.1 } (r.name.2.want [61])
 else if s.kind=1 then
    (if r.is [91] then
     let q:=valueP deep { s with kind:=2,name:=bstr t.text } r.next
     valueP deep q.1 ((q.2.want [93]).want [61])
    else valueP deep { s with name:=bstr t.text } (r.want [61]))
 else if s.kind=5 then ({ s with name:=bstr r.name.1 },r.name.2)
 else if s.kind=6 then ({ s with name:=bstr r.name.1 },r.name.2)
 else if s.kind=7 then valueP deep { s with name:=bstr r.name.1 } r.name.2
 else if s.kind=9 then valueP deep s r
 else (s,r)
theorem simple_0 (t:Tok) (deep:Nat) (s:Stm) (r:Rd) (h:s.kind=0):simpleP t deep s r=valueP deep { s with name:=bstr r.name.1 } (r.name.2.want [61]):=by unfold simpleP;rw [if_pos h]
theorem simple_1 (t:Tok) (deep:Nat) (s:Stm) (r:Rd) (h:s.kind=1) (hr:r.is [91]=false):simpleP t deep s r=valueP deep { s with name:=bstr t.text } (r.want [61]):=by unfold simpleP;rw [if_neg (by rw [h];decide),if_pos h,hr];rfl
theorem simple_2 (t:Tok) (deep:Nat) (s:Stm) (r:Rd) (h:s.kind=1) (hr:r.is [91]=true):simpleP t deep s r=valueP deep (valueP deep { s with kind:=2,name:=bstr t.text } r.next).1 (((valueP deep { s with kind:=2,name:=bstr t.text } r.next).2.want [93]).want [61]):=by unfold simpleP;rw [if_neg (by rw [h];decide),if_pos h,hr];rfl
theorem simple_5 (t:Tok) (deep:Nat) (s:Stm) (r:Rd) (h:s.kind=5):simpleP t deep s r=({ s with name:=bstr r.name.1 },r.name.2):=by unfold simpleP;rw [if_neg (by rw [h];decide),if_neg (by rw [h];decide),if_pos h]
theorem simple_6 (t:Tok) (deep:Nat) (s:Stm) (r:Rd) (h:s.kind=6):simpleP t deep s r=({ s with name:=bstr r.name.1 },r.name.2):=by unfold simpleP;rw [if_neg (by rw [h];decide),if_neg (by rw [h];decide),if_neg (by rw [h];decide),if_pos h]
theorem simple_7 (t:Tok) (deep:Nat) (s:Stm) (r:Rd) (h:s.kind=7):simpleP t deep s r=valueP deep { s with name:=bstr r.name.1 } r.name.2:=by unfold simpleP;rw [if_neg (by rw [h];decide),if_neg (by rw [h];decide),if_neg (by rw [h];decide),if_neg (by rw [h];decide),if_pos h]
theorem simple_8 (t:Tok) (deep:Nat) (s:Stm) (r:Rd) (h:s.kind=8):simpleP t deep s r=(s,r):=by unfold simpleP;rw [if_neg (by rw [h];decide),if_neg (by rw [h];decide),if_neg (by rw [h];decide),if_neg (by rw [h];decide),if_neg (by rw [h];decide),if_neg (by rw [h];decide)]
theorem simple_9 (t:Tok) (deep:Nat) (s:Stm) (r:Rd) (h:s.kind=9):simpleP t deep s r=valueP deep s r:=by unfold simpleP;rw [if_neg (by rw [h];decide),if_neg (by rw [h];decide),if_neg (by rw [h];decide),if_neg (by rw [h];decide),if_neg (by rw [h];decide),if_pos h]
abbrev BlP:=Nat->Rd->List Stm × Rd
def choiceOf (bl:BlP) (deep:Nat) (s:Stm) (r:Rd):Stm × Rd:=
 let q:=valueP deep s (r.want [40])
 let b:=bl (deep+1) (q.2.want [41])
 if b.2.is kElse then
    let e:=bl (deep+1) b.2.next
    ({ q.1 with body:=b.1,els:=e.1 },e.2)
 else ({ q.1 with body:=b.1 },b.2)
def stmtOf (bl:BlP) (deep:Nat) (r:Rd):Stm × Rd:=
 match kindP r.here with
 | none=>(stm0,r.fail 2)
 | some k=>
   if 40<deep then (stm0,r.fail 6)
   else
    let s:Stm:=⟨k,⟨#[]⟩,[],0,[],[],r.here.at_⟩
    if k=3 then choiceOf bl deep s r.next
    else if k=4 then
        let n:=r.next.name
        let c:=n.2.number 256
        let b:=bl (deep+1) c.2
        ({ s with name:=bstr n.1,count:=c.1,body:=b.1 },b.2)
    else
        let q:=simpleP r.here deep s r.next
        (q.1,q.2.want [59])
def blkLoop (st:Nat->Rd->Stm × Rd) (deep:Nat):Nat->List Stm->Rd->List Stm × Rd
 | 0,ss,r=>(ss,r)
 | k+1,ss,r=>
   if r.err.isSome then (ss,r)
   else if r.is [125] then (ss,r.next)
   else blkLoop st deep k (ss++[(st deep r).1]) (st deep r).2
def blockOf (st:Nat->Rd->Stm × Rd) (deep:Nat) (r:Rd):List Stm × Rd:=blkLoop st deep ((r.want [123]).ts.length+1) [] (r.want [123])
def stP:Nat->Nat->Rd->Stm × Rd
 | 0=>fun _ r=>(stm0,if (kindP r.here).isNone then r.fail 2 else r.fail 6)
 | f+1=>stmtOf (blockOf (stP f))
def cellsP (d:Dcl) (r:Rd):Dcl × Rd:=
 let n:=r.name
 let z:Int × Rd:=if n.2.is [91] then let c:=n.2.next.number 64;((c.1:Int),c.2.want [93]) else (0,n.2)
 if z.2.is kBy then
    let b:=z.2.next.name
    ({ d with name:=bstr n.1,size:=z.1,by_:=bstr b.1 },b.2)
 else ({ d with name:=bstr n.1,size:=z.1 },z.2)
def declP (r:Rd):Dcl × Rd:=
 let d:Dcl:=⟨false,0,⟨#[]⟩,0,⟨#[]⟩,r.here.at_⟩
 let q:Dcl × Rd:=
    if r.is kLock then ({ d with lock:=true,name:=bstr r.next.name.1 },r.next.name.2)
    else if r.is kPublic then cellsP d r.next
    else if r.is kSecret then cellsP { d with label:=1 } r.next
    else (d,r.fail 2)
 (q.1,q.2.want [59])
def declLoop:Nat->List Dcl->Rd->List Dcl × Rd
 | 0,ds,r=>(ds,r)
 | k+1,ds,r=>
   if r.err.isSome then (ds,r)
   else if r.is kThread then (ds,r)
   else if ds.length=64 then (ds,r.fail 6)
   else declLoop k (ds++[(declP r).1]) (declP r).2
def declsP (r:Rd):List Dcl × Rd:=declLoop 65 [] r
def thrLoop:Nat->List (List Stm)->Rd->List (List Stm) × Rd
 | 0,ts,r=>(ts,r)
 | k+1,ts,r=>
   if r.err.isSome then (ts,r)
   else if r.here.kind=0 then (ts,r)
   else if ts.length=16 then (ts,r.fail 6)
   else
    let b:=blockOf (stP 40) 1 (r.want kThread)
    thrLoop k (ts++[b.1]) b.2
def threadsP (r:Rd):List (List Stm) × Rd:=thrLoop 17 [] r
def progP (ts:List Tok):Except (Nat × Nat) Prg:=
 let d:=declsP ⟨ts,none⟩
 let t:=threadsP d.2
 match t.2.err with
 | some e=>.error e
 | none=>.ok ⟨d.1,t.1⟩
def parseP (l:List UInt8):Except (Nat × Nat) Prg:=
 match Lx.cutAll l with
 | .error e=>.error e
 | .ok ts=>progP ts
def Rd.good (r:Rd):Prop:=∃ us k,r.ts=us++[endT k]/\∀ t ∈ us,t.kind≠0/\t.text≠[]
theorem Rd.good.pos {r:Rd} (h:r.good):0<r.ts.length:=by obtain ⟨us,k,e,_⟩:=h;rw [e];simp
theorem Rd.good.cons {r:Rd} (h:r.good):r.ts=r.here :: r.ts.drop 1:=by
 have:=h.pos
 unfold Rd.here
 cases e:r.ts with
 | nil=>simp [e] at this
 | cons t ts=>simp
theorem good_cases {r:Rd} (h:r.good):(∃ k,r.ts=[endT k]/\r.here=endT k)\/(r.here.kind≠0/\r.here.text≠[]/\1<r.ts.length/\r.next.good/\r.next.ts=r.ts.drop 1/\r.next.ts.length+1=r.ts.length):=by
 obtain ⟨us,k,e,hu⟩:=h
 cases us with
 | nil=>left;exact ⟨k,by simpa using e,by unfold Rd.here;rw [e];rfl⟩
 | cons t us=>
   right
   have hl:1<r.ts.length:=by rw [e];simp
   have hh:r.here=t:=by unfold Rd.here;rw [e];rfl
   have hn:r.next.ts=r.ts.drop 1:=by unfold Rd.next;simp [hl]
   have ht:=hu t (by simp)
   refine ⟨by rw [hh];exact ht.1,by rw [hh];exact ht.2,hl,⟨us,k,by rw [hn,e];rfl,fun x hx=>hu x (by simp [hx])⟩,hn,by rw [hn,List.length_drop];omega⟩
theorem Rd.good.next {r:Rd} (h:r.good):r.next.good:=by
 rcases good_cases h with ⟨k,e,_⟩ | ⟨_,_,_,h1,_⟩
 · have:r.next.ts=r.ts:=by unfold Rd.next;simp [e]
   exact ⟨[],k,by rw [this,e];rfl,by simp⟩
 · exact h1
theorem fail_ts (n:Nat) {r:Rd} (h:r.good):∃ k,(r.fail n).ts=[endT k]:=by
 obtain ⟨us,k,e,_⟩:=h
 refine ⟨k,?_⟩
 show r.ts.drop (r.ts.length-1)=_
 rw [e]
 simp
theorem Rd.good.fail {r:Rd} (n:Nat) (h:r.good):(r.fail n).good:=by
 obtain ⟨k,e⟩:=fail_ts n h
 exact ⟨[],k,by rw [e];rfl,by simp⟩
theorem next_len (r:Rd):r.next.ts.length<=r.ts.length:=by unfold Rd.next;simp only;split <;> simp
theorem fail_len (n:Nat) {r:Rd} (h:r.good):(r.fail n).ts.length=1:=by obtain ⟨k,e⟩:=fail_ts n h;rw [e];rfl
theorem fail_le (n:Nat) {r:Rd} (h:r.good):(r.fail n).ts.length<=r.ts.length:=by rw [fail_len n h];exact h.pos
theorem fail_err (n:Nat) (r:Rd):(r.fail n).err.isSome=true:=by unfold Rd.fail;cases r.err <;> rfl
theorem next_err (r:Rd):r.next.err=r.err:=rfl
def Rd.to (r r':Rd):Prop:=(r.good->r'.good)/\(r.good->r'.ts.length<=r.ts.length)/\(r.err.isSome=true->r'.err=r.err)
theorem Rd.to.refl (r:Rd):r.to r:=⟨id,fun _=>Nat.le_refl _,fun _=>rfl⟩
theorem Rd.to.trans {a b c:Rd} (h:a.to b) (k:b.to c):a.to c:=
 ⟨fun g=>k.1 (h.1 g),fun g=>Nat.le_trans (k.2.1 (h.1 g)) (h.2.1 g),fun e=>by have:=h.2.2 e;rw [<- this] at e ⊢;exact k.2.2 e⟩
theorem to_next (r:Rd):r.to r.next:=⟨Rd.good.next,fun _=>next_len r,fun _=>rfl⟩
theorem to_fail (n:Nat) (r:Rd):r.to (r.fail n):=⟨Rd.good.fail n,fail_le n,fun e=>by unfold Rd.fail;cases h:r.err with | none=>rw [h] at e;cases e | some _=>rfl⟩
theorem to_want (s:List UInt8) (r:Rd):r.to (r.want s):=by unfold Rd.want;split;exact to_next r;exact to_fail 2 r
theorem to_name (r:Rd):r.to r.name.2:=by unfold Rd.name;split;exact to_next r;exact to_fail 2 r
theorem to_number (m:Nat) (r:Rd):r.to (r.number m).2:=by
 unfold Rd.number
 split
 · split;exact to_fail 6 r;exact to_next r
 · exact to_fail 2 r
def ToE (ex:ExP):Prop:=∀ t d r,Rd.to r (ex t d r).2
theorem to_three {ex:ExP} (h:ToE ex) (d:Nat) (r:Rd):r.to (threeOf ex d r).2:=
 ((((((to_want _ r).trans (h _ _ _)).trans (to_want _ _)).trans (h _ _ _)).trans (to_want _ _)).trans (h _ _ _)).trans (to_want _ _)
theorem to_named {ex:ExP} (h:ToE ex) (t:Tok) (d:Nat) (r:Rd):r.to (namedOf ex t d r).2:=by
 unfold namedOf
 split
 · exact ((to_next r).trans (h _ _ _)).trans (to_want _ _)
 · exact Rd.to.refl r
theorem to_unary {ex:ExP} {un:Nat->Rd->Tree × Rd} (h:ToE ex) (hu:∀ d r,Rd.to r (un d r).2) (d:Nat) (r:Rd):r.to (unaryOf ex un d r).2:=by
 unfold unaryOf
 split
 · exact to_fail 2 r
 split
 · exact to_fail 6 r
 split
 · exact (to_next r).trans (hu _ _)
 split
 · exact (to_next r).trans (to_three h _ _)
 split
 · exact ((to_next r).trans (h _ _ _)).trans (to_want _ _)
 split
 · exact to_next r
 · exact (to_next r).trans (to_named h _ _ _)
theorem to_loop {ex:ExP} (h:ToE ex) (t d:Nat):∀ (k:Nat) (left:Tree) (r:Rd),r.to (loopOf ex t d k left r).2
 | 0,left,r=>Rd.to.refl r
 | k+1,left,r=>by
   unfold loopOf
   split
   · exact Rd.to.refl r
   · exact ((to_next r).trans (h _ _ _)).trans (to_loop h t d k _ _)
theorem to_failU (r:Rd):r.to (failU r).2:=by unfold failU;simp only;split;exact to_fail 2 r;exact to_fail 6 r
theorem to_pair:∀ f,ToE (exprP f)/\∀ d r,Rd.to r (unaryP f d r).2
 | 0=>⟨fun _ _ r=>to_failU r,fun _ r=>to_failU r⟩
 | f+1=>by
   obtain ⟨h1,h2⟩:=to_pair f
   have hu:∀ d r,Rd.to r (unaryP (f+1) d r).2:=fun d r=>by rw [unaryP_succ];exact to_unary h1 h2 d r
   exact ⟨fun t d r=>by rw [exprP_succ];exact (hu d r).trans (to_loop h1 t d _ _ _),hu⟩
theorem to_expr (f:Nat):ToE (exprP f):=(to_pair f).1
theorem to_value (d:Nat) (s:Stm) (r:Rd):r.to (valueP d s r).2:=to_expr _ _ _ _
theorem to_simple (t:Tok) (d:Nat) (s:Stm) (r:Rd):r.to (simpleP t d s r).2:=by
 unfold simpleP
 split
 · exact ((to_name r).trans (to_want _ _)).trans (to_value _ _ _)
 split
 · split
   · exact ((((to_next r).trans (to_value _ _ _)).trans (to_want _ _)).trans (to_want _ _)).trans (to_value _ _ _)
   · exact (to_want _ r).trans (to_value _ _ _)
 split
 · exact to_name r
 split
 · exact to_name r
 split
 · exact (to_name r).trans (to_value _ _ _)
 split
 · exact to_value _ _ _
 · exact Rd.to.refl r
def ToB (bl:BlP):Prop:=∀ d r,Rd.to r (bl d r).2
theorem to_choice {bl:BlP} (h:ToB bl) (d:Nat) (s:Stm) (r:Rd):r.to (choiceOf bl d s r).2:=by
 have hb:=(((to_want [40] r).trans (to_value d s _)).trans (to_want [41] _)).trans (h (d+1) _)
 unfold choiceOf
 simp only
 split
 · exact (hb.trans (to_next _)).trans (h _ _)
 · exact hb
theorem to_stmt {bl:BlP} (h:ToB bl) (d:Nat) (r:Rd):r.to (stmtOf bl d r).2:=by
 unfold stmtOf
 split
 · exact to_fail 2 r
 split
 · exact to_fail 6 r
 simp only
 split
 · exact (to_next r).trans (to_choice h _ _ _)
 split
 · exact (((to_next r).trans (to_name _)).trans (to_number _ _)).trans (h _ _)
 · exact ((to_next r).trans (to_simple _ _ _ _)).trans (to_want _ _)
theorem to_blk {st:Nat->Rd->Stm × Rd} (h:∀ d r,Rd.to r (st d r).2) (d:Nat):∀ (k:Nat) (ss:List Stm) (r:Rd),r.to (blkLoop st d k ss r).2
 | 0,ss,r=>Rd.to.refl r
 | k+1,ss,r=>by
   unfold blkLoop
   split
   · exact Rd.to.refl r
   split
   · exact to_next r
   · exact (h _ _).trans (to_blk h d k _ _)
theorem to_block {st:Nat->Rd->Stm × Rd} (h:∀ d r,Rd.to r (st d r).2):ToB (blockOf st):=fun d r=>(to_want _ r).trans (to_blk h d _ _ _)
theorem to_st:∀ f d r,Rd.to r (stP f d r).2
 | 0,_,r=>by
   show Rd.to r (if (kindP r.here).isNone then r.fail 2 else r.fail 6)
   split;exact to_fail 2 r;exact to_fail 6 r
 | f+1,d,r=>to_stmt (to_block (to_st f)) d r
theorem to_cells (d:Dcl) (r:Rd):r.to (cellsP d r).2:=by
 unfold cellsP
 simp only
 by_cases h:r.name.2.is [91]=true
 · simp only [h,if_true]
   split
   · exact (((((to_name r).trans (to_next _)).trans (to_number _ _)).trans (to_want _ _)).trans (to_next _)).trans (to_name _)
   · exact (((to_name r).trans (to_next _)).trans (to_number _ _)).trans (to_want _ _)
 · simp only [h]
   split
   · rename_i h';simp at h'
   · simp only [Bool.false_eq_true,if_false]
     split
     · exact ((to_name r).trans (to_next _)).trans (to_name _)
     · exact to_name r
theorem to_decl (r:Rd):r.to (declP r).2:=by
 unfold declP
 refine Rd.to.trans ?_ (to_want _ _)
 split
 · exact (to_next r).trans (to_name _)
 split
 · exact (to_next r).trans (to_cells _ _)
 split
 · exact (to_next r).trans (to_cells _ _)
 · exact to_fail 2 r
end Go.Proofs.YtlepckjmdjjolaaGreatDoor.Pr
namespace Go.Proofs.YtlepckjmdjjolaaGreatDoor.Pr
open Go.Lib (decDigits)
open Lx (Tok num wordB letterB blankB lead blanks readTok goTok cutTok cutAll keyB signN numFrom)
structure Sg where
 kind:Nat
 text:List UInt8
 value:Nat
structure It where
 sg:Option Sg
 gap:List UInt8
def wordText (x:List UInt8):Prop:=(∃ c r,x=c :: r/\letterB (num c)=true)/\∀ c ∈ x,wordB (num c)=true
def isName (s:ByteArray):Prop:=wordText (bys s)/\keyB (bys s)=false
theorem num_ofNat (n:Nat) (h:n<256):num (UInt8.ofNat n)=(n:Int):=by
 unfold num
 rw [UInt8.toNat_ofNat',Nat.mod_eq_of_lt (by simpa using h)]
def gT:Nat->Tree->Prop
 | 0,_=>False
 | n+1,t=>
   (t.kind=0/\t.op=0/\t.name=⟨#[]⟩/\t.value<18446744073709551616/\t.kids=[]) \/
   (t.kind=1/\t.op=0/\isName t.name/\t.value=0/\t.kids=[]) \/
   (t.kind=2/\t.op=0/\isName t.name/\t.value=0/\∃ a,t.kids=[a]/\gT n a) \/
   (t.kind=3/\0<=t.op/\t.op<=9/\t.name=⟨#[]⟩/\t.value=0/\∃ a b,t.kids=[a,b]/\gT n a/\gT n b) \/
   (t.kind=4/\t.op=0/\t.name=⟨#[]⟩/\t.value=0/\∃ a,t.kids=[a]/\gT n a) \/
   (t.kind=5/\t.op=0/\t.name=⟨#[]⟩/\t.value=0/\∃ a b c,t.kids=[a,b,c]/\gT n a/\gT n b/\gT n c)
def dpE:Nat->Tree->Nat->Nat
 | 0,_,_=>0
 | n+1,t,p=>
   let pt:Nat->Nat->Nat:=fun i q=>match t.kids[i]? with | some k=>dpE n k q | none=>0
   let bin:Nat:=max (pt 0 (tightN t.op)) (1+pt 1 (tightN t.op+1))
   if t.kind=2 then 1+pt 0 0
   else if t.kind=3 then (if tightN t.op<p then 1+bin else bin)
   else if t.kind=4 then 1+pt 0 9
   else if t.kind=5 then 1+max (pt 0 0) (max (pt 1 0) (pt 2 0))
   else 0
theorem dp_2 {n:Nat} {t a:Tree} {p:Nat} (h:t.kind=2) (hk:t.kids=[a]):dpE (n+1) t p=1+dpE n a 0:=by simp [dpE,h,hk]
theorem dp_3 {n:Nat} {t a b:Tree} {p:Nat} (h:t.kind=3) (hk:t.kids=[a,b]):dpE (n+1) t p=if tightN t.op<p then 1+max (dpE n a (tightN t.op)) (1+dpE n b (tightN t.op+1)) else max (dpE n a (tightN t.op)) (1+dpE n b (tightN t.op+1)):=by simp [dpE,h,hk]
theorem dp_4 {n:Nat} {t a:Tree} {p:Nat} (h:t.kind=4) (hk:t.kids=[a]):dpE (n+1) t p=1+dpE n a 9:=by simp [dpE,h,hk]
theorem dp_5 {n:Nat} {t a b c:Tree} {p:Nat} (h:t.kind=5) (hk:t.kids=[a,b,c]):dpE (n+1) t p=1+max (dpE n a 0) (max (dpE n b 0) (dpE n c 0)):=by simp [dpE,h,hk]
theorem dp_le:∀ (n:Nat) (t:Tree) (p:Nat),gT n t->dpE n t p+2<=2*n
 | 0,_,_,h=>h.elim
 | n+1,t,p,h=>by
   rcases h with ⟨h,_⟩ | ⟨h,_⟩ | ⟨h,_,_,_,a,hk,ha⟩ | ⟨h,h0,h1,_,_,a,b,hk,ha,hb⟩ | ⟨h,_,_,_,a,hk,ha⟩ | ⟨h,_,_,_,a,b,c,hk,ha,hb,hc⟩
   · simp [dpE,h];omega
   · simp [dpE,h];omega
   · rw [dp_2 h hk];have:=dp_le n a 0 ha;omega
   · rw [dp_3 h hk];have:=dp_le n a (tightN t.op) ha;have:=dp_le n b (tightN t.op+1) hb;split <;> omega
   · rw [dp_4 h hk];have:=dp_le n a 9 ha;omega
   · rw [dp_5 h hk];have:=dp_le n a 0 ha;have:=dp_le n b 0 hb;have:=dp_le n c 0 hc;omega
theorem wordText_of {x:List UInt8} (h:(match x with | c :: _=>Lx.letterB (Lx.num c) | []=>false)=true) (h2:x.all (fun c=>Lx.wordB (Lx.num c))=true):wordText x:=by
 refine ⟨?_,fun c hc=>List.all_eq_true.1 h2 c hc⟩
 cases x with
 | nil=>cases h
 | cons c r=>exact ⟨c,r,rfl,h⟩
def gS (m:Nat):Nat->Stm->Prop
 | 0,_=>False
 | n+1,s=>
   (s.kind=0/\isName s.name/\(∃ e,s.exprs=[e]/\gT m e)/\s.count=0/\s.body=[]/\s.els=[]) \/
   (s.kind=1/\isName s.name/\(∃ e,s.exprs=[e]/\gT m e)/\s.count=0/\s.body=[]/\s.els=[]) \/
   (s.kind=2/\isName s.name/\(∃ a b,s.exprs=[a,b]/\gT m a/\gT m b)/\s.count=0/\s.body=[]/\s.els=[]) \/
   (s.kind=3/\s.name=⟨#[]⟩/\(∃ e,s.exprs=[e]/\gT m e)/\s.count=0/\(∀ x ∈ s.body,gS m n x)/\∀ x ∈ s.els,gS m n x) \/
   (s.kind=4/\isName s.name/\s.exprs=[]/\(∃ c:Nat,s.count=c/\1<=c/\c<=256)/\(∀ x ∈ s.body,gS m n x)/\s.els=[]) \/
   (s.kind=5/\isName s.name/\s.exprs=[]/\s.count=0/\s.body=[]/\s.els=[]) \/
   (s.kind=6/\isName s.name/\s.exprs=[]/\s.count=0/\s.body=[]/\s.els=[]) \/
   (s.kind=7/\isName s.name/\(∃ e,s.exprs=[e]/\gT m e)/\s.count=0/\s.body=[]/\s.els=[]) \/
   (s.kind=8/\s.name=⟨#[]⟩/\s.exprs=[]/\s.count=0/\s.body=[]/\s.els=[]) \/
   (s.kind=9/\s.name=⟨#[]⟩/\(∃ e,s.exprs=[e]/\gT m e)/\s.count=0/\s.body=[]/\s.els=[])
def fitS (m:Nat):Nat->Nat->Stm->Prop
 | 0,_,_=>False
 | n+1,deep,s=>deep<=40/\(∀ e ∈ s.exprs,deep+1+dpE m e 0<=40)/\(∀ x ∈ s.body,fitS m n (deep+1) x)/\∀ x ∈ s.els,fitS m n (deep+1) x
def gD (d:Dcl):Prop:=isName d.name/\((d.lock=true/\d.label=0/\d.size=0/\d.by_=⟨#[]⟩)\/(d.lock=false/\(d.label=0\/d.label=1)/\(∃ k:Nat,d.size=k/\k<=64)/\(d.by_=⟨#[]⟩\/isName d.by_)))
structure gP (m n:Nat) (p:Prg):Prop where
 d:∀ d ∈ p.decls,gD d
 dl:p.decls.length<=64
 s:∀ ss ∈ p.threads,∀ s ∈ ss,gS m n s
 f:∀ ss ∈ p.threads,∀ s ∈ ss,fitS m n 1 s
 t1:1<=p.threads.length
 t2:p.threads.length<=16
theorem digit_word {c:UInt8} (h:Lx.digitB (Lx.num c)=true):Lx.wordB (Lx.num c)=true:=by unfold Lx.wordB;rw [h];simp
theorem letter_word {c:UInt8} (h:Lx.letterB (Lx.num c)=true):Lx.wordB (Lx.num c)=true:=by unfold Lx.wordB;rw [h];simp
theorem gT.lift:∀ {n:Nat} {t:Tree},gT n t->gT (n+1) t
 | 0,_,h=>h.elim
 | n+1,t,h=>by
   rcases h with h | h | ⟨h,h2,hn,hv,a,hk,ha⟩ | ⟨h,h0,h1,h4,hv,a,b,hk,ha,hb⟩ | ⟨h,h2,h4,hv,a,hk,ha⟩ | ⟨h,h2,h4,hv,a,b,c,hk,ha,hb,hc⟩
   · exact .inl h
   · exact .inr (.inl h)
   · exact .inr (.inr (.inl ⟨h,h2,hn,hv,a,hk,ha.lift⟩))
   · exact .inr (.inr (.inr (.inl ⟨h,h0,h1,h4,hv,a,b,hk,ha.lift,hb.lift⟩)))
   · exact .inr (.inr (.inr (.inr (.inl ⟨h,h2,h4,hv,a,hk,ha.lift⟩))))
   · exact .inr (.inr (.inr (.inr (.inr ⟨h,h2,h4,hv,a,b,c,hk,ha.lift,hb.lift,hc.lift⟩))))
theorem gT.up {n:Nat} {t:Tree} (h:gT n t):∀ {m:Nat},n<=m->gT m t:=fun {m} hm=>by
 induction m with
 | zero=>obtain rfl:n=0:=by omega
         exact h
 | succ m ih=>
   by_cases e:n=m+1
   · subst e;exact h
   · exact (ih (by omega)).lift
theorem gS.lift {m:Nat} : ∀ {n:Nat} {s:Stm},gS m n s->gS m (n+1) s
 | 0,_,h=>h.elim
 | n+1,s,h=>by
   rcases h with h | h | h | ⟨h,hn,he,hc,h1,h2⟩ | ⟨h,hn,he,hc,h1,h2⟩ | h | h | h | h | h
   · exact .inl h
   · exact .inr (.inl h)
   · exact .inr (.inr (.inl h))
   · exact .inr (.inr (.inr (.inl ⟨h,hn,he,hc,fun x hx=>(h1 x hx).lift,fun x hx=>(h2 x hx).lift⟩)))
   · exact .inr (.inr (.inr (.inr (.inl ⟨h,hn,he,hc,fun x hx=>(h1 x hx).lift,h2⟩))))
   · exact .inr (.inr (.inr (.inr (.inr (.inl h)))))
   · exact .inr (.inr (.inr (.inr (.inr (.inr (.inl h))))))
   · exact .inr (.inr (.inr (.inr (.inr (.inr (.inr (.inl h)))))))
   · exact .inr (.inr (.inr (.inr (.inr (.inr (.inr (.inr (.inl h))))))))
   · exact .inr (.inr (.inr (.inr (.inr (.inr (.inr (.inr (.inr h))))))))
def tightAt (r:List Tok):Nat:=tightN (opOf (r.headD (endT 0)).text)
theorem loop_stop {ex:ExP} {tight deep k:Nat} {left:Tree} {r:Rd} (h:tightAt r.ts<=tight):loopOf ex tight deep k left r=(left,r):=by
 cases k with
 | zero=>rfl
 | succ k=>unfold loopOf;rw [if_pos (by exact h)]
theorem op_not_end {r:Rd} (hg:r.good) {tight:Nat} (h:tight<tightN (opOf r.here.text)):r.next.good/\r.next.ts=r.ts.drop 1/\r.next.ts.length+1=r.ts.length:=by
 rcases good_cases hg with ⟨k,_,e⟩ | ⟨_,_,_,h1,h2,h3⟩
 · rw [e] at h
   have:tightN (opOf (endT k).text)=0:=by show tightN (opOf [])=0;decide
   omega
 · exact ⟨h1,h2,h3⟩
theorem loop_fuel {ex:ExP} (hE:ToE ex) {tight deep:Nat} : ∀ (k j:Nat) (left:Tree) (r:Rd),r.good->r.ts.length<=k->r.ts.length<=j->loopOf ex tight deep k left r=loopOf ex tight deep j left r
 | 0,j,left,r,hg,hk,_=>by have:=hg.pos;omega
 | k+1,0,left,r,hg,_,hj=>by have:=hg.pos;omega
 | k+1,j+1,left,r,hg,hk,hj=>by
   unfold loopOf
   by_cases ht:tightN (opOf r.here.text)<=tight
   · rw [if_pos ht,if_pos ht]
   · rw [if_neg ht,if_neg ht]
     obtain ⟨h1,_,h3⟩:=op_not_end hg (Nat.lt_of_not_le ht)
     have hq:=hE (tightN (opOf r.here.text)) (deep+1) r.next
     have:=hq.2.1 h1
     exact loop_fuel hE k j _ _ (hq.1 h1) (by omega) (by omega)
end Go.Proofs.YtlepckjmdjjolaaGreatDoor.Pr
