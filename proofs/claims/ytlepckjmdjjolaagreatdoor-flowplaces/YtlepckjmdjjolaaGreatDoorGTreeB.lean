/- Own texts laid together: TreePlain, TextPlain, TreeTxt. Conditions: as each theorem says. -/
import Derived.Lib.ItoaNum
import Derived.Lib.UnsafeStr
set_option linter.unusedVariables false
set_option linter.unusedSimpArgs false
namespace Go.Proofs.YtlepckjmdjjolaaGreatDoor
open Go.Lib (decDigits)
def bys (s:ByteArray):List UInt8:=s.data.toList
def bstr (l:List UInt8):ByteArray:=⟨l.toArray⟩
theorem bys_bstr (l:List UInt8):bys (bstr l)=l:=rfl
theorem bstr_bys (s:ByteArray):bstr (bys s)=s:=rfl
theorem bys_length (s:ByteArray):(bys s).length=s.size:=by unfold bys;simp
theorem bstr_size (l:List UInt8):(bstr l).size=l.length:=by simp [bstr,ByteArray.size]
theorem bys_inj {s t:ByteArray} (h:bys s=bys t):s=t:=by rw [<- bstr_bys s,h,bstr_bys]
structure Tree where
 kind:Int
 op:Int
 name:ByteArray
 value:Nat
 kids:List Tree
 at_:Int
def tightN (op:Int):Nat:=
 if op=2 then 7 else if op=0 then 6 else if op=1 then 6 else if op=6 then 5 else if op=7 then 5 else if op=3 then 4 else if op=8 then 3 else if op=9 then 3 else if op=5 then 2 else if op=4 then 1 else 0
def signL (op:Nat):List UInt8:=[[43],[45],[42],[38],[124],[94],[60,60],[62,62],[61,61],[60]].getD op []
def etext:Nat->Tree->Nat->List UInt8
 | 0,_,_=>[]
 | n+1,t,p=>
   let pt:Nat->Nat->List UInt8:=fun i q=>match t.kids[i]? with | some k=>etext n k q | none=>[63]
   let bin:List UInt8:=pt 0 (tightN t.op)++[32]++signL t.op.toNat++[32]++pt 1 (tightN t.op+1)
   if t.kind=0 then decDigits t.value
   else if t.kind=1 then bys t.name
   else if t.kind=2 then bys t.name++[91]++pt 0 0++[93]
   else if t.kind=3 then (if tightN t.op=0 then [63] else if tightN t.op<p then [40]++bin++[41] else bin)
   else if t.kind=4 then [126]++pt 0 9
   else if t.kind=5 then [112,105,99,107,40]++pt 0 0++[44,32]++pt 1 0++[44,32]++pt 2 0++[41]
   else [63]
def epart (n:Nat) (ks:List Tree) (i p:Nat):List UInt8:=match ks[i]? with | some k=>etext n k p | none=>[63]
theorem epart_some {n:Nat} {ks:List Tree} {i:Nat} {k:Tree} (h:ks[i]?=some k) (p:Nat):epart n ks i p=etext n k p:=by unfold epart;rw [h]
theorem epart_none {n:Nat} {ks:List Tree} {i:Nat} (h:ks[i]?=none) (p:Nat):epart n ks i p=[63]:=by unfold epart;rw [h]
def binText (n:Nat) (t:Tree):List UInt8:=epart n t.kids 0 (tightN t.op)++[32]++signL t.op.toNat++[32]++epart n t.kids 1 (tightN t.op+1)
def pickText (n:Nat) (ks:List Tree):List UInt8:=[112,105,99,107,40]++epart n ks 0 0++[44,32]++epart n ks 1 0++[44,32]++epart n ks 2 0++[41]
def cellText (n:Nat) (s:ByteArray) (ks:List Tree):List UInt8:=bys s++[91]++epart n ks 0 0++[93]
def binTextAt (n:Nat) (t:Tree) (p:Nat):List UInt8:=if tightN t.op=0 then [63] else if tightN t.op<p then [40]++binText n t++[41] else binText n t
theorem etext_lit (n:Nat) (t:Tree) (p:Nat) (h:t.kind=0):etext (n+1) t p=decDigits t.value:=by simp [etext,h]
theorem etext_name (n:Nat) (t:Tree) (p:Nat) (h:t.kind=1):etext (n+1) t p=bys t.name:=by simp [etext,h]
theorem etext_cell (n:Nat) (t:Tree) (p:Nat) (h:t.kind=2):etext (n+1) t p=cellText n t.name t.kids:=by simp [etext,h,cellText,epart]
theorem etext_bin (n:Nat) (t:Tree) (p:Nat) (h:t.kind=3):etext (n+1) t p=binTextAt n t p:=by simp [etext,h,binTextAt,binText,epart]
theorem etext_not (n:Nat) (t:Tree) (p:Nat) (h:t.kind=4):etext (n+1) t p=[126]++epart n t.kids 0 9:=by simp [etext,h,epart]
theorem etext_pick (n:Nat) (t:Tree) (p:Nat) (h:t.kind=5):etext (n+1) t p=pickText n t.kids:=by simp [etext,h,pickText,epart]
theorem etext_else (n:Nat) (t:Tree) (p:Nat) (h0:t.kind≠0) (h1:t.kind≠1) (h2:t.kind≠2) (h3:t.kind≠3) (h4:t.kind≠4) (h5:t.kind≠5):etext (n+1) t p=[63]:=by simp [etext, *]
theorem tightN_le (op:Int):tightN op<=7:=by unfold tightN;(repeat' split) <;> omega
theorem tightN_pos (op:Int) (h0:0<=op) (h1:op<=9):tightN op≠0:=by unfold tightN;(repeat' split) <;> omega
theorem tightN_none (op:Int) (h:op<0\/9<op):tightN op=0:=by unfold tightN;(repeat' split) <;> omega
def wf:Nat->Tree->Prop
 | 0,_=>False
 | n+1,t=>(t.kind=3->0<=t.op/\t.op<=9)/\t.name.size<=16/\t.value<18446744073709551616/\∀ k ∈ t.kids,wf n k
theorem etext_at (n:Nat) (t:Tree) (p:Nat):etext (n+1) t p=if t.kind=3/\tightN t.op≠0/\tightN t.op<p then [40]++etext (n+1) t 0++[41] else etext (n+1) t 0:=by
 by_cases h3:t.kind=3
 · rw [etext_bin n t p h3,etext_bin n t 0 h3]
   unfold binTextAt
   by_cases h0:tightN t.op=0
   · simp [h0,h3]
   · by_cases hp:tightN t.op<p
     · simp [h0,h3,hp]
     · simp [h0,h3,hp]
 · rw [if_neg (by simp [h3])]
   simp [etext,h3]
end Go.Proofs.YtlepckjmdjjolaaGreatDoor
namespace Go.Proofs.YtlepckjmdjjolaaGreatDoor
open Go.Lib (decDigits itoa)
structure Stm where
 kind:Int
 name:ByteArray
 exprs:List Tree
 count:Int
 body:List Stm
 els:List Stm
 at_:Int
structure Dcl where
 lock:Bool
 label:Int
 name:ByteArray
 size:Int
 by_:ByteArray
 at_:Int
structure Prg where
 decls:List Dcl
 threads:List (List Stm)
def tabs (d:Nat):List UInt8:=List.replicate d 9
def lineT (d:Nat) (x:List UInt8):List UInt8:=tabs d++x++[10]
def valueT (m:Nat) (d:Nat) (x:List UInt8) (es:List Tree):List UInt8:=tabs d++x++epart m es 0 0++[59,10]
def sLocal:List UInt8:=[108,111,99,97,108,32]
def sIs:List UInt8:=[32,61,32]
def sLoop:List UInt8:=[108,111,111,112,32]
def sTake:List UInt8:=[116,97,107,101,32]
def sGive:List UInt8:=[103,105,118,101,32]
def sAdd:List UInt8:=[97,100,100,32]
def sFence:List UInt8:=[102,101,110,99,101,59]
def sOutput:List UInt8:=[111,117,116,112,117,116,32]
def sIf:List UInt8:=[105,102,32,40]
def sThen:List UInt8:=[41,32,123,10]
def sElse:List UInt8:=[125,32,101,108,115,101,32,123]
def stext (m:Nat):Nat->Nat->Stm->List UInt8
 | 0,_,_=>[]
 | n+1,d,s=>
   let blk:Nat->List Stm->List UInt8:=fun d ss=>(ss.map fun x=>stext m n d x).flatten
   if s.kind=0 then valueT m d (sLocal++bys s.name++sIs) s.exprs
   else if s.kind=1 then valueT m d (bys s.name++sIs) s.exprs
   else if s.kind=2 then tabs d++cellText m s.name s.exprs++sIs++epart m s.exprs 1 0++[59,10]
   else if s.kind=3 then tabs d++sIf++epart m s.exprs 0 0++sThen++blk (d+1) s.body++(if s.els.length=0 then [] else lineT d sElse++blk (d+1) s.els)++lineT d [125]
   else if s.kind=4 then lineT d (sLoop++bys s.name++[32]++itoa s.count++[32,123])++blk (d+1) s.body++lineT d [125]
   else if s.kind=5 then lineT d (sTake++bys s.name++[59])
   else if s.kind=6 then lineT d (sGive++bys s.name++[59])
   else if s.kind=7 then valueT m d (sAdd++bys s.name++[32]) s.exprs
   else if s.kind=8 then lineT d sFence
   else valueT m d sOutput s.exprs
def btext (m n d:Nat) (ss:List Stm):List UInt8:=(ss.map fun x=>stext m n d x).flatten
def choiceT (m n d:Nat) (s:Stm):List UInt8:=tabs d++sIf++epart m s.exprs 0 0++sThen++btext m n (d+1) s.body++(if s.els.length=0 then [] else lineT d sElse++btext m n (d+1) s.els)++lineT d [125]
theorem stext_0 (m n d:Nat) (s:Stm) (h:s.kind=0):stext m (n+1) d s=valueT m d (sLocal++bys s.name++sIs) s.exprs:=by simp [stext,h]
theorem stext_1 (m n d:Nat) (s:Stm) (h:s.kind=1):stext m (n+1) d s=valueT m d (bys s.name++sIs) s.exprs:=by simp [stext,h]
theorem stext_2 (m n d:Nat) (s:Stm) (h:s.kind=2):stext m (n+1) d s=tabs d++cellText m s.name s.exprs++sIs++epart m s.exprs 1 0++[59,10]:=by simp [stext,h]
theorem stext_3 (m n d:Nat) (s:Stm) (h:s.kind=3):stext m (n+1) d s=choiceT m n d s:=by simp [stext,h,choiceT,btext]
theorem stext_4 (m n d:Nat) (s:Stm) (h:s.kind=4):stext m (n+1) d s=lineT d (sLoop++bys s.name++[32]++itoa s.count++[32,123])++btext m n (d+1) s.body++lineT d [125]:=by simp [stext,h,btext]
theorem stext_5 (m n d:Nat) (s:Stm) (h:s.kind=5):stext m (n+1) d s=lineT d (sTake++bys s.name++[59]):=by simp [stext,h]
theorem stext_6 (m n d:Nat) (s:Stm) (h:s.kind=6):stext m (n+1) d s=lineT d (sGive++bys s.name++[59]):=by simp [stext,h]
theorem stext_7 (m n d:Nat) (s:Stm) (h:s.kind=7):stext m (n+1) d s=valueT m d (sAdd++bys s.name++[32]) s.exprs:=by simp [stext,h]
theorem stext_8 (m n d:Nat) (s:Stm) (h:s.kind=8):stext m (n+1) d s=lineT d sFence:=by simp [stext,h]
theorem stext_9 (m n d:Nat) (s:Stm) (h0:s.kind≠0) (h1:s.kind≠1) (h2:s.kind≠2) (h3:s.kind≠3) (h4:s.kind≠4) (h5:s.kind≠5) (h6:s.kind≠6) (h7:s.kind≠7) (h8:s.kind≠8):stext m (n+1) d s=valueT m d sOutput s.exprs:=by simp [stext, *]
def sLock:List UInt8:=[108,111,99,107,32]
def sPublic:List UInt8:=[112,117,98,108,105,99,32]
def sSecret:List UInt8:=[115,101,99,114,101,116,32]
def sBy:List UInt8:=[32,98,121,32]
def sThread:List UInt8:=[116,104,114,101,97,100,32,123]
def dtext (d:Dcl):List UInt8:=
 if d.lock=true then lineT 0 (sLock++bys d.name++[59])
 else (if d.label=0 then sPublic else sSecret)++bys d.name++(if 0<d.size then [91]++itoa d.size++[93] else [])++(if d.by_.size=0 then [] else sBy++bys d.by_)++[59,10]
def ttext (m n:Nat) (ss:List Stm):List UInt8:=lineT 0 sThread++btext m n 1 ss++lineT 0 [125]
def ptext (m n:Nat) (p:Prg):List UInt8:=(p.decls.map dtext).flatten++(p.threads.map fun ss=>ttext m n ss).flatten
end Go.Proofs.YtlepckjmdjjolaaGreatDoor
namespace Go.Proofs.YtlepckjmdjjolaaGreatDoor
theorem kind_cases (k:Int):k=0\/k=1\/k=2\/k=3\/k=4\/k=5\/(k≠0/\k≠1/\k≠2/\k≠3/\k≠4/\k≠5):=by omega
theorem etext_ne:∀ (n:Nat) (t:Tree) (p:Nat),t.kind≠1->etext (n+1) t p≠[]:=by
 intro n t p h1
 rcases kind_cases t.kind with hk | hk | hk | hk | hk | hk | ⟨k0,k1,k2,k3,k4,k5⟩
 · rw [etext_lit n t p hk]
   intro e
   have:=Lib.decDigits_length t.value
   have:=Lib.nDigits_pos t.value
   rw [e] at *
   simp at *
   omega
 · exact absurd hk h1
 · rw [etext_cell n t p hk];simp [cellText]
 · rw [etext_bin n t p hk];unfold binTextAt;split
   · simp
   · split <;> simp [binText]
 · rw [etext_not n t p hk];simp
 · rw [etext_pick n t p hk];simp [pickText]
 · rw [etext_else n t p k0 k1 k2 k3 k4 k5];simp
theorem tabs_len (k:Nat):(tabs k).length=k:=by simp [tabs]
end Go.Proofs.YtlepckjmdjjolaaGreatDoor
