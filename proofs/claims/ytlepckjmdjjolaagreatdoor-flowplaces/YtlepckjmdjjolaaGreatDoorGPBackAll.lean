/- Own texts laid together: PStmtBack, PProgBack, PBack. Conditions: as each theorem says. -/
import Derived.Test.YtlepckjmdjjolaaGreatDoorGPBackA
set_option linter.unusedVariables false
set_option linter.unusedSimpArgs false
namespace Go.Proofs.YtlepckjmdjjolaaGreatDoor.Pr
open Go.Lib (decDigits itoa)
open Lx (Tok)
def ends:List It:=[iS (sn [59]),iG [10]]
def eit (m:Nat) (es:List Tree) (i:Nat):List It:=match es[i]? with | some e=>eits m e 0 | none=>[]
def sits (m:Nat):Nat->Nat->Stm->List It
 | 0,_,_=>[]
 | n+1,d,s=>
   let blk:Nat->List Stm->List It:=fun d ss=>(ss.map fun x=>sits m n d x).flatten
   if s.kind=0 then [iG (tabs d),iS (kw kLocal),iG [32],iS (wd s.name),iG [32],iS (sn [61]),iG [32]]++eit m s.exprs 0++ends
   else if s.kind=1 then [iG (tabs d),iS (wd s.name),iG [32],iS (sn [61]),iG [32]]++eit m s.exprs 0++ends
   else if s.kind=2 then [iG (tabs d),iS (wd s.name),iS (sn [91])]++eit m s.exprs 0++[iS (sn [93]),iG [32],iS (sn [61]),iG [32]]++eit m s.exprs 1++ends
   else if s.kind=3 then [iG (tabs d),iS (kw kIf),iG [32],iS (sn [40])]++eit m s.exprs 0++[iS (sn [41]),iG [32],iS (sn [123]),iG [10]]++blk (d+1) s.body ++
    (if s.els.length=0 then [] else [iG (tabs d),iS (sn [125]),iG [32],iS (kw kElse),iG [32],iS (sn [123]),iG [10]]++blk (d+1) s.els)++[iG (tabs d),iS (sn [125]),iG [10]]
   else if s.kind=4 then [iG (tabs d),iS (kw kLoop),iG [32],iS (wd s.name),iG [32],iS (dg s.count.toNat),iG [32],iS (sn [123]),iG [10]]++blk (d+1) s.body++[iG (tabs d),iS (sn [125]),iG [10]]
   else if s.kind=5 then [iG (tabs d),iS (kw kTake),iG [32],iS (wd s.name)]++ends
   else if s.kind=6 then [iG (tabs d),iS (kw kGive),iG [32],iS (wd s.name)]++ends
   else if s.kind=7 then [iG (tabs d),iS (kw kAdd),iG [32],iS (wd s.name),iG [32]]++eit m s.exprs 0++ends
   else if s.kind=8 then [iG (tabs d),iS (kw kFence)]++ends
   else [iG (tabs d),iS (kw kOutput),iG [32]]++eit m s.exprs 0++ends
def bits (m n d:Nat) (ss:List Stm):List It:=(ss.map fun x=>sits m n d x).flatten
theorem sits_0 {m n d:Nat} {s:Stm} (h:s.kind=0):sits m (n+1) d s=[iG (tabs d),iS (kw kLocal),iG [32],iS (wd s.name),iG [32],iS (sn [61]),iG [32]]++eit m s.exprs 0++ends:=by unfold sits;simp only [h];rfl
theorem sits_1 {m n d:Nat} {s:Stm} (h:s.kind=1):sits m (n+1) d s=[iG (tabs d),iS (wd s.name),iG [32],iS (sn [61]),iG [32]]++eit m s.exprs 0++ends:=by unfold sits;simp only [h];rfl
theorem sits_2 {m n d:Nat} {s:Stm} (h:s.kind=2):sits m (n+1) d s=[iG (tabs d),iS (wd s.name),iS (sn [91])]++eit m s.exprs 0++[iS (sn [93]),iG [32],iS (sn [61]),iG [32]]++eit m s.exprs 1++ends:=by unfold sits;simp only [h];rfl
theorem sits_3 {m n d:Nat} {s:Stm} (h:s.kind=3):sits m (n+1) d s=[iG (tabs d),iS (kw kIf),iG [32],iS (sn [40])]++eit m s.exprs 0++[iS (sn [41]),iG [32],iS (sn [123]),iG [10]]++bits m n (d+1) s.body++(if s.els.length=0 then [] else [iG (tabs d),iS (sn [125]),iG [32],iS (kw kElse),iG [32],iS (sn [123]),iG [10]]++bits m n (d+1) s.els)++[iG (tabs d),iS (sn [125]),iG [10]]:=by unfold sits;simp only [h];rfl
theorem sits_4 {m n d:Nat} {s:Stm} (h:s.kind=4):sits m (n+1) d s=[iG (tabs d),iS (kw kLoop),iG [32],iS (wd s.name),iG [32],iS (dg s.count.toNat),iG [32],iS (sn [123]),iG [10]]++bits m n (d+1) s.body++[iG (tabs d),iS (sn [125]),iG [10]]:=by unfold sits;simp only [h];rfl
theorem sits_5 {m n d:Nat} {s:Stm} (h:s.kind=5):sits m (n+1) d s=[iG (tabs d),iS (kw kTake),iG [32],iS (wd s.name)]++ends:=by unfold sits;simp only [h];rfl
theorem sits_6 {m n d:Nat} {s:Stm} (h:s.kind=6):sits m (n+1) d s=[iG (tabs d),iS (kw kGive),iG [32],iS (wd s.name)]++ends:=by unfold sits;simp only [h];rfl
theorem sits_7 {m n d:Nat} {s:Stm} (h:s.kind=7):sits m (n+1) d s=[iG (tabs d),iS (kw kAdd),iG [32],iS (wd s.name),iG [32]]++eit m s.exprs 0++ends:=by unfold sits;simp only [h];rfl
theorem sits_8 {m n d:Nat} {s:Stm} (h:s.kind=8):sits m (n+1) d s=[iG (tabs d),iS (kw kFence)]++ends:=by unfold sits;simp only [h];rfl
theorem sits_9 {m n d:Nat} {s:Stm} (h:s.kind=9):sits m (n+1) d s=[iG (tabs d),iS (kw kOutput),iG [32]]++eit m s.exprs 0++ends:=by unfold sits;simp only [h];rfl
theorem bits_cons (m n d:Nat) (s:Stm) (ss:List Stm):bits m n d (s :: ss)=sits m n d s++bits m n d ss:=by simp [bits]
theorem flat_bits (m n d:Nat):∀ ss:List Stm,(∀ s ∈ ss,flat (sits m n d s)=stext m n d s)->flat (bits m n d ss)=btext m n d ss
 | [],_=>rfl
 | s :: ss,h=>by
   rw [bits_cons,flat_append,h s (by simp),flat_bits m n d ss (fun x hx=>h x (by simp [hx]))]
   simp [btext]
theorem eit_flat {m:Nat} {es:List Tree} {i:Nat} {e:Tree} (h:es[i]?=some e) (hg:gT m e):flat (eit m es i)=epart m es i 0:=by
 unfold eit;rw [h,epart_some h];exact eits_flat m e 0 hg
theorem flat_s (s:Sg) (is:List It):flat (iS s :: is)=s.text++flat is:=flat_cons _ _
theorem flat_g (g:List UInt8) (is:List It):flat (iG g :: is)=g++flat is:=flat_cons _ _
theorem sits_flat (m:Nat):∀ (n d:Nat) (s:Stm),gS m n s->flat (sits m n d s)=stext m n d s
 | 0,_,_,h=>h.elim
 | n+1,d,s,h=>by
   have hb:∀ (d:Nat) (ss:List Stm),(∀ x ∈ ss,gS m n x)->flat (bits m n d ss)=btext m n d ss:=fun d ss hs=>flat_bits m n d ss fun x hx=>sits_flat m n d x (hs x hx)
   rcases h with ⟨h,_,⟨e,he,hg⟩,_⟩ | ⟨h,_,⟨e,he,hg⟩,_⟩ | ⟨h,_,⟨a,b,he,ha,hb'⟩,_⟩ | ⟨h,_,⟨e,he,hg⟩,_,h1,h2⟩ | ⟨h,_,_,⟨c,hc,_⟩,h1,_⟩ | ⟨h,_⟩ | ⟨h,_⟩ | ⟨h,_,⟨e,he,hg⟩,_⟩ | ⟨h,_⟩ | ⟨h,_,⟨e,he,hg⟩,_⟩
   · have:=eit_flat (m:=m) (es:=s.exprs) (i:=0) (by rw [he];rfl) hg
     rw [sits_0 h,stext_0 m n d s h]
     simp only [flat_append,this]
     simp [flat_s,flat_g,flat_nil,valueT,kw,wd,sn,kLocal,sLocal,sIs,ends]
   · have:=eit_flat (m:=m) (es:=s.exprs) (i:=0) (by rw [he];rfl) hg
     rw [sits_1 h,stext_1 m n d s h]
     simp only [flat_append,this]
     simp [flat_s,flat_g,flat_nil,valueT,kw,wd,sn,sIs,ends]
   · have e0:=eit_flat (m:=m) (es:=s.exprs) (i:=0) (by rw [he];rfl) ha
     have e1:=eit_flat (m:=m) (es:=s.exprs) (i:=1) (by rw [he];rfl) hb'
     rw [sits_2 h,stext_2 m n d s h]
     simp only [flat_append,e0,e1]
     simp [flat_s,flat_g,flat_nil,cellText,kw,wd,sn,sIs,ends]
   · have:=eit_flat (m:=m) (es:=s.exprs) (i:=0) (by rw [he];rfl) hg
     rw [sits_3 h,stext_3 m n d s h]
     unfold choiceT
     have e3:flat (if s.els.length=0 then [] else [iG (tabs d),iS (sn [125]),iG [32],iS (kw kElse),iG [32],iS (sn [123]),iG [10]]++bits m n (d+1) s.els)=if s.els.length=0 then [] else lineT d sElse++btext m n (d+1) s.els:=by
      split
      · rfl
      · rw [flat_append,hb _ _ h2];simp [flat_s,flat_g,flat_nil,kw,sn,lineT,sElse,kElse]
     simp only [flat_append,this,hb _ _ h1,e3]
     simp [flat_s,flat_g,flat_nil,kw,wd,sn,sIf,kIf,sThen,lineT]
   · rw [sits_4 h,stext_4 m n d s h]
     simp only [flat_append,hb _ _ h1]
     have:itoa s.count=decDigits s.count.toNat:=by unfold itoa;rw [if_neg (by omega)]
     simp [flat_s,flat_g,flat_nil,kw,wd,sn,dg,sLoop,kLoop,lineT,this]
   · rw [stext_5 m n d s h,sits_5 h];simp [flat_append,flat_s,flat_g,flat_nil,kw,wd,sn,sTake,kTake,lineT,ends]
   · rw [stext_6 m n d s h,sits_6 h];simp [flat_append,flat_s,flat_g,flat_nil,kw,wd,sn,sGive,kGive,lineT,ends]
   · have:=eit_flat (m:=m) (es:=s.exprs) (i:=0) (by rw [he];rfl) hg
     rw [sits_7 h,stext_7 m n d s h]
     simp only [flat_append,this]
     simp [flat_s,flat_g,flat_nil,valueT,kw,wd,sn,kAdd,sAdd,ends]
   · rw [stext_8 m n d s h,sits_8 h];simp [flat_append,flat_s,flat_g,flat_nil,kw,wd,sn,sFence,kFence,lineT,ends]
   · have:=eit_flat (m:=m) (es:=s.exprs) (i:=0) (by rw [he];rfl) hg
     rw [sits_9 h,stext_9 m n d s (by rw [h];decide) (by rw [h];decide) (by rw [h];decide) (by rw [h];decide) (by rw [h];decide) (by rw [h];decide) (by rw [h];decide) (by rw [h];decide) (by rw [h];decide)]
     simp only [flat_append,this]
     simp [flat_s,flat_g,flat_nil,valueT,kw,wd,sn,kOutput,sOutput,ends]
theorem gap_tabs (d:Nat):isGap (tabs d):=by
 induction d with
 | zero=>exact gap_nil
 | succ d ih=>
   have e:tabs (d+1)=[9]++tabs d:=rfl
   rw [e];exact gap_append (gap_of (by decide) (by decide)) ih
theorem gap_line:isGap [10]:=gap_of (by decide) (by decide)
theorem ok_ends (l:List UInt8):okF ends l:=okF_s (reads_one (by decide) (by decide) _) (okF_g gap_line trivial)
theorem ok_kw {x:List UInt8} (h:(match x with | c :: _=>Lx.letterB (Lx.num c) | []=>false)=true) (h2:x.all (fun c=>Lx.wordB (Lx.num c))=true) (hk:Lx.keyB x=true) {is:List It} {l:List UInt8} (hs:soft (flat is++l)=true) (hi:okF is l):okF (iS (kw x) :: is) l:=
 okF_s (reads_kw (wordText_of h h2) hk hs) hi
theorem ok_wd {s:ByteArray} (h:isName s) {is:List It} {l:List UInt8} (hs:soft (flat is++l)=true) (hi:okF is l):okF (iS (wd s) :: is) l:=okF_s (reads_wd h hs) hi
theorem ok_one {c:UInt8} (h:c≠60/\c≠61/\c≠62) (hs:Lx.signList.contains c=true) {is:List It} {l:List UInt8} (hi:okF is l):okF (iS (sn [c]) :: is) l:=okF_s (reads_one h hs _) hi
theorem ok_is {is:List It} {l:List UInt8} (hi:okF is l):okF (iS (sn [61]) :: iG [32] :: is) l:=okF_s (reads_thin (by decide) _) (okF_g gap_blank hi)
theorem eit_ok {m:Nat} {es:List Tree} {i:Nat} {e:Tree} (h:es[i]?=some e) (hg:gT m e) {l:List UInt8} (hs:soft l=true):okF (eit m es i) l:=by unfold eit;rw [h];exact eits_ok m e 0 l hg hs
theorem bits_ok {m n d:Nat} : ∀ (ss:List Stm) (l:List UInt8),(∀ s ∈ ss,∀ l,okF (sits m n d s) l)->okF (bits m n d ss) l
 | [],_,_=>trivial
 | s :: ss,l,h=>by rw [bits_cons];exact okF_append _ _ _ (h s (by simp) _) (bits_ok ss l fun x hx=>h x (by simp [hx]))
theorem sits_ok (m:Nat):∀ (n d:Nat) (s:Stm) (l:List UInt8),gS m n s->okF (sits m n d s) l
 | 0,_,_,_,h=>h.elim
 | n+1,d,s,l,h=>by
   have hb:∀ (d:Nat) (ss:List Stm) (l:List UInt8),(∀ x ∈ ss,gS m n x)->okF (bits m n d ss) l:=fun d ss l hs=>bits_ok ss l fun x hx l=>sits_ok m n d x l (hs x hx)
   have ht:=gap_tabs d
   have hclose:∀ l,okF [iG (tabs d),iS (sn [125]),iG [10]] l:=fun l=>okF_g ht (ok_one (by decide) (by decide) (okF_g gap_line trivial))
   rcases h with ⟨h,hn,⟨e,he,hg⟩,_⟩ | ⟨h,hn,⟨e,he,hg⟩,_⟩ | ⟨h,hn,⟨a,b,he,ha,hb'⟩,_⟩ | ⟨h,_,⟨e,he,hg⟩,_,h1,h2⟩ | ⟨h,hn,_,⟨c,hc,_,hc2⟩,h1,_⟩ | ⟨h,hn,_⟩ | ⟨h,hn,_⟩ | ⟨h,hn,⟨e,he,hg⟩,_⟩ | ⟨h,_⟩ | ⟨h,_,⟨e,he,hg⟩,_⟩
   · have e0:∀ {l},soft l=true->okF (eit m s.exprs 0) l:=fun hl=>eit_ok (by rw [he];rfl) hg hl
     rw [sits_0 h]
     exact okF_append _ _ _ (okF_append _ _ _ (okF_g ht (ok_kw (by decide) (by decide) (by decide) rfl (okF_g gap_blank (ok_wd hn rfl (okF_g gap_blank (ok_is trivial)))))) (e0 rfl)) (ok_ends l)
   · have e0:∀ {l},soft l=true->okF (eit m s.exprs 0) l:=fun hl=>eit_ok (by rw [he];rfl) hg hl
     rw [sits_1 h]
     exact okF_append _ _ _ (okF_append _ _ _ (okF_g ht (ok_wd hn rfl (okF_g gap_blank (ok_is trivial)))) (e0 rfl)) (ok_ends l)
   · have e0:∀ {l},soft l=true->okF (eit m s.exprs 0) l:=fun hl=>eit_ok (by rw [he];rfl) ha hl
     have e1:∀ {l},soft l=true->okF (eit m s.exprs 1) l:=fun hl=>eit_ok (by rw [he];rfl) hb' hl
     rw [sits_2 h]
     exact okF_append _ _ _ (okF_append _ _ _ (okF_append _ _ _ (okF_append _ _ _ (okF_g ht (ok_wd hn rfl (ok_one (by decide) (by decide) trivial))) (e0 rfl)) (ok_one (by decide) (by decide) (okF_g gap_blank (ok_is trivial)))) (e1 rfl)) (ok_ends l)
   · have e0:∀ {l},soft l=true->okF (eit m s.exprs 0) l:=fun hl=>eit_ok (by rw [he];rfl) hg hl
     rw [sits_3 h]
     refine okF_append _ _ _ (okF_append _ _ _ (okF_append _ _ _ (okF_append _ _ _ (okF_append _ _ _ (okF_g ht (ok_kw (by decide) (by decide) (by decide) rfl (okF_g gap_blank (ok_one (by decide) (by decide) trivial)))) (e0 rfl)) (ok_one (by decide) (by decide) (okF_g gap_blank (ok_one (by decide) (by decide) (okF_g gap_line trivial))))) (hb _ _ _ h1)) ?_) (hclose l)
     split
     · trivial
     · exact okF_append _ _ _ (okF_g ht (ok_one (by decide) (by decide) (okF_g gap_blank (ok_kw (by decide) (by decide) (by decide) rfl (okF_g gap_blank (ok_one (by decide) (by decide) (okF_g gap_line trivial))))))) (hb _ _ _ h2)
   · rw [sits_4 h]
     exact okF_append _ _ _ (okF_append _ _ _ (okF_g ht (ok_kw (by decide) (by decide) (by decide) rfl (okF_g gap_blank (ok_wd hn rfl (okF_g gap_blank (okF_s (reads_dg (by omega) rfl) (okF_g gap_blank (ok_one (by decide) (by decide) (okF_g gap_line trivial))))))))) (hb _ _ _ h1)) (hclose l)
   · rw [sits_5 h]
     exact okF_append _ _ _ (okF_g ht (ok_kw (by decide) (by decide) (by decide) rfl (okF_g gap_blank (ok_wd hn rfl trivial)))) (ok_ends l)
   · rw [sits_6 h]
     exact okF_append _ _ _ (okF_g ht (ok_kw (by decide) (by decide) (by decide) rfl (okF_g gap_blank (ok_wd hn rfl trivial)))) (ok_ends l)
   · have e0:∀ {l},soft l=true->okF (eit m s.exprs 0) l:=fun hl=>eit_ok (by rw [he];rfl) hg hl
     rw [sits_7 h]
     exact okF_append _ _ _ (okF_append _ _ _ (okF_g ht (ok_kw (by decide) (by decide) (by decide) rfl (okF_g gap_blank (ok_wd hn rfl (okF_g gap_blank trivial))))) (e0 rfl)) (ok_ends l)
   · rw [sits_8 h]
     exact okF_append _ _ _ (okF_g ht (ok_kw (by decide) (by decide) (by decide) rfl trivial)) (ok_ends l)
   · have e0:∀ {l},soft l=true->okF (eit m s.exprs 0) l:=fun hl=>eit_ok (by rw [he];rfl) hg hl
     rw [sits_9 h]
     exact okF_append _ _ _ (okF_append _ _ _ (okF_g ht (ok_kw (by decide) (by decide) (by decide) rfl (okF_g gap_blank trivial))) (e0 rfl)) (ok_ends l)
def eqL {α : Type} (R : α -> α -> Prop) (a b:List α):Prop:=a.length=b.length/\∀ (i:Nat) (x y : α),a[i]?=some x->b[i]?=some y->R x y
theorem eqL_nil {α : Type} {R : α -> α -> Prop} : eqL R [] []:=⟨rfl,fun i x y h=>by simp at h⟩
theorem eqL_cons {α : Type} {R : α -> α -> Prop} {a b : α} {xs ys:List α} (h:R a b) (hs:eqL R xs ys):eqL R (a :: xs) (b :: ys):=⟨by simp [hs.1],fun i x y hx hy=>by
 cases i with
 | zero=>simp at hx hy;subst hx hy;exact h
 | succ i=>exact hs.2 i x y (by simpa using hx) (by simpa using hy)⟩
def eqS (m:Nat):Nat->Stm->Stm->Prop
 | 0,_,_=>False
 | n+1,s,t=>s.kind=t.kind/\s.name=t.name/\s.count=t.count/\eqL (eqT m) s.exprs t.exprs/\eqL (eqS m n) s.body t.body/\eqL (eqS m n) s.els t.els
def notElse (r:List Tok):Prop:=(r.headD (endT 0)).text≠kElse
theorem sits_head {m n d:Nat} {s:Stm} (h:gS m n s):∃ s0 ss,sgs (sits m n d s)=s0 :: ss/\s0.text≠[125]/\s0.text≠kElse/\s0.text≠[91]:=by
 cases n with
 | zero=>exact h.elim
 | succ n=>
   rcases h with ⟨h,hn,_⟩ | ⟨h,hn,_⟩ | ⟨h,hn,_⟩ | ⟨h,hn,_⟩ | ⟨h,hn,_⟩ | ⟨h,hn,_⟩ | ⟨h,hn,_⟩ | ⟨h,hn,_⟩ | ⟨h,hn,_⟩ | ⟨h,hn,_⟩
   · rw [sits_0 h];exact ⟨kw kLocal,_,rfl,by decide,by decide,by decide⟩
   · rw [sits_1 h];exact ⟨wd s.name,_,rfl,word_ne hn (by decide),name_ne_key hn (by decide),word_ne hn (by decide)⟩
   · rw [sits_2 h];exact ⟨wd s.name,_,rfl,word_ne hn (by decide),name_ne_key hn (by decide),word_ne hn (by decide)⟩
   · rw [sits_3 h];exact ⟨kw kIf,_,rfl,by decide,by decide,by decide⟩
   · rw [sits_4 h];exact ⟨kw kLoop,_,rfl,by decide,by decide,by decide⟩
   · rw [sits_5 h];exact ⟨kw kTake,_,rfl,by decide,by decide,by decide⟩
   · rw [sits_6 h];exact ⟨kw kGive,_,rfl,by decide,by decide,by decide⟩
   · rw [sits_7 h];exact ⟨kw kAdd,_,rfl,by decide,by decide,by decide⟩
   · rw [sits_8 h];exact ⟨kw kFence,_,rfl,by decide,by decide,by decide⟩
   · rw [sits_9 h];exact ⟨kw kOutput,_,rfl,by decide,by decide,by decide⟩
theorem eit_sgs {m:Nat} {es:List Tree} {i:Nat} {e:Tree} (h:es[i]?=some e):eit m es i=eits m e 0:=by unfold eit;rw [h]
def allOK (ss:List Sg):Prop:=∀ s ∈ ss,sOK s
theorem allOK_append {a b:List Sg} (ha:allOK a) (hb:allOK b):allOK (a++b):=fun s hs=>by
 rcases List.mem_append.1 hs with h | h
 · exact ha s h
 · exact hb s h
theorem allOK_cons {s:Sg} {b:List Sg} (ha:sOK s) (hb:allOK b):allOK (s :: b):=fun x hx=>by
 rcases List.mem_cons.1 hx with rfl | h
 · exact ha
 · exact hb x h
theorem allOK_nil:allOK []:=fun s hs=>by simp at hs
theorem bits_sok {m n d:Nat} : ∀ (ss:List Stm),(∀ s ∈ ss,allOK (sgs (sits m n d s)))->allOK (sgs (bits m n d ss))
 | [],_=>allOK_nil
 | s :: ss,h=>by rw [bits_cons,sgs_append];exact allOK_append (h s (by simp)) (bits_sok ss fun x hx=>h x (by simp [hx]))
theorem ends_sok:allOK (sgs ends):=allOK_cons (sn_ok (by simp)) allOK_nil
theorem sits_sok (m:Nat):∀ (n d:Nat) (s:Stm),gS m n s->allOK (sgs (sits m n d s))
 | 0,_,_,h=>h.elim
 | n+1,d,s,h=>by
   have hb:∀ (d:Nat) (ss:List Stm),(∀ x ∈ ss,gS m n x)->allOK (sgs (bits m n d ss)):=fun d ss hs=>bits_sok ss fun x hx=>sits_sok m n d x (hs x hx)
   have hclose:allOK (sgs [iG (tabs d),iS (sn [125]),iG [10]]):=allOK_cons (sn_ok (by simp)) allOK_nil
   rcases h with ⟨h,hn,⟨e,he,hg⟩,_⟩ | ⟨h,hn,⟨e,he,hg⟩,_⟩ | ⟨h,hn,⟨a,b,he,ha,hb'⟩,_⟩ | ⟨h,_,⟨e,he,hg⟩,_,h1,h2⟩ | ⟨h,hn,_,⟨c,hc,_,hc2⟩,h1,_⟩ | ⟨h,hn,_⟩ | ⟨h,hn,_⟩ | ⟨h,hn,⟨e,he,hg⟩,_⟩ | ⟨h,_⟩ | ⟨h,_,⟨e,he,hg⟩,_⟩
   · have e0:eit m s.exprs 0=eits m e 0:=eit_sgs (by rw [he];rfl)
     rw [sits_0 h,e0];simp only [sgs_append]
     exact allOK_append (allOK_append (allOK_cons (kw_ok (by decide)) (allOK_cons (wd_ok hn) (allOK_cons (sn_ok (by simp)) allOK_nil))) (eits_sok m e 0 hg)) ends_sok
   · have e0:eit m s.exprs 0=eits m e 0:=eit_sgs (by rw [he];rfl)
     rw [sits_1 h,e0];simp only [sgs_append]
     exact allOK_append (allOK_append (allOK_cons (wd_ok hn) (allOK_cons (sn_ok (by simp)) allOK_nil)) (eits_sok m e 0 hg)) ends_sok
   · have e0:eit m s.exprs 0=eits m a 0:=eit_sgs (by rw [he];rfl)
     have e1:eit m s.exprs 1=eits m b 0:=eit_sgs (by rw [he];rfl)
     rw [sits_2 h,e0,e1];simp only [sgs_append]
     exact allOK_append (allOK_append (allOK_append (allOK_append (allOK_cons (wd_ok hn) (allOK_cons (sn_ok (by simp)) allOK_nil)) (eits_sok m a 0 ha)) (allOK_cons (sn_ok (by simp)) (allOK_cons (sn_ok (by simp)) allOK_nil))) (eits_sok m b 0 hb')) ends_sok
   · have e0:eit m s.exprs 0=eits m e 0:=eit_sgs (by rw [he];rfl)
     rw [sits_3 h,e0];simp only [sgs_append]
     refine allOK_append (allOK_append (allOK_append (allOK_append (allOK_append (allOK_cons (kw_ok (by decide)) (allOK_cons (sn_ok (by simp)) allOK_nil)) (eits_sok m e 0 hg)) (allOK_cons (sn_ok (by simp)) (allOK_cons (sn_ok (by simp)) allOK_nil))) (hb _ _ h1)) ?_) hclose
     split
     · exact allOK_nil
     · simp only [sgs_append]
       exact allOK_append (allOK_cons (sn_ok (by simp)) (allOK_cons (kw_ok (by decide)) (allOK_cons (sn_ok (by simp)) allOK_nil))) (hb _ _ h2)
   · rw [sits_4 h];simp only [sgs_append]
     exact allOK_append (allOK_append (allOK_cons (kw_ok (by decide)) (allOK_cons (wd_ok hn) (allOK_cons (dg_ok _) (allOK_cons (sn_ok (by simp)) allOK_nil)))) (hb _ _ h1)) hclose
   · rw [sits_5 h];simp only [sgs_append]
     exact allOK_append (allOK_cons (kw_ok (by decide)) (allOK_cons (wd_ok hn) allOK_nil)) ends_sok
   · rw [sits_6 h];simp only [sgs_append]
     exact allOK_append (allOK_cons (kw_ok (by decide)) (allOK_cons (wd_ok hn) allOK_nil)) ends_sok
   · have e0:eit m s.exprs 0=eits m e 0:=eit_sgs (by rw [he];rfl)
     rw [sits_7 h,e0];simp only [sgs_append]
     exact allOK_append (allOK_append (allOK_cons (kw_ok (by decide)) (allOK_cons (wd_ok hn) allOK_nil)) (eits_sok m e 0 hg)) ends_sok
   · rw [sits_8 h];simp only [sgs_append]
     exact allOK_append (allOK_cons (kw_ok (by decide)) allOK_nil) ends_sok
   · have e0:eit m s.exprs 0=eits m e 0:=eit_sgs (by rw [he];rfl)
     rw [sits_9 h,e0];simp only [sgs_append]
     exact allOK_append (allOK_append (allOK_cons (kw_ok (by decide)) allOK_nil) (eits_sok m e 0 hg)) ends_sok
theorem tok_cons {us:List Tok} {k:Nat} {x:List UInt8} {v:Nat} {ss:List Sg} (h:us.map sgOf=Sg.mk k x v :: ss):∃ t ts,us=t :: ts/\t.kind=k/\t.text=x/\t.value=v/\ts.map sgOf=ss:=by
 obtain ⟨t,ts,rfl,h1,h2⟩:=List.map_eq_cons_iff.1 h
 exact ⟨t,ts,rfl,congrArg Sg.kind h1,congrArg Sg.text h1,congrArg Sg.value h1,h2⟩
theorem good_cons {t:Tok} {l:List Tok} (hk:t.kind≠0) (ht:t.text≠[]) (hl:goodL l):goodL (t :: l):=goodL.app (us:=[t]) (fun x hx=>by simp at hx;subst hx;exact ⟨hk,ht⟩) hl
theorem tight0 {t:Tok} {l:List Tok} {s:List UInt8} (h:t.text=s) (hs:tightN (opOf s)=0):tightAt (t :: l)=0:=by unfold tightAt;simp only [List.headD_cons];rw [h];exact hs
theorem notOpen_cons {t:Tok} {l:List Tok} {s:List UInt8} (h:t.text=s) (hs:s≠[91]):notOpen (t :: l):=by unfold notOpen;simp only [List.headD_cons];rw [h];exact hs
theorem ne_app {us r:List Tok} (h:r≠[]):us++r≠[]:=fun e=>h (by simp at e;exact e.2)
theorem value_back {m:Nat} {e:Tree} {deep:Nat} {us r:List Tok} (s:Stm) (hg:gT m e) (ht:tightAt r=0) (hu:us.map sgOf=sgs (eits m e 0)) (hr:goodL r) (ho:notOpen r) (hd:deep+1+dpE m e 0<=40):
    ∃ e',valueP deep s ⟨us++r,none⟩=({ s with exprs:=s.exprs++[e'] },⟨r,none⟩)/\eqT m e' e:=by
 obtain ⟨e',h,q⟩:=(back_all m).2.whole e 0 (40-deep) (deep+1) us r hg ht hu hr ho hd (by omega)
 exact ⟨e',by unfold valueP;rw [h],q⟩
theorem eqL_one {α : Type} {R : α -> α -> Prop} {a b : α} (h:R a b):eqL R [a] [b]:=eqL_cons h eqL_nil
def StC (m n:Nat):Prop:=∀ (s:Stm) (f deep d:Nat) (us r:List Tok),gS m n s->fitS m n deep s->us.map sgOf=sgs (sits m n d s)->goodL r->notElse r->41<=deep+f ->
 ∃ s',stP f deep ⟨us++r,none⟩=(s',⟨r,none⟩)/\eqS m n s' s
theorem blk_back {m n:Nat} (ih:StC m n) (f deep d:Nat) (z:Tok) (r:List Tok) (hz:z.text=[125]) (hzk:z.kind≠0) (hr:goodL r) (hf:41<=deep+f):∀ (ss:List Stm) (k:Nat) (acc:List Stm) (us:List Tok),(∀ s ∈ ss,gS m n s)->(∀ s ∈ ss,fitS m n deep s)->us.map sgOf=sgs (bits m n d ss)->us.length<k ->
    ∃ ss',blkLoop (stP f) deep k acc ⟨us++(z :: r),none⟩=(acc++ss',⟨r,none⟩)/\eqL (eqS m n) ss' ss
 | [],k,acc,us,_,_,hu,hk=>by
   obtain rfl:us=[]:=by simpa [bits,sgs] using hu
   obtain ⟨k,rfl⟩:∃ j,k=j+1:=⟨k-1,by omega⟩
   refine ⟨[],?_,eqL_nil⟩
   rw [blkLoop]
   simp only [List.nil_append,Option.isSome_none,Bool.false_eq_true,if_false,is_cons,hz,beq_self_eq_true,if_true,next_cons z hr.ne,List.append_nil]
 | s :: ss,k,acc,us,hg,hfit,hu,hk=>by
   have hzr:goodL (z :: r):=good_cons hzk (by rw [hz];simp) hr
   rw [bits_cons,sgs_append] at hu
   obtain ⟨ua,ub,rfl,hua,hub⟩:=List.map_eq_append_iff.1 hu
   have hgb:goodL (ub++(z :: r)):=hzr.app (toks_ok hub (bits_sok ss fun x hx=>sits_sok m n d x (hg x (by simp [hx]))))
   have hne:notElse (ub++(z :: r)):=by
     cases ss with
     | nil=>
       obtain rfl:ub=[]:=by simpa [bits,sgs] using hub
       unfold notElse;simp only [List.nil_append,List.headD_cons];rw [hz];decide
     | cons x xs=>
       obtain ⟨s0,rest,e,_,h2,_⟩:=sits_head (d:=d) (hg x (by simp))
       rw [bits_cons,sgs_append,e] at hub
       obtain ⟨t,ts,rfl,_,ht,_⟩:=tok_cons hub
       unfold notElse;simp only [List.cons_append,List.headD_cons];rw [ht];exact h2
   obtain ⟨s',es,qs⟩:=ih s f deep d ua (ub++(z :: r)) (hg s (by simp)) (hfit s (by simp)) hua hgb hne hf
   obtain ⟨s0,rest,e0,h125,_⟩:=sits_head (d:=d) (hg s (by simp))
   obtain ⟨k,rfl⟩:∃ j,k=j+1:=⟨k-1,by omega⟩
   have hlen:ub.length<k:=by
     have:0<ua.length:=by
        rw [e0] at hua
        obtain ⟨t,ts,rfl,_⟩:=tok_cons hua
        simp
     rw [List.length_append] at hk;omega
   obtain ⟨ss',ess,qss⟩:=blk_back ih f deep d z r hz hzk hr hf ss k (acc++[s']) ub (fun x hx=>hg x (by simp [hx])) (fun x hx=>hfit x (by simp [hx])) hub hlen
   refine ⟨s' :: ss',?_,eqL_cons qs qss⟩
   rw [blkLoop]
   have his:(⟨ua++(ub++(z :: r)),none⟩:Rd).is [125]=false:=by
     rw [e0] at hua
     obtain ⟨t,ts,rfl,_,ht,_⟩:=tok_cons hua
     rw [List.cons_append,is_cons,ht]
     simpa using h125
   simp only [List.append_assoc,Option.isSome_none,Bool.false_eq_true,if_false,his,es,ess]
   simp
theorem block_back {m n:Nat} (ih:StC m n) (f deep d:Nat) (o z:Tok) (r us:List Tok) (ss:List Stm) (ho:o.text=[123]) (hz:z.text=[125]) (hzk:z.kind≠0) (hr:goodL r) (hf:41<=deep+f) (hg:∀ s ∈ ss,gS m n s) (hfit:∀ s ∈ ss,fitS m n deep s) (hu:us.map sgOf=sgs (bits m n d ss)):
    ∃ ss',blockOf (stP f) deep ⟨o :: (us++(z :: r)),none⟩=(ss',⟨r,none⟩)/\eqL (eqS m n) ss' ss:=by
 obtain ⟨ss',e,q⟩:=blk_back ih f deep d z r hz hzk hr hf ss ((us++(z :: r)).length+1) [] us hg hfit hu (by simp;omega)
 refine ⟨ss',?_,q⟩
 unfold blockOf
 rw [want_cons (ne_app (by simp)) none ho]
 simpa using e
theorem kind_some {t:Tok} {k:Int} {x:List UInt8} (hk:t.kind=2) (ht:t.text=x) (h:kindP ⟨2,x,0,0⟩=some k):kindP t=some k:=by
 unfold kindP at h ⊢
 rw [hk,ht]
 exact h
theorem st_succ {m n:Nat} (ih:StC m n):StC m (n+1):=by
 intro s f deep d us r hg hfit hu hr he hf
 obtain ⟨hd,hfe,hfb,hfl⟩:=hfit
 obtain ⟨f,rfl⟩:∃ g,f=g+1:=⟨f-1,by omega⟩
 have hdeep:¬ 40<deep:=by omega
 show ∃ s',stmtOf (blockOf (stP f)) deep ⟨us++r,none⟩=_/\_
 have ends_split:∀ {xs:List Tok} {ss:List Sg},xs.map sgOf=ss++sgs ends->∃ ys z,xs=ys++[z]/\ys.map sgOf=ss/\z.text=[59]/\z.kind=4:=fun {xs ss} h=>by
    obtain ⟨ys,zs,rfl,h1,h2⟩:=List.map_eq_append_iff.1 h
    obtain ⟨z,zs',rfl,hk,ht,_,h3⟩:=tok_cons (show zs.map sgOf=sn [59] :: [] from h2)
    obtain rfl:zs'=[]:=by simpa using h3
    exact ⟨ys,z,rfl,h1,ht,hk⟩
 rcases hg with ⟨h,hn,⟨e,hx,hg⟩,hc,hb,hl⟩ | ⟨h,hn,⟨e,hx,hg⟩,hc,hb,hl⟩ | ⟨h,hn,⟨a,b,hx,ha,hb'⟩,hc,hb,hl⟩ | ⟨h,hn,⟨e,hx,hg⟩,hc,h1,h2⟩ | ⟨h,hn,hx,⟨c,hc,hc1,hc2⟩,h1,hl⟩ | ⟨h,hn,hx,hc,hb,hl⟩ | ⟨h,hn,hx,hc,hb,hl⟩ | ⟨h,hn,⟨e,hx,hg⟩,hc,hb,hl⟩ | ⟨h,hn,hx,hc,hb,hl⟩ | ⟨h,hn,⟨e,hx,hg⟩,hc,hb,hl⟩
 · rw [sits_0 h,eit_sgs (show s.exprs[0]?=some e by rw [hx];rfl),sgs_append,sgs_append] at hu
   obtain ⟨us,z,rfl,hu,hz,hzk⟩:=ends_split hu
   obtain ⟨t1,us,rfl,k1,x1,_,hu⟩:=tok_cons (show us.map sgOf=kw kLocal :: (wd s.name :: sn [61] :: sgs (eits m e 0)) from hu)
   obtain ⟨t2,us,rfl,k2,x2,_,hu⟩:=tok_cons hu
   obtain ⟨t3,us,rfl,k3,x3,_,hu⟩:=tok_cons hu
   have hzr:goodL (z :: r):=good_cons (by rw [hzk];decide) (by rw [hz];simp) hr
   have ek:kindP t1=some 0:=kind_some k1 x1 (by decide)
   obtain ⟨e',ev,q⟩:=value_back (r:=z :: r) ⟨0,bstr t2.text,[],0,[],[],t1.at_⟩ hg (tight0 hz (by decide)) hu hzr (notOpen_cons hz (by decide)) (hfe e (by rw [hx];simp))
   refine ⟨⟨0,bstr t2.text,[e'],0,[],[],t1.at_⟩,?_,⟨h.symm,by show bstr t2.text=_;rw [x2];exact bstr_bys _,hc.symm,by rw [hx];exact eqL_one q,by rw [hb];exact eqL_nil,by rw [hl];exact eqL_nil⟩⟩
   have e1:t1 :: t2 :: t3 :: us++[z]++r=t1 :: t2 :: t3 :: (us++(z :: r)):=by simp
   rw [e1]
   unfold stmtOf
   simp only [here_cons,ek,if_neg hdeep,next_cons t1 (show t2 :: t3 :: (us++(z :: r))≠[] by simp)]
   rw [if_neg (by decide),if_neg (by decide)]
   rw [simple_0 _ _ _ _ rfl]
   simp only [name_cons (show t3 :: (us++(z :: r))≠[] by simp) none k2,want_cons (show us++(z :: r)≠[] by simp) none x3,ev,want_cons hr.ne none hz,List.nil_append]
 · rw [sits_1 h,eit_sgs (show s.exprs[0]?=some e by rw [hx];rfl),sgs_append,sgs_append] at hu
   obtain ⟨us,z,rfl,hu,hz,hzk⟩:=ends_split hu
   obtain ⟨t1,us,rfl,k1,x1,_,hu⟩:=tok_cons (show us.map sgOf=wd s.name :: (sn [61] :: sgs (eits m e 0)) from hu)
   obtain ⟨t3,us,rfl,k3,x3,_,hu⟩:=tok_cons hu
   have hzr:goodL (z :: r):=good_cons (by rw [hzk];decide) (by rw [hz];simp) hr
   have ek:kindP t1=some 1:=by unfold kindP;rw [if_pos k1]
   obtain ⟨e',ev,q⟩:=value_back (r:=z :: r) ⟨1,bstr t1.text,[],0,[],[],t1.at_⟩ hg (tight0 hz (by decide)) hu hzr (notOpen_cons hz (by decide)) (hfe e (by rw [hx];simp))
   refine ⟨⟨1,bstr t1.text,[e'],0,[],[],t1.at_⟩,?_,⟨h.symm,by show bstr t1.text=_;rw [x1];exact bstr_bys _,hc.symm,by rw [hx];exact eqL_one q,by rw [hb];exact eqL_nil,by rw [hl];exact eqL_nil⟩⟩
   have e1:t1 :: t3 :: us++[z]++r=t1 :: t3 :: (us++(z :: r)):=by simp
   rw [e1]
   unfold stmtOf
   simp only [here_cons,ek,if_neg hdeep,next_cons t1 (show t3 :: (us++(z :: r))≠[] by simp)]
   rw [if_neg (by decide),if_neg (by decide)]
   rw [simple_1 _ _ _ _ rfl (by rw [is_cons,x3];decide)]
   simp only [want_cons (show us++(z :: r)≠[] by simp) none x3,ev,want_cons hr.ne none hz,List.nil_append]
 · rw [sits_2 h,eit_sgs (show s.exprs[0]?=some a by rw [hx];rfl),eit_sgs (show s.exprs[1]?=some b by rw [hx];rfl),sgs_append,sgs_append,sgs_append,sgs_append] at hu
   obtain ⟨us,z,rfl,hu,hz,hzk⟩:=ends_split hu
   have hu':us.map sgOf=wd s.name :: sn [91] :: (sgs (eits m a 0)++(sn [93] :: sn [61] :: sgs (eits m b 0))):=by simpa [sgs,iS,iG] using hu
   obtain ⟨t1,us,rfl,k1,x1,_,hu⟩:=tok_cons hu'
   obtain ⟨t2,us,rfl,k2,x2,_,hu⟩:=tok_cons hu
   obtain ⟨ua,us,rfl,hua,hu⟩:=List.map_eq_append_iff.1 hu
   obtain ⟨t3,us,rfl,k3,x3,_,hu⟩:=tok_cons hu
   obtain ⟨t4,us,rfl,k4,x4,_,hu⟩:=tok_cons hu
   have hzr:goodL (z :: r):=good_cons (by rw [hzk];decide) (by rw [hz];simp) hr
   have hub:goodL (us++(z :: r)):=hzr.app (toks_ok hu (eits_sok m b 0 hb'))
   have h34:goodL (t3 :: t4 :: (us++(z :: r))):=good_cons (by rw [k3];decide) (by rw [x3];simp [sn]) (good_cons (by rw [k4];decide) (by rw [x4];simp [sn]) hub)
   have ek:kindP t1=some 1:=by unfold kindP;rw [if_pos k1]
   obtain ⟨a',ea,qa⟩:=value_back (r:=t3 :: t4 :: (us++(z :: r))) ⟨2,bstr t1.text,[],0,[],[],t1.at_⟩ ha (tight0 x3 (by decide)) hua h34 (notOpen_cons x3 (by decide)) (hfe a (by rw [hx];simp))
   obtain ⟨b',eb,qb⟩:=value_back (r:=z :: r) ⟨2,bstr t1.text,[a'],0,[],[],t1.at_⟩ hb' (tight0 hz (by decide)) hu hzr (notOpen_cons hz (by decide)) (hfe b (by rw [hx];simp))
   refine ⟨⟨2,bstr t1.text,[a',b'],0,[],[],t1.at_⟩,?_,⟨h.symm,by show bstr t1.text=_;rw [x1];exact bstr_bys _,hc.symm,by rw [hx];exact eqL_cons qa (eqL_one qb),by rw [hb];exact eqL_nil,by rw [hl];exact eqL_nil⟩⟩
   have e1:t1 :: t2 :: (ua++t3 :: t4 :: us)++[z]++r=t1 :: t2 :: (ua++(t3 :: t4 :: (us++(z :: r)))):=by simp
   rw [e1]
   unfold stmtOf
   simp only [here_cons,ek,if_neg hdeep,next_cons t1 (show t2 :: (ua++(t3 :: t4 :: (us++(z :: r))))≠[] by simp)]
   rw [if_neg (by decide),if_neg (by decide)]
   rw [simple_2 _ _ _ _ rfl (by rw [is_cons,x2];decide)]
   simp only [next_cons t2 (show ua++(t3 :: t4 :: (us++(z :: r)))≠[] by simp),ea,want_cons (show t4 :: (us++(z :: r))≠[] by simp) none x3,want_cons (show us++(z :: r)≠[] by simp) none x4,List.nil_append,eb,want_cons hr.ne none hz,List.cons_append]
 · rw [sits_3 h,eit_sgs (show s.exprs[0]?=some e by rw [hx];rfl)] at hu
   have hu':us.map sgOf=kw kIf :: sn [40] :: (sgs (eits m e 0)++(sn [41] :: sn [123] :: (sgs (bits m n (d+1) s.body)++(sgs (if s.els.length=0 then [] else [iG (tabs d),iS (sn [125]),iG [32],iS (kw kElse),iG [32],iS (sn [123]),iG [10]]++bits m n (d+1) s.els)++[sn [125]])))):=by
    rw [hu];simp only [sgs_append];simp [sgs,iS,iG]
   clear hu
   obtain ⟨t1,us,rfl,k1,x1,_,hu⟩:=tok_cons hu'
   obtain ⟨t2,us,rfl,k2,x2,_,hu⟩:=tok_cons hu
   obtain ⟨ua,us,rfl,hua,hu⟩:=List.map_eq_append_iff.1 hu
   obtain ⟨t3,us,rfl,k3,x3,_,hu⟩:=tok_cons hu
   obtain ⟨t4,us,rfl,k4,x4,_,hu⟩:=tok_cons hu
   obtain ⟨ub,us,rfl,hub,hu⟩:=List.map_eq_append_iff.1 hu
   obtain ⟨ul,us,rfl,hul,hu⟩:=List.map_eq_append_iff.1 hu
   obtain ⟨z,us,rfl,hzk,hz,_,hu⟩:=tok_cons hu
   obtain rfl:us=[]:=by simpa using hu
   have ek:kindP t1=some 3:=kind_some k1 x1 (by decide)
   have hzr:goodL (z :: r):=good_cons (by rw [hzk];decide) (by rw [hz];simp [sn]) hr
   by_cases h0:s.els.length=0
   · have hel:s.els=[]:=List.length_eq_zero_iff.1 h0
     rw [if_pos h0] at hul
     obtain rfl:ul=[]:=by simpa [sgs] using hul
     have hb4:goodL (t4 :: (ub++(z :: r))):=good_cons (by rw [k4];decide) (by rw [x4];simp [sn]) (hzr.app (toks_ok hub (bits_sok _ fun x hx=>sits_sok m n _ x (h1 x hx))))
     have h3:goodL (t3 :: t4 :: (ub++(z :: r))):=good_cons (by rw [k3];decide) (by rw [x3];simp [sn]) hb4
     obtain ⟨e',ev,q⟩:=value_back (r:=t3 :: t4 :: (ub++(z :: r))) ⟨3,⟨#[]⟩,[],0,[],[],t1.at_⟩ hg (tight0 x3 (by decide)) hua h3 (notOpen_cons x3 (by decide)) (hfe e (by rw [hx];simp))
     obtain ⟨bs,eb,qb⟩:=block_back ih f (deep+1) (d+1) t4 z r ub s.body x4 hz (by rw [hzk];decide) hr (by omega) h1 hfb hub
     refine ⟨⟨3,⟨#[]⟩,[e'],0,bs,[],t1.at_⟩,?_,⟨h.symm,hn.symm,hc.symm,by rw [hx];exact eqL_one q,qb,by rw [hel];exact eqL_nil⟩⟩
     have e1:t1 :: t2 :: (ua++t3 :: t4 :: (ub++([]++[z])))++r=t1 :: t2 :: (ua++(t3 :: t4 :: (ub++(z :: r)))):=by simp
     rw [e1]
     unfold stmtOf
     simp only [here_cons,ek,if_neg hdeep,next_cons t1 (show t2 :: (ua++(t3 :: t4 :: (ub++(z :: r))))≠[] by simp),if_true]
     unfold choiceOf
     simp only [want_cons (show ua++(t3 :: t4 :: (ub++(z :: r)))≠[] by simp) none x2,ev,want_cons (show t4 :: (ub++(z :: r))≠[] by simp) none x3,eb]
     rw [if_neg (by
       have:=he
       unfold notElse at this
       simpa [Rd.is,Rd.here] using this)]
     simp
   · rw [if_neg h0] at hul
     have hul':ul.map sgOf=sn [125] :: kw kElse :: sn [123] :: sgs (bits m n (d+1) s.els):=by rw [hul];simp only [sgs_append];simp [sgs,iS,iG]
     obtain ⟨y1,ul,rfl,ky1,xy1,_,hul⟩:=tok_cons hul'
     obtain ⟨y2,ul,rfl,ky2,xy2,_,hul⟩:=tok_cons hul
     obtain ⟨y3,ul,rfl,ky3,xy3,_,hul⟩:=tok_cons hul
     have hl3:goodL (y3 :: (ul++(z :: r))):=good_cons (by rw [ky3];decide) (by rw [xy3];simp [sn]) (hzr.app (toks_ok hul (bits_sok _ fun x hx=>sits_sok m n _ x (h2 x hx))))
     have hl2:goodL (y2 :: y3 :: (ul++(z :: r))):=good_cons (by rw [ky2];decide) (by rw [xy2];simp [kw,kElse]) hl3
     have hl1:goodL (y1 :: y2 :: y3 :: (ul++(z :: r))):=good_cons (by rw [ky1];decide) (by rw [xy1];simp [sn]) hl2
     have hb4:goodL (t4 :: (ub++(y1 :: y2 :: y3 :: (ul++(z :: r))))):=good_cons (by rw [k4];decide) (by rw [x4];simp [sn]) (hl1.app (toks_ok hub (bits_sok _ fun x hx=>sits_sok m n _ x (h1 x hx))))
     have h3:goodL (t3 :: t4 :: (ub++(y1 :: y2 :: y3 :: (ul++(z :: r))))):=good_cons (by rw [k3];decide) (by rw [x3];simp [sn]) hb4
     obtain ⟨e',ev,q⟩:=value_back (r:=t3 :: t4 :: (ub++(y1 :: y2 :: y3 :: (ul++(z :: r))))) ⟨3,⟨#[]⟩,[],0,[],[],t1.at_⟩ hg (tight0 x3 (by decide)) hua h3 (notOpen_cons x3 (by decide)) (hfe e (by rw [hx];simp))
     obtain ⟨bs,eb,qb⟩:=block_back ih f (deep+1) (d+1) t4 y1 (y2 :: y3 :: (ul++(z :: r))) ub s.body x4 xy1 (by rw [ky1];decide) hl2 (by omega) h1 hfb hub
     obtain ⟨ls,el,ql⟩:=block_back ih f (deep+1) (d+1) y3 z r ul s.els xy3 hz (by rw [hzk];decide) hr (by omega) h2 hfl hul
     refine ⟨⟨3,⟨#[]⟩,[e'],0,bs,ls,t1.at_⟩,?_,⟨h.symm,hn.symm,hc.symm,by rw [hx];exact eqL_one q,qb,ql⟩⟩
     have e1:t1 :: t2 :: (ua++t3 :: t4 :: (ub++(y1 :: y2 :: y3 :: ul++[z])))++r=t1 :: t2 :: (ua++(t3 :: t4 :: (ub++(y1 :: y2 :: y3 :: (ul++(z :: r)))))):=by simp
     rw [e1]
     unfold stmtOf
     simp only [here_cons,ek,if_neg hdeep,next_cons t1 (show t2 :: (ua++(t3 :: t4 :: (ub++(y1 :: y2 :: y3 :: (ul++(z :: r))))))≠[] by simp),if_true]
     unfold choiceOf
     simp only [want_cons (show ua++(t3 :: t4 :: (ub++(y1 :: y2 :: y3 :: (ul++(z :: r)))))≠[] by simp) none x2,ev,want_cons (show t4 :: (ub++(y1 :: y2 :: y3 :: (ul++(z :: r))))≠[] by simp) none x3,eb,is_cons]
     rw [if_pos (by rw [xy2];decide)]
     simp only [next_cons y2 (show y3 :: (ul++(z :: r))≠[] by simp),el,List.nil_append]
 · rw [sits_4 h] at hu
   have hu':us.map sgOf=kw kLoop :: wd s.name :: dg s.count.toNat :: sn [123] :: (sgs (bits m n (d+1) s.body)++[sn [125]]):=by
    rw [hu];simp only [sgs_append];simp [sgs,iS,iG]
   clear hu
   obtain ⟨t1,us,rfl,k1,x1,_,hu⟩:=tok_cons hu'
   obtain ⟨t2,us,rfl,k2,x2,_,hu⟩:=tok_cons hu
   obtain ⟨t3,us,rfl,k3,x3,v3,hu⟩:=tok_cons hu
   obtain ⟨t4,us,rfl,k4,x4,_,hu⟩:=tok_cons hu
   obtain ⟨ub,us,rfl,hub,hu⟩:=List.map_eq_append_iff.1 hu
   obtain ⟨z,us,rfl,hzk,hz,_,hu⟩:=tok_cons hu
   obtain rfl:us=[]:=by simpa using hu
   have ek:kindP t1=some 4:=kind_some k1 x1 (by decide)
   have v3':t3.value=c:=by rw [v3];show s.count.toNat=c;omega
   obtain ⟨bs,eb,qb⟩:=block_back ih f (deep+1) (d+1) t4 z r ub s.body x4 hz (by rw [hzk];decide) hr (by omega) h1 hfb hub
   refine ⟨⟨4,bstr t2.text,[],(t3.value:Int),bs,[],t1.at_⟩,?_,⟨h.symm,by show bstr t2.text=_;rw [x2];exact bstr_bys _,by show (t3.value:Int)=_;rw [v3',hc],by rw [hx];exact eqL_nil,qb,by rw [hl];exact eqL_nil⟩⟩
   have e1:t1 :: t2 :: t3 :: t4 :: (ub++[z])++r=t1 :: t2 :: t3 :: t4 :: (ub++(z :: r)):=by simp
   rw [e1]
   unfold stmtOf
   simp only [here_cons,ek,if_neg hdeep,next_cons t1 (show t2 :: t3 :: t4 :: (ub++(z :: r))≠[] by simp)]
   rw [if_neg (by decide),if_pos trivial]
   simp only [name_cons (show t3 :: t4 :: (ub++(z :: r))≠[] by simp) none k2]
   have hnum:(⟨t3 :: t4 :: (ub++(z :: r)),none⟩:Rd).number 256=(t3.value,⟨t4 :: (ub++(z :: r)),none⟩):=by
    unfold Rd.number
    rw [here_cons,if_pos k3,if_neg (by rw [v3'];omega),next_cons t3 (by simp)]
   simp only [hnum,eb]
 · rw [sits_5 h,sgs_append] at hu
   obtain ⟨us,z,rfl,hu,hz,hzk⟩:=ends_split hu
   obtain ⟨t1,us,rfl,k1,x1,_,hu⟩:=tok_cons (show us.map sgOf=kw kTake :: (wd s.name :: []) from hu)
   obtain ⟨t2,us,rfl,k2,x2,_,hu⟩:=tok_cons hu
   obtain rfl:us=[]:=by simpa using hu
   have ek:kindP t1=some 5:=kind_some k1 x1 (by decide)
   refine ⟨⟨5,bstr t2.text,[],0,[],[],t1.at_⟩,?_,⟨h.symm,by show bstr t2.text=_;rw [x2];exact bstr_bys _,hc.symm,by rw [hx];exact eqL_nil,by rw [hb];exact eqL_nil,by rw [hl];exact eqL_nil⟩⟩
   have e1:[t1,t2]++[z]++r=t1 :: t2 :: (z :: r):=by simp
   rw [e1]
   unfold stmtOf
   simp only [here_cons,ek,if_neg hdeep,next_cons t1 (show t2 :: (z :: r)≠[] by simp)]
   rw [if_neg (by decide),if_neg (by decide)]
   rw [simple_5 _ _ _ _ rfl]
   simp only [name_cons (show (z :: r)≠[] by simp) none k2,want_cons hr.ne none hz]
 · rw [sits_6 h,sgs_append] at hu
   obtain ⟨us,z,rfl,hu,hz,hzk⟩:=ends_split hu
   obtain ⟨t1,us,rfl,k1,x1,_,hu⟩:=tok_cons (show us.map sgOf=kw kGive :: (wd s.name :: []) from hu)
   obtain ⟨t2,us,rfl,k2,x2,_,hu⟩:=tok_cons hu
   obtain rfl:us=[]:=by simpa using hu
   have ek:kindP t1=some 6:=kind_some k1 x1 (by decide)
   refine ⟨⟨6,bstr t2.text,[],0,[],[],t1.at_⟩,?_,⟨h.symm,by show bstr t2.text=_;rw [x2];exact bstr_bys _,hc.symm,by rw [hx];exact eqL_nil,by rw [hb];exact eqL_nil,by rw [hl];exact eqL_nil⟩⟩
   have e1:[t1,t2]++[z]++r=t1 :: t2 :: (z :: r):=by simp
   rw [e1]
   unfold stmtOf
   simp only [here_cons,ek,if_neg hdeep,next_cons t1 (show t2 :: (z :: r)≠[] by simp)]
   rw [if_neg (by decide),if_neg (by decide)]
   rw [simple_6 _ _ _ _ rfl]
   simp only [name_cons (show (z :: r)≠[] by simp) none k2,want_cons hr.ne none hz]
 · rw [sits_7 h,eit_sgs (show s.exprs[0]?=some e by rw [hx];rfl),sgs_append,sgs_append] at hu
   obtain ⟨us,z,rfl,hu,hz,hzk⟩:=ends_split hu
   obtain ⟨t1,us,rfl,k1,x1,_,hu⟩:=tok_cons (show us.map sgOf=kw kAdd :: (wd s.name :: sgs (eits m e 0)) from hu)
   obtain ⟨t2,us,rfl,k2,x2,_,hu⟩:=tok_cons hu
   have hzr:goodL (z :: r):=good_cons (by rw [hzk];decide) (by rw [hz];simp) hr
   have ek:kindP t1=some 7:=kind_some k1 x1 (by decide)
   obtain ⟨e',ev,q⟩:=value_back (r:=z :: r) ⟨7,bstr t2.text,[],0,[],[],t1.at_⟩ hg (tight0 hz (by decide)) hu hzr (notOpen_cons hz (by decide)) (hfe e (by rw [hx];simp))
   refine ⟨⟨7,bstr t2.text,[e'],0,[],[],t1.at_⟩,?_,⟨h.symm,by show bstr t2.text=_;rw [x2];exact bstr_bys _,hc.symm,by rw [hx];exact eqL_one q,by rw [hb];exact eqL_nil,by rw [hl];exact eqL_nil⟩⟩
   have e1:t1 :: t2 :: us++[z]++r=t1 :: t2 :: (us++(z :: r)):=by simp
   rw [e1]
   unfold stmtOf
   simp only [here_cons,ek,if_neg hdeep,next_cons t1 (show t2 :: (us++(z :: r))≠[] by simp)]
   rw [if_neg (by decide),if_neg (by decide)]
   rw [simple_7 _ _ _ _ rfl]
   simp only [name_cons (show us++(z :: r)≠[] by simp) none k2,ev,want_cons hr.ne none hz,List.nil_append]
 · rw [sits_8 h,sgs_append] at hu
   obtain ⟨us,z,rfl,hu,hz,hzk⟩:=ends_split hu
   obtain ⟨t1,us,rfl,k1,x1,_,hu⟩:=tok_cons (show us.map sgOf=kw kFence :: [] from hu)
   obtain rfl:us=[]:=by simpa using hu
   have ek:kindP t1=some 8:=kind_some k1 x1 (by decide)
   refine ⟨⟨8,⟨#[]⟩,[],0,[],[],t1.at_⟩,?_,⟨h.symm,hn.symm,hc.symm,by rw [hx];exact eqL_nil,by rw [hb];exact eqL_nil,by rw [hl];exact eqL_nil⟩⟩
   have e1:[t1]++[z]++r=t1 :: (z :: r):=by simp
   rw [e1]
   unfold stmtOf
   simp only [here_cons,ek,if_neg hdeep,next_cons t1 (show (z :: r)≠[] by simp)]
   rw [if_neg (by decide),if_neg (by decide)]
   rw [simple_8 _ _ _ _ rfl]
   simp only [want_cons hr.ne none hz]
 · rw [sits_9 h,eit_sgs (show s.exprs[0]?=some e by rw [hx];rfl),sgs_append,sgs_append] at hu
   obtain ⟨us,z,rfl,hu,hz,hzk⟩:=ends_split hu
   obtain ⟨t1,us,rfl,k1,x1,_,hu⟩:=tok_cons (show us.map sgOf=kw kOutput :: sgs (eits m e 0) from hu)
   have hzr:goodL (z :: r):=good_cons (by rw [hzk];decide) (by rw [hz];simp) hr
   have ek:kindP t1=some 9:=kind_some k1 x1 (by decide)
   obtain ⟨e',ev,q⟩:=value_back (r:=z :: r) ⟨9,⟨#[]⟩,[],0,[],[],t1.at_⟩ hg (tight0 hz (by decide)) hu hzr (notOpen_cons hz (by decide)) (hfe e (by rw [hx];simp))
   refine ⟨⟨9,⟨#[]⟩,[e'],0,[],[],t1.at_⟩,?_,⟨h.symm,hn.symm,hc.symm,by rw [hx];exact eqL_one q,by rw [hb];exact eqL_nil,by rw [hl];exact eqL_nil⟩⟩
   have e1:t1 :: us++[z]++r=t1 :: (us++(z :: r)):=by simp
   rw [e1]
   unfold stmtOf
   simp only [here_cons,ek,if_neg hdeep,next_cons t1 (show (us++(z :: r))≠[] by simp)]
   rw [if_neg (by decide),if_neg (by decide)]
   rw [simple_9 _ _ _ _ rfl]
   simp only [ev,want_cons hr.ne none hz,List.nil_append]
theorem st_back (m:Nat):∀ n,StC m n
 | 0=>fun _ _ _ _ _ _ h=>h.elim
 | n+1=>st_succ (st_back m n)
def labK (d:Dcl):List UInt8:=if d.label=0 then kPublic else kSecret
def sizeI (d:Dcl):List It:=if 0<d.size then [iS (sn [91]),iS (dg d.size.toNat),iS (sn [93])] else []
def byI (d:Dcl):List It:=if d.by_.size=0 then [] else [iG [32],iS (kw kBy),iG [32],iS (wd d.by_)]
def dits (d:Dcl):List It:=
 if d.lock=true then [iS (kw kLock),iG [32],iS (wd d.name)]++ends
 else [iS (kw (labK d)),iG [32],iS (wd d.name)]++(sizeI d++(byI d++ends))
def tits (m n:Nat) (ss:List Stm):List It:=[iS (kw kThread),iG [32],iS (sn [123]),iG [10]]++(bits m n 1 ss++[iS (sn [125]),iG [10]])
def pits (m n:Nat) (p:Prg):List It:=(p.decls.map dits).flatten++(p.threads.map (tits m n)).flatten
theorem name_pos {s:ByteArray} (h:isName s):s.size≠0:=by
 obtain ⟨⟨⟨c,r,e,_⟩,_⟩,_⟩:=h
 rw [<- bys_length,e];simp
theorem dits_flat (d:Dcl) (h:gD d):flat (dits d)=dtext d:=by
 obtain ⟨hn,⟨hl,_⟩ | ⟨hl,hlab,⟨k,hk,hk2⟩,hb⟩⟩:=h
 · unfold dits dtext
   rw [if_pos hl,if_pos hl]
   simp [flat_append,flat_s,flat_g,flat_nil,kw,wd,sn,sLock,kLock,lineT,ends,tabs]
 · unfold dits dtext
   rw [if_neg (by rw [hl];decide),if_neg (by rw [hl];decide)]
   have e1:flat (sizeI d)=if 0<d.size then [91]++itoa d.size++[93] else []:=by
    unfold sizeI
    split
    · have:itoa d.size=decDigits d.size.toNat:=by unfold itoa;rw [if_neg (by omega)]
      simp [flat_s,flat_nil,sn,dg,this]
    · rfl
   have e2:flat (byI d)=if d.by_.size=0 then [] else sBy++bys d.by_:=by
    unfold byI
    split
    · rfl
    · simp [flat_s,flat_g,flat_nil,kw,wd,kBy,sBy]
   have e3:flat [iS (kw (labK d)),iG [32],iS (wd d.name)]=(if d.label=0 then sPublic else sSecret)++bys d.name:=by
    unfold labK
    split <;> simp [flat_s,flat_g,flat_nil,kw,wd,kPublic,kSecret,sPublic,sSecret]
   simp only [flat_append,e1,e2,e3]
   simp [flat_s,flat_g,flat_nil,ends,sn]
theorem tits_flat (m n:Nat) (ss:List Stm) (h:∀ s ∈ ss,gS m n s):flat (tits m n ss)=ttext m n ss:=by
 unfold tits ttext
 have:=flat_bits m n 1 ss fun x hx=>sits_flat m n 1 x (h x hx)
 simp only [flat_append,this]
 simp [flat_s,flat_g,flat_nil,kw,sn,kThread,sThread,lineT,tabs]
theorem flat_map {α : Type} (f : α -> List It) (g : α -> List UInt8):∀ (l:List α),(∀ x ∈ l,flat (f x)=g x)->flat (l.map f).flatten=(l.map g).flatten
 | [],_=>rfl
 | x :: l,h=>by
   simp only [List.map_cons,List.flatten_cons,flat_append]
   rw [h x (by simp),flat_map f g l fun y hy=>h y (by simp [hy])]
theorem pits_flat (m n:Nat) (p:Prg) (h:gP m n p):flat (pits m n p)=ptext m n p:=by
 unfold pits ptext
 rw [flat_append,flat_map dits dtext p.decls fun d hd=>dits_flat d (h.d d hd),flat_map (tits m n) (ttext m n) p.threads fun ss hs=>tits_flat m n ss (h.s ss hs)]
theorem okF_map {α : Type} (f : α -> List It):∀ (l:List α) (r:List UInt8),(∀ x ∈ l,∀ r,okF (f x) r)->okF (l.map f).flatten r
 | [],_,_=>trivial
 | x :: l,r,h=>by
   simp only [List.map_cons,List.flatten_cons]
   exact okF_append _ _ _ (h x (by simp) _) (okF_map f l r fun y hy=>h y (by simp [hy]))
theorem dits_ok (d:Dcl) (l:List UInt8) (h:gD d):okF (dits d) l:=by
 obtain ⟨hn,⟨hl,_⟩ | ⟨hl,hlab,⟨k,hk,hk2⟩,hb⟩⟩:=h
 · unfold dits
   rw [if_pos hl]
   exact okF_append _ _ _ (ok_kw (by decide) (by decide) (by decide) rfl (okF_g gap_blank (ok_wd hn rfl trivial))) (ok_ends l)
 · unfold dits
   rw [if_neg (by rw [hl];decide)]
   have s2:soft (flat (byI d++ends)++l)=true:=by
    unfold byI
    split
    · rfl
    · rfl
   have s1:soft (flat (sizeI d++(byI d++ends))++l)=true:=by
    unfold sizeI
    split
    · rfl
    · exact s2
   have o3:okF (byI d++ends) l:=by
    unfold byI
    split
    · exact ok_ends l
    · rename_i hz
      rcases hb with hb | hb
      · rw [hb] at hz;exact absurd rfl hz
      · exact okF_append _ _ _ (okF_g gap_blank (ok_kw (by decide) (by decide) (by decide) rfl (okF_g gap_blank (ok_wd hb rfl trivial)))) (ok_ends l)
   have o2:okF (sizeI d++(byI d++ends)) l:=by
    unfold sizeI
    split
    · exact okF_append _ _ _ (ok_one (by decide) (by decide) (okF_s (reads_dg (by omega) rfl) (ok_one (by decide) (by decide) trivial))) o3
    · exact o3
   have hk:okF [iS (kw (labK d)),iG [32],iS (wd d.name)] (flat (sizeI d++(byI d++ends))++l):=by
    unfold labK
    split
    · exact ok_kw (by decide) (by decide) (by decide) rfl (okF_g gap_blank (ok_wd hn s1 trivial))
    · exact ok_kw (by decide) (by decide) (by decide) rfl (okF_g gap_blank (ok_wd hn s1 trivial))
   exact okF_append _ _ _ hk o2
theorem tits_ok (m n:Nat) (ss:List Stm) (l:List UInt8) (h:∀ s ∈ ss,gS m n s):okF (tits m n ss) l:=by
 unfold tits
 exact okF_append _ _ _ (ok_kw (by decide) (by decide) (by decide) rfl (okF_g gap_blank (ok_one (by decide) (by decide) (okF_g gap_line trivial)))) (okF_append _ _ _ (bits_ok ss _ fun x hx l=>sits_ok m n 1 x l (h x hx)) (ok_one (by decide) (by decide) (okF_g gap_line trivial)))
theorem pits_ok (m n:Nat) (p:Prg) (h:gP m n p):okF (pits m n p) []:=
 okF_append _ _ _ (okF_map dits _ _ fun d hd r=>dits_ok d r (h.d d hd)) (okF_map (tits m n) _ _ fun ss hs r=>tits_ok m n ss r (h.s ss hs))
theorem allOK_map {α : Type} (f : α -> List It):∀ (l:List α),(∀ x ∈ l,allOK (sgs (f x)))->allOK (sgs (l.map f).flatten)
 | [],_=>allOK_nil
 | x :: l,h=>by
   simp only [List.map_cons,List.flatten_cons,sgs_append]
   exact allOK_append (h x (by simp)) (allOK_map f l fun y hy=>h y (by simp [hy]))
theorem dits_sok (d:Dcl) (h:gD d):allOK (sgs (dits d)):=by
 obtain ⟨hn,⟨hl,_⟩ | ⟨hl,hlab,⟨k,hk,hk2⟩,hb⟩⟩:=h
 · unfold dits
   rw [if_pos hl,sgs_append]
   exact allOK_append (allOK_cons (kw_ok (by decide)) (allOK_cons (wd_ok hn) allOK_nil)) ends_sok
 · unfold dits
   rw [if_neg (by rw [hl];decide)]
   simp only [sgs_append]
   refine allOK_append (allOK_cons (kw_ok (by unfold labK;split <;> decide)) (allOK_cons (wd_ok hn) allOK_nil)) (allOK_append ?_ (allOK_append ?_ ends_sok))
   · unfold sizeI
     split
     · exact allOK_cons (sn_ok (by simp)) (allOK_cons (dg_ok _) (allOK_cons (sn_ok (by simp)) allOK_nil))
     · exact allOK_nil
   · unfold byI
     split
     · exact allOK_nil
     · rename_i hz
       rcases hb with hb | hb
       · rw [hb] at hz;exact absurd rfl hz
       · exact allOK_cons (kw_ok (by decide)) (allOK_cons (wd_ok hb) allOK_nil)
theorem tits_sok (m n:Nat) (ss:List Stm) (h:∀ s ∈ ss,gS m n s):allOK (sgs (tits m n ss)):=by
 unfold tits
 simp only [sgs_append]
 exact allOK_append (allOK_cons (kw_ok (by decide)) (allOK_cons (sn_ok (by simp)) allOK_nil)) (allOK_append (bits_sok ss fun x hx=>sits_sok m n 1 x (h x hx)) (allOK_cons (sn_ok (by simp)) allOK_nil))
def eqD (d e:Dcl):Prop:=d.lock=e.lock/\d.label=e.label/\d.name=e.name/\d.size=e.size/\d.by_=e.by_
theorem dits_head {d:Dcl} : ∃ x ss,sgs (dits d)=kw x :: ss/\(x=kLock\/x=kPublic\/x=kSecret):=by
 unfold dits
 split
 · exact ⟨kLock,_,rfl,.inl rfl⟩
 · refine ⟨labK d,_,rfl,?_⟩
   unfold labK
   split
   · exact .inr (.inl rfl)
   · exact .inr (.inr rfl)
theorem empty_size {s:ByteArray} (h:s=⟨#[]⟩\/isName s) (hz:s.size=0):s=⟨#[]⟩:=by
 rcases h with h | h
 · exact h
 · exact absurd hz (name_pos h)
theorem cells_back (d0 d:Dcl) (hn:isName d.name) (hb:d.by_=⟨#[]⟩\/isName d.by_) (k:Nat) (hk:d.size=k) (hk2:k<=64) (t:Tok) (us:List Tok) (z:Tok) (r:List Tok) (ht:t.kind=1) (htx:t.text=bys d.name) (hu:us.map sgOf=sgs (sizeI d)++sgs (byI d)) (hz:z.text=[59]) (h0:d0.by_=⟨#[]⟩):
    cellsP d0 ⟨t :: (us++(z :: r)),none⟩=({ d0 with name:=d.name,size:=d.size,by_:=d.by_ },⟨z :: r,none⟩):=by
 unfold cellsP
 obtain ⟨u1,u2,rfl,h1,h2⟩:=List.map_eq_append_iff.1 hu
 have hname:bstr (bys d.name)=d.name:=bstr_bys _
 have tail:∀ (x:Int),x=d.size->(if (⟨u2++(z :: r),none⟩:Rd).is kBy then (let b:=(⟨u2++(z :: r),none⟩:Rd).next.name;({ d0 with name:=bstr t.text,size:=x,by_:=bstr b.1 },b.2)) else ({ d0 with name:=bstr t.text,size:=x },⟨u2++(z :: r),none⟩))=(({ d0 with name:=d.name,size:=d.size,by_:=d.by_ } : Dcl),(⟨z :: r,none⟩:Rd)):=fun x hx=>by
    unfold byI at h2
    split at h2
    · rename_i hz0
      obtain rfl:u2=[]:=by simpa [sgs] using h2
      rw [List.nil_append,is_cons,hz,if_neg (by decide),htx,hname,hx,empty_size hb hz0,<- h0]
    · obtain ⟨b1,us',rfl,kb1,xb1,_,h3⟩:=tok_cons (show u2.map sgOf=kw kBy :: wd d.by_ :: [] from h2)
      obtain ⟨b2,us'',rfl,kb2,xb2,_,h4⟩:=tok_cons h3
      obtain rfl:us''=[]:=by simpa using h4
      rw [show [b1,b2]++(z :: r)=b1 :: b2 :: (z :: r) from rfl,is_cons,xb1,if_pos (by decide),next_cons b1 (by simp),name_cons (by simp) none kb2,htx,hname,hx,xb2]
      rfl
 rw [name_cons (ne_app (by simp)) none ht]
 simp only
 unfold sizeI at h1
 split at h1
 · rename_i hp
   obtain ⟨a1,us',rfl,ka1,xa1,_,h3⟩:=tok_cons (show u1.map sgOf=sn [91] :: dg d.size.toNat :: sn [93] :: [] from h1)
   obtain ⟨a2,us',rfl,ka2,xa2,va2,h3⟩:=tok_cons h3
   obtain ⟨a3,us',rfl,ka3,xa3,_,h3⟩:=tok_cons h3
   obtain rfl:us'=[]:=by simpa using h3
   have e1:[a1,a2,a3]++u2++(z :: r)=a1 :: a2 :: a3 :: (u2++(z :: r)):=by simp
   have hv:a2.value=d.size.toNat:=va2
   have hnum:(⟨a2 :: a3 :: (u2++(z :: r)),none⟩:Rd).number 64=(a2.value,⟨a3 :: (u2++(z :: r)),none⟩):=by
    unfold Rd.number
    rw [here_cons,if_pos ka2,if_neg (by rw [hv];omega),next_cons a2 (by simp)]
   rw [e1]
   simp only [is_cons,xa1,beq_self_eq_true,if_true,next_cons a1 (show a2 :: a3 :: (u2++(z :: r))≠[] by simp),hnum,want_cons (ne_app (us:=u2) (show z :: r≠[] by simp)) none xa3]
   exact tail _ (by rw [hv];omega)
 · rename_i hp
   obtain rfl:u1=[]:=by simpa [sgs] using h1
   have hno:(⟨u2++(z :: r),none⟩:Rd).is [91]=false:=by
    unfold byI at h2
    split at h2
    · obtain rfl:u2=[]:=by simpa [sgs] using h2
      rw [List.nil_append,is_cons,hz];decide
    · obtain ⟨b1,us',rfl,kb1,xb1,_,h3⟩:=tok_cons (show u2.map sgOf=kw kBy :: wd d.by_ :: [] from h2)
      rw [List.cons_append,is_cons,xb1];decide
   simp only [List.nil_append,hno,Bool.false_eq_true,if_false]
   exact tail 0 (by omega)
theorem ends_split {xs:List Tok} {ss:List Sg} (h:xs.map sgOf=ss++sgs ends):∃ ys z,xs=ys++[z]/\ys.map sgOf=ss/\z.text=[59]/\z.kind=4:=by
 obtain ⟨ys,zs,rfl,h1,h2⟩:=List.map_eq_append_iff.1 h
 obtain ⟨z,zs',rfl,hk,ht,_,h3⟩:=tok_cons (show zs.map sgOf=sn [59] :: [] from h2)
 obtain rfl:zs'=[]:=by simpa using h3
 exact ⟨ys,z,rfl,h1,ht,hk⟩
theorem decl_back (d:Dcl) (us r:List Tok) (h:gD d) (hu:us.map sgOf=sgs (dits d)) (hr:goodL r):∃ d',declP ⟨us++r,none⟩=(d',⟨r,none⟩)/\eqD d' d:=by
 obtain ⟨hn,⟨hl,h1,h2,h3⟩ | ⟨hl,hlab,⟨k,hk,hk2⟩,hb⟩⟩:=h
 · unfold dits at hu
   rw [if_pos hl,sgs_append] at hu
   obtain ⟨us,z,rfl,hu,hz,hzk⟩:=ends_split hu
   obtain ⟨t1,us,rfl,k1,x1,_,hu⟩:=tok_cons (show us.map sgOf=kw kLock :: (wd d.name :: []) from hu)
   obtain ⟨t2,us,rfl,k2,x2,_,hu⟩:=tok_cons hu
   obtain rfl:us=[]:=by simpa using hu
   refine ⟨⟨true,0,bstr t2.text,0,⟨#[]⟩,t1.at_⟩,?_,⟨hl.symm,h1.symm,by show bstr t2.text=_;rw [x2];exact bstr_bys _,h2.symm,h3.symm⟩⟩
   have e1:[t1,t2]++[z]++r=t1 :: t2 :: (z :: r):=by simp
   rw [e1]
   unfold declP
   simp only [here_cons,is_cons,x1,beq_self_eq_true,if_true,next_cons t1 (show t2 :: (z :: r)≠[] by simp),name_cons (show (z :: r)≠[] by simp) none k2,want_cons hr.ne none hz]
 · unfold dits at hu
   rw [if_neg (by rw [hl];decide)] at hu
   have hu':us.map sgOf=(kw (labK d) :: wd d.name :: (sgs (sizeI d)++sgs (byI d)))++sgs ends:=by
    rw [hu];simp only [sgs_append];simp [sgs,iS,iG]
   clear hu
   obtain ⟨us,z,rfl,hu,hz,hzk⟩:=ends_split hu'
   obtain ⟨t1,us,rfl,k1,x1,_,hu⟩:=tok_cons hu
   obtain ⟨t2,us,rfl,k2,x2,_,hu⟩:=tok_cons hu
   have e1:t1 :: t2 :: us++[z]++r=t1 :: t2 :: (us++(z :: r)):=by simp
   rw [e1]
   refine ⟨⟨false,d.label,d.name,d.size,d.by_,t1.at_⟩,?_,⟨hl.symm,rfl,rfl,rfl,rfl⟩⟩
   unfold declP
   simp only [here_cons,is_cons,x1,next_cons t1 (show t2 :: (us++(z :: r))≠[] by simp)]
   rcases hlab with hlab | hlab
   · have eK:labK d=kPublic:=by unfold labK;rw [if_pos hlab]
     rw [eK,if_neg (by decide),if_pos (by decide),cells_back _ d hn hb k hk hk2 t2 us z r k2 x2 hu hz rfl]
     simp only [want_cons hr.ne none hz]
     rw [hlab]
   · have eK:labK d=kSecret:=by unfold labK;rw [if_neg (by omega)]
     rw [eK,if_neg (by decide),if_neg (by decide),if_pos (by decide),cells_back _ d hn hb k hk hk2 t2 us z r k2 x2 hu hz rfl]
     simp only [want_cons hr.ne none hz]
     rw [hlab]
theorem declLoop_back (r:List Tok) (hr:goodL r) (hth:(r.headD (endT 0)).text=kThread):∀ (ds:List Dcl) (k:Nat) (acc:List Dcl) (us:List Tok),(∀ d ∈ ds,gD d)->us.map sgOf=sgs (ds.map dits).flatten->acc.length+ds.length<=64->ds.length<k ->
    ∃ ds',declLoop k acc ⟨us++r,none⟩=(acc++ds',⟨r,none⟩)/\eqL eqD ds' ds
 | [],k,acc,us,_,hu,_,hk=>by
   obtain rfl:us=[]:=by simpa [sgs] using hu
   obtain ⟨k,rfl⟩:∃ j,k=j+1:=⟨k-1,by simp at hk;omega⟩
   refine ⟨[],?_,eqL_nil⟩
   rw [declLoop]
   have his:(⟨r,none⟩:Rd).is kThread=true:=by unfold Rd.is Rd.here;rw [hth];decide
   simp only [List.nil_append,Option.isSome_none,Bool.false_eq_true,if_false,his,if_true,List.append_nil]
 | d :: ds,k,acc,us,hg,hu,hl,hk=>by
   simp only [List.map_cons,List.flatten_cons,sgs_append] at hu
   obtain ⟨ua,ub,rfl,hua,hub⟩:=List.map_eq_append_iff.1 hu
   have hgb:goodL (ub++r):=hr.app (toks_ok hub (allOK_map dits ds fun x hx=>dits_sok x (hg x (by simp [hx]))))
   obtain ⟨d',ed,qd⟩:=decl_back d ua (ub++r) (hg d (by simp)) hua hgb
   simp only [List.length_cons] at hl hk
   obtain ⟨k,rfl⟩:∃ j,k=j+1:=⟨k-1,by omega⟩
   obtain ⟨ds',eds,qds⟩:=declLoop_back r hr hth ds k (acc++[d']) ub (fun x hx=>hg x (by simp [hx])) hub (by simp;omega) (by omega)
   refine ⟨d' :: ds',?_,eqL_cons qd qds⟩
   have his:(⟨ua++(ub++r),none⟩:Rd).is kThread=false:=by
     obtain ⟨x,ss,e0,hx⟩:=dits_head (d:=d)
     rw [e0] at hua
     obtain ⟨t,ts,rfl,_,ht,_⟩:=tok_cons hua
     rw [List.cons_append,is_cons,ht]
     rcases hx with rfl | rfl | rfl <;> decide
   rw [declLoop]
   rw [List.append_assoc]
   simp only [Option.isSome_none,Bool.false_eq_true,if_false,his,if_neg (show ¬ acc.length=64 by omega),ed,eds]
   simp
theorem thr_back (m n:Nat) (ss:List Stm) (us r:List Tok) (hg:∀ s ∈ ss,gS m n s) (hf:∀ s ∈ ss,fitS m n 1 s) (hu:us.map sgOf=sgs (tits m n ss)) (hr:goodL r):
    ∃ ss',blockOf (stP 40) 1 ((⟨us++r,none⟩:Rd).want kThread)=(ss',⟨r,none⟩)/\eqL (eqS m n) ss' ss:=by
 unfold tits at hu
 have hu':us.map sgOf=kw kThread :: sn [123] :: (sgs (bits m n 1 ss)++[sn [125]]):=by
    rw [hu];simp only [sgs_append];simp [sgs,iS,iG]
 clear hu
 obtain ⟨t1,us,rfl,k1,x1,_,hu⟩:=tok_cons hu'
 obtain ⟨t2,us,rfl,k2,x2,_,hu⟩:=tok_cons hu
 obtain ⟨ub,us,rfl,hub,hu⟩:=List.map_eq_append_iff.1 hu
 obtain ⟨z,us,rfl,hzk,hz,_,hu⟩:=tok_cons hu
 obtain rfl:us=[]:=by simpa using hu
 obtain ⟨bs,eb,qb⟩:=block_back (st_back m n) 40 1 1 t2 z r ub ss x2 hz (by rw [hzk];decide) hr (by omega) hg hf hub
 refine ⟨bs,?_,qb⟩
 have e1:t1 :: t2 :: (ub++[z])++r=t1 :: t2 :: (ub++(z :: r)):=by simp
 rw [e1,want_cons (by simp) none x1,eb]
theorem end_good (e:Nat):goodL [endT e]:=⟨[],e,rfl,by simp⟩
theorem thrLoop_back (m n e:Nat):∀ (ts:List (List Stm)) (k:Nat) (acc:List (List Stm)) (us:List Tok),(∀ ss ∈ ts,∀ s ∈ ss,gS m n s)->(∀ ss ∈ ts,∀ s ∈ ss,fitS m n 1 s)->us.map sgOf=sgs (ts.map (tits m n)).flatten->acc.length+ts.length<=16->ts.length<k ->
    ∃ ts',thrLoop k acc ⟨us++[endT e],none⟩=(acc++ts',⟨[endT e],none⟩)/\eqL (eqL (eqS m n)) ts' ts
 | [],k,acc,us,_,_,hu,_,hk=>by
   obtain rfl:us=[]:=by simpa [sgs] using hu
   obtain ⟨k,rfl⟩:∃ j,k=j+1:=⟨k-1,by simp at hk;omega⟩
   refine ⟨[],?_,eqL_nil⟩
   rw [thrLoop]
   simp only [List.nil_append,Option.isSome_none,Bool.false_eq_true,if_false,here_cons,if_pos (show (endT e).kind=0 from rfl),List.append_nil]
 | ss :: ts,k,acc,us,hg,hf,hu,hl,hk=>by
   simp only [List.map_cons,List.flatten_cons,sgs_append] at hu
   obtain ⟨ua,ub,rfl,hua,hub⟩:=List.map_eq_append_iff.1 hu
   have hgb:goodL (ub++[endT e]):=(end_good e).app (toks_ok hub (allOK_map (tits m n) ts fun x hx=>tits_sok m n x (hg x (by simp [hx]))))
   obtain ⟨s',es,qs⟩:=thr_back m n ss ua (ub++[endT e]) (hg ss (by simp)) (hf ss (by simp)) hua hgb
   simp only [List.length_cons] at hl hk
   obtain ⟨k,rfl⟩:∃ j,k=j+1:=⟨k-1,by omega⟩
   obtain ⟨ts',ets,qts⟩:=thrLoop_back m n e ts k (acc++[s']) ub (fun x hx=>hg x (by simp [hx])) (fun x hx=>hf x (by simp [hx])) hub (by simp;omega) (by omega)
   refine ⟨s' :: ts',?_,eqL_cons qs qts⟩
   have hkind:¬ (⟨ua++(ub++[endT e]),none⟩:Rd).here.kind=0:=by
    unfold tits at hua
    obtain ⟨t,us',rfl,hk',_⟩:=tok_cons (show ua.map sgOf=kw kThread :: _ from hua)
    rw [List.cons_append,here_cons,hk'];decide
   rw [thrLoop]
   rw [List.append_assoc]
   simp only [Option.isSome_none,Bool.false_eq_true,if_false,if_neg hkind,if_neg (show ¬ acc.length=16 by omega),es,ets]
   simp
def eqP (m n:Nat) (p q:Prg):Prop:=eqL eqD p.decls q.decls/\eqL (eqL (eqS m n)) p.threads q.threads
theorem toks_back (m n:Nat) (p:Prg) (h:gP m n p) (us:List Tok) (e:Nat) (hu:us.map sgOf=sgs (pits m n p)):∃ q,progP (us++[endT e])=.ok q/\eqP m n q p:=by
 unfold pits at hu
 rw [sgs_append] at hu
 obtain ⟨ua,ub,rfl,hua,hub⟩:=List.map_eq_append_iff.1 hu
 have hgb:goodL (ub++[endT e]):=(end_good e).app (toks_ok hub (allOK_map (tits m n) _ fun x hx=>tits_sok m n x (h.s x hx)))
 have hth:((ub++[endT e]).headD (endT 0)).text=kThread:=by
    have h1:=h.t1
    cases ht:p.threads with
    | nil=>rw [ht] at h1;simp at h1
    | cons ss ts=>
      rw [ht] at hub
      simp only [List.map_cons,List.flatten_cons,sgs_append] at hub
      obtain ⟨uc,ud,rfl,huc,_⟩:=List.map_eq_append_iff.1 hub
      unfold tits at huc
      obtain ⟨t,us',rfl,_,hx,_⟩:=tok_cons (show uc.map sgOf=kw kThread :: _ from huc)
      simpa using hx
 obtain ⟨ds',ed,qd⟩:=declLoop_back (ub++[endT e]) hgb hth p.decls 65 [] ua h.d hua (by simpa using h.dl) (by have:=h.dl;omega)
 obtain ⟨ts',et,qt⟩:=thrLoop_back m n e p.threads 17 [] ub h.s h.f hub (by simpa using h.t2) (by have:=h.t2;omega)
 refine ⟨⟨ds',ts'⟩,?_,qd,qt⟩
 unfold progP declsP threadsP
 rw [List.append_assoc,ed]
 simp only [et,List.nil_append]
theorem items_back (m n:Nat) (p:Prg) (h:gP m n p) (is:List It) (ho:okF is []) (hs:sgs is=sgs (pits m n p)) (hl:(flat is).length<=65536):∃ q,parseP (flat is)=.ok q/\eqP m n q p:=by
 obtain ⟨q,e,hq⟩:=toks_back m n p h (toksAt 0 is) (flat is).length (by rw [toksAt_sgs,hs])
 refine ⟨q,?_,hq⟩
 unfold parseP
 rw [cut_items is ho hl]
 exact e
theorem text_back (m n:Nat) (p:Prg) (h:gP m n p) (hl:(ptext m n p).length<=65536):∃ q,parseP (ptext m n p)=.ok q/\eqP m n q p:=by
 rw [<- pits_flat m n p h] at hl ⊢
 exact items_back m n p h _ (pits_ok m n p h) rfl hl
end Go.Proofs.YtlepckjmdjjolaaGreatDoor.Pr
