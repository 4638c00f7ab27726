/- Own texts laid together: FlCount, FlNames. Conditions: as each theorem says. -/
import Derived.Test.YtlepckjmdjjolaaGreatDoorGFlA
import Derived.Test.YtlepckjmdjjolaaGreatDoorGPGd
import Derived.Test.YtlepckjmdjjolaaGreatDoorGTreeB
import Derived.Test.YtlepckjmdjjolaaGreatDoorGFlB
set_option linter.unusedVariables false
set_option linter.unusedSimpArgs false
namespace Go.Proofs.YtlepckjmdjjolaaGreatDoor.Fl
open Pr (gT gS gP)
theorem line_two (d:Nat) (l:List UInt8):l.length+1<=(lineT d l).length:=by simp [lineT] <;> omega
theorem value_two (m d:Nat) (l:List UInt8) (es:List Tree):l.length+2<=(valueT m d l es).length:=by simp [valueT];omega
theorem cnt_btext {m n:Nat} (ih:∀ d s,gS m n s->2*cntS n s<=(stext m n d s).length) (d:Nat):∀ (ss:List Stm),(∀ x ∈ ss,gS m n x)->2*tot (cntS n) ss<=(btext m n d ss).length
 | [],_=>by simp [tot]
 | s :: ss,h=>by
   have a:=cnt_btext ih d ss fun x hx=>h x (List.mem_cons_of_mem _ hx)
   have b:=ih d s (h s List.mem_cons_self)
   have e1:tot (cntS n) (s :: ss)=cntS n s+tot (cntS n) ss:=by simp [tot]
   have e2:(btext m n d (s :: ss)).length=(stext m n d s).length+(btext m n d ss).length:=by simp [btext]
   omega
theorem cnt_leaf {n:Nat} {s:Stm} (hb:s.body=[]) (he:s.els=[]):cntS (n+1) s=1:=by simp [cntS,hb,he,tot]
theorem cnt_text (m:Nat):∀ (n d:Nat) (s:Stm),gS m n s->2*cntS n s<=(stext m n d s).length
 | 0,d,s,h=>h.elim
 | n+1,d,s,h=>by
   have ih:=fun d s h=>cnt_text m n d s h
   rcases h with ⟨hk,_,_,_,hb,he⟩ | ⟨hk,_,_,_,hb,he⟩ | ⟨hk,_,_,_,hb,he⟩ | ⟨hk,_,_,_,hb,he⟩ | ⟨hk,_,_,_,hb,he⟩ | ⟨hk,_,_,_,hb,he⟩ | ⟨hk,_,_,_,hb,he⟩ | ⟨hk,_,_,_,hb,he⟩ | ⟨hk,_,_,_,hb,he⟩ | ⟨hk,_,_,_,hb,he⟩
   · rw [cnt_leaf hb he,stext_0 m n d s hk];have:=value_two m d (sLocal++bys s.name++sIs) s.exprs;omega
   · rw [cnt_leaf hb he,stext_1 m n d s hk];have:=value_two m d (bys s.name++sIs) s.exprs;omega
   · rw [cnt_leaf hb he,stext_2 m n d s hk];simp;omega
   · rw [stext_3 m n d s hk]
     have a:=cnt_btext ih (d+1) s.body hb
     have b:=cnt_btext ih (d+1) s.els he
     have c:=line_two d [125]
     have hi:sIf.length=4:=by decide
     show 2*(1+tot (cntS n) s.body+tot (cntS n) s.els)<=_
     unfold choiceT
     by_cases h0:s.els.length=0
     · have e0:s.els=[]:=List.length_eq_zero_iff.1 h0
       rw [e0] at b ⊢
       simp only [List.length_append,hi,List.length_nil,if_true]
       simp only [tot,List.map_nil,List.sum_nil]
       unfold tot at a
       omega
     · rw [if_neg h0]
       simp only [List.length_append,hi]
       omega
   · rw [stext_4 m n d s hk]
     have a:=cnt_btext ih (d+1) s.body hb
     have c:=line_two d [125]
     have c2:=line_two d (sLoop++bys s.name++[32]++Lib.itoa s.count++[32,123])
     show 2*(1+tot (cntS n) s.body+tot (cntS n) s.els)<=_
     rw [he]
     simp only [List.length_append]
     simp only [tot,List.map_nil,List.sum_nil]
     unfold tot at a
     simp only [List.length_append,List.length_cons,List.length_nil] at c c2 ⊢
     omega
   · rw [cnt_leaf hb he,stext_5 m n d s hk];have:=line_two d (sTake++bys s.name++[59]);simp at this ⊢;omega
   · rw [cnt_leaf hb he,stext_6 m n d s hk];have:=line_two d (sGive++bys s.name++[59]);simp at this ⊢;omega
   · rw [cnt_leaf hb he,stext_7 m n d s hk];have:=value_two m d (sAdd++bys s.name++[32]) s.exprs;omega
   · rw [cnt_leaf hb he,stext_8 m n d s hk];have:=line_two d sFence;have e:sFence.length=6:=by decide
     omega
   · rw [cnt_leaf hb he,stext_9 m n d s (by omega) (by omega) (by omega) (by omega) (by omega) (by omega) (by omega) (by omega) (by omega)];have:=value_two m d sOutput s.exprs;omega
theorem bys_len (s:ByteArray):(bys s).length=s.size:=by simp [bys]
theorem op_tight {o:Int} (h0:0<=o) (h9:o<=9):tightN o≠0:=by
 rcases (show o=0\/o=1\/o=2\/o=3\/o=4\/o=5\/o=6\/o=7\/o=8\/o=9 by omega) with rfl | rfl | rfl | rfl | rfl | rfl | rfl | rfl | rfl | rfl <;> decide
theorem nm_text:∀ (m:Nat) (t:Tree) (p B:Nat),gT m t->(etext m t p).length<=B->B<=35184372088832->nmE m t
 | 0,t,p,B,h,_,_=>h.elim
 | m+1,t,p,B,h,hl,hB=>by
   have ih:=fun t p h hl=>nm_text m t p B h hl hB
   rcases h with ⟨hk,_,hn,_,hs⟩ | ⟨hk,_,_,_,hs⟩ | ⟨hk,_,_,_,a,hs,ha⟩ | ⟨hk,h0,h9,hn,_,a,b,hs,ha,hb⟩ | ⟨hk,_,hn,_,a,hs,ha⟩ | ⟨hk,_,hn,_,a,b,c,hs,ha,hb,hc⟩
   · exact ⟨by rw [hn];exact Nat.zero_le _,by rw [hs];simp⟩
   · rw [etext_name _ _ _ hk,bys_len] at hl
     exact ⟨by omega,by rw [hs];simp⟩
   · rw [etext_cell _ _ _ hk,cellText,hs,epart_some (k:=a) rfl] at hl
     simp only [List.length_append,List.length_cons,List.length_nil,bys_len] at hl
     exact ⟨by omega,by rw [hs];simp;exact ih a 0 ha (by omega)⟩
   · rw [etext_bin _ _ _ hk,binTextAt,if_neg (op_tight h0 h9)] at hl
     have hl2:(binText m t).length<=B:=by
      split at hl
      · simp only [List.length_append,List.length_cons,List.length_nil] at hl;omega
      · exact hl
     rw [binText,hs,epart_some (k:=a) rfl,epart_some (k:=b) rfl] at hl2
     simp only [List.length_append,List.length_cons,List.length_nil] at hl2
     exact ⟨by rw [hn];exact Nat.zero_le _,by rw [hs];simp;exact ⟨ih a (tightN t.op) ha (by omega),ih b (tightN t.op+1) hb (by omega)⟩⟩
   · rw [etext_not _ _ _ hk,hs,epart_some (k:=a) rfl] at hl
     simp only [List.length_append,List.length_cons,List.length_nil] at hl
     exact ⟨by rw [hn];exact Nat.zero_le _,by rw [hs];simp;exact ih a 9 ha (by omega)⟩
   · rw [etext_pick _ _ _ hk,pickText,hs,epart_some (k:=a) rfl,epart_some (k:=b) rfl,epart_some (k:=c) rfl] at hl
     simp only [List.length_append,List.length_cons,List.length_nil] at hl
     exact ⟨by rw [hn];exact Nat.zero_le _,by rw [hs];simp;exact ⟨ih a 0 ha (by omega),ih b 0 hb (by omega),ih c 0 hc (by omega)⟩⟩
theorem value_len (m d:Nat) (x:List UInt8) (es:List Tree):(epart m es 0 0).length<=(valueT m d x es).length:=by simp [valueT];omega
theorem part_one {m B:Nat} {es:List Tree} {e:Tree} (hs:es=[e]) (hg:gT m e) (hl:(epart m es 0 0).length<=B) (hB:B<=35184372088832):∀ x ∈ es,nmE m x:=by
 subst hs
 rw [epart_some (k:=e) rfl] at hl
 intro x hx
 simp only [List.mem_singleton] at hx
 subst hx
 exact nm_text m _ 0 B hg hl hB
theorem mem_btext {m n d:Nat} {ss:List Stm} {x:Stm} (hx:x ∈ ss):(stext m n d x).length<=(btext m n d ss).length:=by
 unfold btext
 induction ss with
 | nil=>cases hx
 | cons s ss ih=>
   simp only [List.map_cons,List.flatten_cons,List.length_append]
   rcases List.mem_cons.1 hx with rfl | h
   · omega
   · have:=ih h;omega
theorem nm_stmt (m:Nat):∀ (n d:Nat) (s:Stm) (B:Nat),gS m n s->(stext m n d s).length<=B->B<=35184372088832->nmS m n s
 | 0,d,s,B,h,_,_=>h.elim
 | n+1,d,s,B,h,hl,hB=>by
   have ih:=fun d s h hl=>nm_stmt m n d s B h hl hB
   have none:∀ l:List Stm,l=[]->∀ t ∈ l,nmS m n t:=fun l e t ht=>by subst e;cases ht
   have nil:s.exprs=[]->∀ e ∈ s.exprs,nmE m e:=fun e x hx=>by rw [e] at hx;cases hx
   rcases h with ⟨hk,_,⟨e,hs,hg⟩,_,hb,he⟩ | ⟨hk,_,⟨e,hs,hg⟩,_,hb,he⟩ | ⟨hk,_,⟨a,b,hs,hg,hg2⟩,_,hb,he⟩ | ⟨hk,_,⟨e,hs,hg⟩,_,hb,he⟩ | ⟨hk,_,hs,_,hb,he⟩ | ⟨hk,_,hs,_,hb,he⟩ | ⟨hk,_,hs,_,hb,he⟩ | ⟨hk,_,⟨e,hs,hg⟩,_,hb,he⟩ | ⟨hk,_,hs,_,hb,he⟩ | ⟨hk,_,⟨e,hs,hg⟩,_,hb,he⟩
   · rw [stext_0 m n d s hk] at hl
     exact ⟨part_one hs hg (Nat.le_trans (value_len _ _ _ _) hl) hB,none _ hb,none _ he⟩
   · rw [stext_1 m n d s hk] at hl
     exact ⟨part_one hs hg (Nat.le_trans (value_len _ _ _ _) hl) hB,none _ hb,none _ he⟩
   · rw [stext_2 m n d s hk,cellText,hs,epart_some (k:=a) rfl,epart_some (k:=b) rfl] at hl
     simp only [List.length_append,List.length_cons,List.length_nil] at hl
     refine ⟨fun x hx=>?_,none _ hb,none _ he⟩
     rw [hs] at hx
     simp only [List.mem_cons,List.not_mem_nil,or_false] at hx
     rcases hx with rfl | rfl
     · exact nm_text m _ 0 B hg (by omega) hB
     · exact nm_text m _ 0 B hg2 (by omega) hB
   · rw [stext_3 m n d s hk,choiceT] at hl
     by_cases h0:s.els.length=0
     · rw [if_pos h0] at hl
       simp only [List.length_append,List.length_nil] at hl
       have e0:s.els=[]:=List.length_eq_zero_iff.1 h0
       exact ⟨part_one hs hg (by omega) hB,fun t ht=>ih (d+1) t (hb t ht) (by have:=mem_btext (m:=m) (n:=n) (d:=d+1) ht;omega),none _ e0⟩
     · rw [if_neg h0] at hl
       simp only [List.length_append] at hl
       exact ⟨part_one hs hg (by omega) hB,fun t ht=>ih (d+1) t (hb t ht) (by have:=mem_btext (m:=m) (n:=n) (d:=d+1) ht;omega),fun t ht=>ih (d+1) t (he t ht) (by have:=mem_btext (m:=m) (n:=n) (d:=d+1) ht;omega)⟩
   · rw [stext_4 m n d s hk] at hl
     simp only [List.length_append] at hl
     exact ⟨nil hs,fun t ht=>ih (d+1) t (hb t ht) (by have:=mem_btext (m:=m) (n:=n) (d:=d+1) ht;omega),none _ he⟩
   · exact ⟨nil hs,none _ hb,none _ he⟩
   · exact ⟨nil hs,none _ hb,none _ he⟩
   · rw [stext_7 m n d s hk] at hl
     exact ⟨part_one hs hg (Nat.le_trans (value_len _ _ _ _) hl) hB,none _ hb,none _ he⟩
   · exact ⟨nil hs,none _ hb,none _ he⟩
   · rw [stext_9 m n d s (by omega) (by omega) (by omega) (by omega) (by omega) (by omega) (by omega) (by omega) (by omega)] at hl
     exact ⟨part_one hs hg (Nat.le_trans (value_len _ _ _ _) hl) hB,none _ hb,none _ he⟩
theorem mem_threads {m n:Nat} {p:Prg} {ss:List Stm} (hs:ss ∈ p.threads):(btext m n 1 ss).length<=(ptext m n p).length:=by
 have key:∀ ts:List (List Stm),ss ∈ ts->(btext m n 1 ss).length<=((ts.map fun ss=>ttext m n ss).flatten).length:=fun ts h=>by
  induction ts with
  | nil=>cases h
  | cons t ts ih=>
    simp only [List.map_cons,List.flatten_cons,List.length_append]
    rcases List.mem_cons.1 h with rfl | h
    · simp only [ttext,List.length_append];omega
    · have:=ih h;omega
 have:=key p.threads hs
 simp only [ptext,List.length_append]
 omega
theorem nm_prog {m n:Nat} {p:Prg} (h:gP m n p) {B:Nat} (hl:(ptext m n p).length<=B) (hB:B<=35184372088832):∀ ss ∈ p.threads,∀ s ∈ ss,nmS m n s:=fun ss hs s hx=>
 nm_stmt m n 1 s B (h.s ss hs s hx) (by have:=mem_btext (m:=m) (n:=n) (d:=1) hx;have:=mem_threads (m:=m) (n:=n) hs;omega) hB
theorem cnt_prog {m n:Nat} {p:Prg} (h:gP m n p):2*(p.threads.map (tot (cntS n))).sum<=(ptext m n p).length:=by
 have key:∀ ts:List (List Stm),(∀ ss ∈ ts,∀ s ∈ ss,gS m n s)->2*(ts.map (tot (cntS n))).sum<=((ts.map fun ss=>ttext m n ss).flatten).length:=fun ts h=>by
  induction ts with
  | nil=>simp
  | cons t ts ih=>
    have a:=ih fun ss hs=>h ss (List.mem_cons_of_mem _ hs)
    have b:=cnt_btext (m:=m) (n:=n) (fun d s h=>cnt_text m n d s h) 1 t (h t List.mem_cons_self)
    simp only [List.map_cons,List.flatten_cons,List.length_append,List.sum_cons,ttext]
    simp only [ttext] at a
    omega
 have:=key p.threads h.s
 simp only [ptext,List.length_append]
 omega
end Go.Proofs.YtlepckjmdjjolaaGreatDoor.Fl
