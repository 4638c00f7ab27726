/- Own texts laid together: PRead, PRead2, PExprA, PExprB, PExprC. Conditions: as each theorem says. -/
import Derived.Test.YtlepckjmdjjolaaGreatDoorGPGd
import Derived.Test.YtlepckjmdjjolaaGreatDoorGLxB
import Derived.Test.YtlepckjmdjjolaaGreatDoorGBits
import Derived.BigRegion
set_option maxHeartbeats 4000000
set_option maxRecDepth 100000
set_option linter.unusedVariables false
set_option linter.unusedSimpArgs false
namespace Go.Proofs.YtlepckjmdjjolaaGreatDoor.Pr
open Go.ChangeShapes Go.WideShapes Go.ChangeAt Go.RowKit
open Lx (Tok)
def fitT (t:Tok):Prop:=t.kind<=4/\t.text.length<=65536/\t.value<18446744073709551616/\t.at_<=65536
def TokAt (w:World) (g o:Nat) (t:Tok):Prop:=
 w.cell? ⟨g,o,none⟩=some (.int .i64 (t.kind:Int))/\w.cell? ⟨g,o+1,none⟩=some (.string (bstr t.text))/\w.cell? ⟨g,o+2,none⟩=some (.int .u64 (t.value:Int))/\w.cell? ⟨g,o+3,none⟩=some (.int .i64 (t.at_:Int))
def ToksAt (w:World) (g off:Nat) (ts:List Tok):Prop:=
 (∃ cs fr,w.heap[g]?=some (.cells cs 147 fr))/\∀ (i:Nat) (t:Tok),ts[i]?=some t->fitT t/\TokAt w g (off+i*4) t
def ErrAt (w:World) (v:Value):Option (Nat × Nat)->Prop
 | none=>v=.nilIface
 | some e=>∃ fb,v=.iface 124 (.pointer (some ⟨fb,0,none⟩))/\w.heap[fb]?=some (.cells #[.int .i64 (e.2:Int),.iface 65 (.int .i64 (e.1:Int))] 127 (0,0))
def signCells:Array Value:=(signs10.map fun s=>Value.string (bstr s)).toArray
def RdAt (B br:Nat) (r:Rd) (w:World):Prop:=
 B<=br/\r.good/\r.ts.length<=65537/\∃ g off cap sg ev,w.heap[br]?=some (.cells #[.slice (some ⟨g,off,none⟩) r.ts.length cap,.slice (some ⟨sg,0,none⟩) 10 10,ev] 85 (0,0))/\r.ts.length<=cap/\cap<=9223372036854775807/\ToksAt w g off r.ts /\
  w.heap[sg]?=some (.cells signCells 9 (0,0))/\ErrAt w ev r.err
theorem RdAt.lt {B br:Nat} {r:Rd} {w:World} (h:RdAt B br r w):br<w.heap.size:=by
 obtain ⟨_,_,_,g,off,cap,sg,ev,hb,_⟩:=h
 exact heap_lt hb
theorem RdAt.base {B br:Nat} {r:Rd} {w:World} (h:RdAt B br r w):B<=w.heap.size:=by have:=h.lt;have:=h.1;omega
theorem ToksAt.same {w w':World} {g off:Nat} {ts:List Tok} (h:ToksAt w g off ts) (hs:w'.heap[g]?=w.heap[g]?):ToksAt w' g off ts:=by
 obtain ⟨⟨cs,fr,hg⟩,ht⟩:=h
 refine ⟨⟨cs,fr,hs.trans hg⟩,fun i t hi=>?_⟩
 obtain ⟨hf,a,b,c,d⟩:=ht i t hi
 have key:∀ o,w'.cell? ⟨g,o,none⟩=w.cell? ⟨g,o,none⟩:=fun o=>World.cell?_of_block hs
 exact ⟨hf,(key _).trans a,(key _).trans b,(key _).trans c,(key _).trans d⟩
theorem ErrAt.same {w w':World} {v:Value} {e:Option (Nat × Nat)} (h:ErrAt w v e) (hs:∀ (fb:Nat) (cs:Array Value) (fr:Nat × Nat),w.heap[fb]?=some (.cells cs 127 fr)->w'.heap[fb]?=w.heap[fb]?):ErrAt w' v e:=by
 cases e with
 | none=>exact h
 | some e=>obtain ⟨fb,e1,e2⟩:=h;exact ⟨fb,e1,(hs fb _ _ e2).trans e2⟩
def rdType (t:TypeId):Prop:=t=85\/t=147\/t=9\/t=127
theorem RdAt.keep {B br:Nat} {r:Rd} {w w':World} (h:RdAt B br r w) (hs:∀ (k:Nat) (cs:Array Value) (t:TypeId) (fr:Nat × Nat),w.heap[k]?=some (.cells cs t fr)->rdType t->w'.heap[k]?=w.heap[k]?):RdAt B br r w':=by
 obtain ⟨h1,h2,h3,g,off,cap,sg,ev,hb,hc,hc2,ht,hsg,he⟩:=h
 obtain ⟨⟨cs,fr,hg⟩,_⟩:=id ht
 refine ⟨h1,h2,h3,g,off,cap,sg,ev,(hs _ _ _ _ hb (Or.inl rfl)).trans hb,hc,hc2,ht.same (hs _ _ _ _ hg (Or.inr (Or.inl rfl))),(hs _ _ _ _ hsg (Or.inr (Or.inr (Or.inl rfl)))).trans hsg,he.same fun fb cs fr hf=>hs _ _ _ _ hf (Or.inr (Or.inr (Or.inr rfl)))⟩
theorem RdAt.below {B br:Nat} {r:Rd} {w w':World} (h:RdAt B br r w) (hb:Below w.heap.size w w'):RdAt B br r w':=h.keep fun k cs t fr hk _=>hb.block k (heap_lt hk)
theorem RdAt.alloc {B br:Nat} {r:Rd} {w:World} (h:RdAt B br r w) (o:Obj):RdAt B br r (w.alloc o):=h.below ((Below.refl _ _).alloc (Nat.le_refl _) o)
theorem RdAt.step {B br:Nat} {r:Rd} {w w':World} {j:Nat} {cs:Array Value} {t:TypeId} {fr:Nat × Nat} (h:RdAt B br r w) (hg:w.grownBy w' (some j)) (hj:w.heap[j]?=some (.cells cs t fr)) (ht:¬ rdType t):RdAt B br r w':=
 h.keep fun k cs' t' fr' hk hr=>hg.block k (heap_lt hk) (fun e=>by simp only [Option.some.injEq] at e;subst e;rw [hj] at hk;cases hk;exact ht hr)
theorem RdAt.set {B br:Nat} {r:Rd} {w:World} {j:Nat} {cs:Array Value} {t:TypeId} {fr:Nat × Nat} (h:RdAt B br r w) (hj:w.heap[j]?=some (.cells cs t fr)) (ht:¬ rdType t) (o:Nat) (u:Value):RdAt B br r (w.setCell ⟨j,o,none⟩ u):=h.step (set_grown w j o u) hj ht
theorem good_head {r:Rd} (h:r.good):r.ts[0]?=some r.here:=by
 rw [h.cons];rfl
theorem three_cells {w:World} {k:Nat} {t:TypeId} {x0 x1 x2:Value} (h:w.heap[k]?=some (.cells #[x0,x1,x2] t (0,0))):
    w.cell? ⟨k,0,none⟩=some x0/\w.cell? ⟨k,1,none⟩=some x1/\w.cell? ⟨k,2,none⟩=some x2:=by
 refine ⟨?_,?_,?_⟩ <;> (rw [Lib.cell_of_heap h];rfl)
theorem here_any (B br:Nat) (r:Rd) (w:World) (h:RdAt B br r w):
    Calls Tryz.prog 59 #[.pointer (some ⟨br,0,none⟩)] w fun e w'=>e=.returned (.agg #[.int .i64 (r.here.kind:Int),.string (bstr r.here.text),.int .u64 (r.here.value:Int),.int .i64 (r.here.at_:Int)]) /\
     w'=w.alloc (.cells #[.int .i64 (r.here.kind:Int),.string (bstr r.here.text),.int .u64 (r.here.value:Int),.int .i64 (r.here.at_:Int)] 147):=by
 obtain ⟨h1,h2,h3,g,off,cap,sg,ev,hb,hc,hc2,ht,hsg,he⟩:=h
 obtain ⟨hf,a,b,c,d⟩:=ht.2 0 r.here (good_head h2)
 have hlt:=heap_lt hb
 obtain ⟨⟨cs,fr,hgg⟩,_⟩:=ht
 have hglt:=heap_lt hgg
 obtain ⟨b0,b1,b2⟩:=three_cells hb
 have hpos:=h2.pos
 simp only [Nat.zero_mul,Nat.add_zero] at a b c d
 generalize r.here=T at *
 clear hb hsg he h2 hgg
 go_enter Tryz.func59,Tryz.ntmps59
 go_wp2
 exact bodyPost_ret (v:=.agg #[.int .i64 (T.kind:Int),.string (bstr T.text),.int .u64 (T.value:Int),.int .i64 (T.at_:Int)]) (by simp [results,Tryz.results59,go_sem]) rfl ⟨rfl,rfl⟩
theorem RdAt.moved {B br:Nat} {r:Rd} {w:World} (h:RdAt B br r w) (k:Nat) (hk:k<r.ts.length) (e:Option (Nat × Nat)) (he:e=r.err) (hg:(⟨r.ts.drop k,e⟩:Rd).good) {g off cap sg:Nat} {ev:Value}
    (hb:w.heap[br]?=some (.cells #[.slice (some ⟨g,off,none⟩) r.ts.length cap,.slice (some ⟨sg,0,none⟩) 10 10,ev] 85 (0,0))):
    RdAt B br ⟨r.ts.drop k,e⟩ (w.setCell ⟨br,0,none⟩ (.slice (some ⟨g,off+k*4,none⟩) (r.ts.length-k) (cap-k))):=by
 obtain ⟨h1,h2,h3,g',off',cap',sg',ev',hb',hc,hc2,ht,hsg,her⟩:=h
 rw [hb] at hb'
 simp only [Option.some.injEq,Obj.cells.injEq,Array.mk.injEq,List.cons.injEq,Value.slice.injEq,Addr.mk.injEq,and_true,true_and] at hb'
 obtain ⟨⟨⟨rfl,rfl⟩,rfl⟩,rfl,rfl⟩:=hb'
 have other:∀ (j:Nat) (cs:Array Value) (t:TypeId) (fr:Nat × Nat),w.heap[j]?=some (.cells cs t fr)->t≠85->(w.setCell ⟨br,0,none⟩ (.slice (some ⟨g,off+k*4,none⟩) (r.ts.length-k) (cap-k))).heap[j]?=w.heap[j]?:=fun j cs t fr hj hne=>
    Below.heap_setCell _ _ _ _ (show j≠br from fun e=>by subst e;rw [hb] at hj;cases hj;exact hne rfl)
 have ht0:=ht
 obtain ⟨⟨cs,fr,hgg⟩,htok⟩:=ht0
 have hlen:(r.ts.drop k).length=r.ts.length-k:=List.length_drop
 have hs:=set_heap hb 0 (.slice (some ⟨g,off+k*4,none⟩) (r.ts.length-k) (cap-k))
 refine ⟨h1,hg,by rw [hlen];omega,g,off+k*4,cap-k,sg,ev,?_,by rw [hlen];omega,by omega,?_,(other _ _ _ _ hsg (by decide)).trans hsg,?_⟩
 · rw [hlen];exact hs
 · have hT:=ht.same (other _ _ _ _ hgg (by decide))
   refine ⟨hT.1,fun i t hi=>?_⟩
   rw [List.getElem?_drop] at hi
   have:=hT.2 (k+i) t hi
   rw [show off+(k+i)*4=off+k*4+i*4 by omega] at this
   exact this
 · subst he;exact her.same fun fb cs fr hf=>other _ _ _ _ hf (by decide)
theorem drop_head_good {r:Rd} (h:r.good) (hl:1<r.ts.length):(⟨r.ts.drop 1,r.err⟩:Rd).good:=by
 have:=h.next
 unfold Rd.next at this
 rw [if_pos hl] at this
 exact this
def Stepped (B br:Nat) (w:World) (r':Rd) (e:Ending) (w':World):Prop:=e=.returned (.tuple #[])/\RdAt B br r' w'/\w.grownBy w' (some br)
theorem rnext_any (B br:Nat) (r:Rd) (w:World) (h:RdAt B br r w):Calls Tryz.prog 119 #[.pointer (some ⟨br,0,none⟩)] w (Stepped B br w r.next):=by
 have h0:=h
 obtain ⟨h1,h2,h3,g,off,cap,sg,ev,hb,hc,hc2,ht,hsg,he⟩:=h
 have hlt:=heap_lt hb
 obtain ⟨b0,b1,b2⟩:=three_cells hb
 have f0:w.frozen? ⟨br,0,none⟩=false:=Lib.frozen_of_heap hb 0
 have hpos:=h2.pos
 by_cases hl:1<r.ts.length
 · have hm:=h0.moved 1 hl r.err rfl (drop_head_good h2 hl) hb
   have en:r.next=⟨r.ts.drop 1,r.err⟩:=by unfold Rd.next;rw [if_pos hl]
   have HM:=Lib.hid hm
   rw [en]
   clear hm hb hsg he ht h0 en
   go_enter Tryz.func119,Tryz.ntmps119
   go_wp2
   go_end0
   exact ⟨rfl,HM.out,set_grown _ _ _ _⟩
 · have en:r.next=r:=by unfold Rd.next;rw [if_neg hl]
   rw [en]
   have H0:=Lib.hid h0
   clear hb hsg he ht h0 en
   go_enter Tryz.func119,Tryz.ntmps119
   go_wp2
   go_end0
   exact ⟨rfl,H0.out,grownBy_refl _ _⟩
theorem tok_kind (k:Int) (s:ByteArray) (v a:Int) (w:World):(Instr.field 147 (.agg #[.int .i64 k,.string s,.int .u64 v,.int .i64 a]) 0).run Tryz.prog w=.ok (.int .i64 k) w:=by kernel_rfl
theorem tok_text (k:Int) (s:ByteArray) (v a:Int) (w:World):(Instr.field 147 (.agg #[.int .i64 k,.string s,.int .u64 v,.int .i64 a]) 1).run Tryz.prog w=.ok (.string s) w:=by kernel_rfl
theorem tok_at (k:Int) (s:ByteArray) (v a:Int) (w:World):(Instr.field 147 (.agg #[.int .i64 k,.string s,.int .u64 v,.int .i64 a]) 3).run Tryz.prog w=.ok (.int .i64 a) w:=by kernel_rfl
theorem RdAt.drew {B br:Nat} {r:Rd} {w:World} (h:RdAt B br r w):RdAt B br r w.drew:=h.keep fun _ _ _ _ _ _=>rfl
theorem grown_drew {a w:World} {row:Option Nat} (h:a.grownBy w row):a.grownBy w.drew row:=⟨h.os,h.tape,h.output,h.size,h.block⟩
theorem failed_world {B br n:Nat} {r:Rd} {w W:World} {g off cap sg:Nat} {ev:Value} (h:RdAt B br r w) (hr:r.err=none)
    (hb:w.heap[br]?=some (.cells #[.slice (some ⟨g,off,none⟩) r.ts.length cap,.slice (some ⟨sg,0,none⟩) 10 10,ev] 85 (0,0)))
    (hW:W=(((w.setCell ⟨br,2,none⟩ (.iface 124 (.pointer (some ⟨w.heap.size+1,0,none⟩)))).alloc (.cells #[.int .i64 (r.here.kind:Int),.string (bstr r.here.text),.int .u64 (r.here.value:Int),.int .i64 (r.here.at_:Int)] 147)).alloc (.cells #[.int .i64 (r.here.at_:Int),.iface 65 (.int .i64 (n:Int))] 127))):
    RdAt B br ⟨r.ts,some (n,r.here.at_)⟩ W/\w.grownBy W (some br)/\W.heap[br]?=some (.cells #[.slice (some ⟨g,off,none⟩) r.ts.length cap,.slice (some ⟨sg,0,none⟩) 10 10,.iface 124 (.pointer (some ⟨w.heap.size+1,0,none⟩))] 85 (0,0)):=by
 have hlt:=heap_lt hb
 have hG:w.grownBy W (some br):=by
    rw [hW]
    exact grownBy_trans (grownBy_trans (set_grown w br 2 _) (World.grownBy_alloc _ _ _)) (World.grownBy_alloc _ _ _)
 have hbW:W.heap[br]?=some (.cells #[.slice (some ⟨g,off,none⟩) r.ts.length cap,.slice (some ⟨sg,0,none⟩) 10 10,.iface 124 (.pointer (some ⟨w.heap.size+1,0,none⟩))] 85 (0,0)):=by
    rw [hW,alloc_at,if_neg (by simp [World.setCell];omega),alloc_at,if_neg (by simp [World.setCell];omega)]
    exact set_heap hb 2 _
 have hfb:W.heap[w.heap.size+1]?=some (.cells #[.int .i64 (r.here.at_:Int),.iface 65 (.int .i64 (n:Int))] 127 (0,0)):=by
    rw [hW,alloc_at,if_pos (by simp [World.setCell])]
 obtain ⟨h1,h2,h3,g',off',cap',sg',ev',hb',hc,hc2,ht,hsg,her⟩:=h
 rw [hb] at hb'
 simp only [Option.some.injEq,Obj.cells.injEq,Array.mk.injEq,List.cons.injEq,Value.slice.injEq,Addr.mk.injEq,and_true,true_and] at hb'
 obtain ⟨⟨⟨rfl,rfl⟩,rfl⟩,rfl,rfl⟩:=hb'
 have other:∀ (j:Nat) (cs:Array Value) (t:TypeId) (fr:Nat × Nat),w.heap[j]?=some (.cells cs t fr)->t≠85->W.heap[j]?=w.heap[j]?:=fun j cs t fr hj hne=>
    hG.block j (heap_lt hj) (fun e=>by simp only [Option.some.injEq] at e;subst e;rw [hb] at hj;cases hj;exact hne rfl)
 obtain ⟨⟨cs,fr,hgg⟩,_⟩:=id ht
 exact ⟨⟨h1,h2,h3,g,off,cap,sg,_,hbW,hc,hc2,ht.same (other _ _ _ _ hgg (by decide)),(other _ _ _ _ hsg (by decide)).trans hsg,_,rfl,hfb⟩,hG,hbW⟩
theorem fail_is (n:Nat) (r:Rd):r.fail n=⟨r.ts.drop (r.ts.length-1),match r.err with | none=>some (n,r.here.at_) | some e=>some e⟩:=rfl
theorem fail_any (B br n:Nat) (r:Rd) (w:World) (h:RdAt B br r w) (hn:n<=8):Calls Tryz.prog 57 #[.pointer (some ⟨br,0,none⟩),.int .i64 (n:Int)] w (Stepped B br w (r.fail n)):=by
 have h0:=h
 have hh:=here_any B br r w h
 have hgf:=h.2.1.fail n
 obtain ⟨h1,h2,h3,g,off,cap,sg,ev,hb,hc,hc2,ht,hsg,he⟩:=h
 have hlt:=heap_lt hb
 obtain ⟨b0,b1,b2⟩:=three_cells hb
 have f0:w.frozen? ⟨br,0,none⟩=false:=Lib.frozen_of_heap hb 0
 have f2:w.frozen? ⟨br,2,none⟩=false:=Lib.frozen_of_heap hb 2
 have hpos:=h2.pos
 cases hr:r.err with
 | none=>
   rw [hr] at he
   obtain rfl:ev=.nilIface:=he
   have hf:=tok_at
   obtain ⟨W,hW⟩:∃ W,W=(((w.setCell ⟨br,2,none⟩ (.iface 124 (.pointer (some ⟨w.heap.size+1,0,none⟩)))).alloc (.cells #[.int .i64 (r.here.kind:Int),.string (bstr r.here.text),.int .u64 (r.here.value:Int),.int .i64 (r.here.at_:Int)] 147)).alloc (.cells #[.int .i64 (r.here.at_:Int),.iface 65 (.int .i64 (n:Int))] 127)):=⟨_,rfl⟩
   obtain ⟨hR,hG,hbW⟩:=failed_world h0 hr hb hW
   have hltW:=heap_lt hbW
   obtain ⟨c0,c1,c2⟩:=three_cells hbW
   have g0:W.frozen? ⟨br,0,none⟩=false:=Lib.frozen_of_heap hbW 0
   have hm:=hR.moved (r.ts.length-1) (by show r.ts.length-1<r.ts.length;omega) (some (n,r.here.at_)) rfl (by rw [fail_is,hr] at hgf;exact hgf) hbW
   have HM:=Lib.hid hm.drew
   have ef:r.fail n=⟨r.ts.drop (r.ts.length-1),some (n,r.here.at_)⟩:=by rw [fail_is,hr]
   rw [ef]
   clear hb hsg ht hm hR hbW ef hgf
   go_enter Tryz.func57,Tryz.ntmps57
   go_wp2_with (first | (go_at_call 59;refine hh.mono ?_;rintro e w' ⟨rfl,rfl⟩) | (go_at_call 42;refine (Lx.wrap_any _ _ _).mono ?_;rintro e w' ⟨rfl,rfl⟩))
   rw [<- hW]
   clear hW
   go_region
   all_goals go_end0
   all_goals exact ⟨rfl,HM.out,grown_drew (grownBy_trans hG (set_grown _ _ _ _))⟩
 | some e0=>
   have hm:=h0.moved (r.ts.length-1) (by omega) (some e0) hr.symm (by rw [fail_is,hr] at hgf;exact hgf) hb
   have ef:r.fail n=⟨r.ts.drop (r.ts.length-1),some e0⟩:=by rw [fail_is,hr]
   rw [ef]
   have HM:=Lib.hid hm.drew
   rw [hr] at he
   obtain ⟨fb,rfl,hfb⟩:=he
   clear hb hsg ht hm ef hgf hr h0 hh
   go_enter Tryz.func57,Tryz.ntmps57
   go_wp2
   go_region
   all_goals go_end0
   all_goals exact ⟨rfl,HM.out,grown_drew (set_grown _ _ _ _)⟩
theorem bstr_toList (l:List UInt8):(bstr l).toList=l:=by rw [Lib.toList_data];rfl
theorem beq_text (l:List UInt8) (s:ByteArray):((bstr l).toList == s.toList)=(l == bys s):=by rw [bstr_toList,Lib.toList_data];rfl
theorem is_any (B br:Nat) (r:Rd) (s:ByteArray) (x:List UInt8) (hx:bys s=x) (w:World) (h:RdAt B br r w):
    Calls Tryz.prog 56 #[.pointer (some ⟨br,0,none⟩),.string s] w fun e w'=>e=.returned (.bool (r.is x))/\Below w.heap.size w w':=by
 have hh:=here_any B br r w h
 have hf:=tok_text
 have HX:Hid (((bstr r.here.text).toList == s.toList)=r.is x):=by rw [<- hx];exact beq_text _ _
 clear hx h
 go_enter Tryz.func56,Tryz.ntmps56
 go_wp2_with (go_at_call 59;refine hh.mono ?_;rintro e w' ⟨rfl,rfl⟩)
 go_ret
 exact ⟨Lx.ret_bool HX.out,(Below.refl _ _).alloc (Nat.le_refl _) _⟩
theorem take_no (B br:Nat) (r:Rd) (s:ByteArray) (x:List UInt8) (hx:bys s=x) (w:World) (h:RdAt B br r w) (hi:r.is x=false):
    Calls Tryz.prog 86 #[.pointer (some ⟨br,0,none⟩),.string s] w fun e w'=>e=.returned (.bool false)/\RdAt B br r w'/\w.grownBy w' (some br):=by
 have hh:=is_any B br r s x hx w h
 rw [hi] at hh
 have H:=Lib.hid h
 clear h hi hx
 go_enter Tryz.func86,Tryz.ntmps86
 go_wp2_with (go_at_call 56;refine hh.mono ?_;rintro e w1 ⟨rfl,hb1⟩)
 go_ret
 exact ⟨rfl,H.out.below hb1,grownBy_below hb1⟩
theorem take_yes (B br:Nat) (r:Rd) (s:ByteArray) (x:List UInt8) (hx:bys s=x) (w:World) (h:RdAt B br r w) (hi:r.is x=true):
    Calls Tryz.prog 86 #[.pointer (some ⟨br,0,none⟩),.string s] w fun e w'=>e=.returned (.bool true)/\RdAt B br r.next w'/\w.grownBy w' (some br):=by
 have hh:=is_any B br r s x hx w h
 rw [hi] at hh
 have H:=Lib.hid h
 clear h hi hx
 go_enter Tryz.func86,Tryz.ntmps86
 go_wp2_with (first | (go_at_call 56;refine hh.mono ?_;rintro e w1 ⟨rfl,hb1⟩;have h1:=H.out.below hb1) | (go_at_call 119;refine (rnext_any B br r _ h1).mono ?_;rintro e w2 ⟨rfl,h2,hg2⟩))
 go_ret
 exact ⟨rfl,h2,grownBy_trans (grownBy_below hb1) hg2⟩
theorem want_any (B br:Nat) (r:Rd) (s:ByteArray) (x:List UInt8) (hx:bys s=x) (w:World) (h:RdAt B br r w):Calls Tryz.prog 60 #[.pointer (some ⟨br,0,none⟩),.string s] w (Stepped B br w (r.want x)):=by
 cases hi:r.is x with
 | true=>
   have e:r.want x=r.next:=by unfold Rd.want;rw [hi,if_pos rfl]
   have hh:=take_yes B br r s x hx w h hi
   rw [e]
   clear h hi hx e
   go_enter Tryz.func60,Tryz.ntmps60
   go_wp2_with (go_at_call 86;refine hh.mono ?_;rintro e w1 ⟨rfl,h1,hg1⟩)
   go_end0
   exact ⟨rfl,h1,hg1⟩
 | false=>
   have e:r.want x=r.fail 2:=by unfold Rd.want;rw [hi];rfl
   have hh:=take_no B br r s x hx w h hi
   rw [e]
   clear h hi hx e
   go_enter Tryz.func60,Tryz.ntmps60
   go_wp2_with (first | (go_at_call 86;refine hh.mono ?_;rintro e w1 ⟨rfl,h1,hg1⟩) | (go_at_call 57;refine (fail_any B br 2 r _ h1 (by omega)).mono ?_;rintro e w2 ⟨rfl,h2,hg2⟩))
   go_end0
   exact ⟨rfl,h2,grownBy_trans hg1 hg2⟩
theorem four_tok {w:World} {k:Nat} {x0 x1 x2 x3:Value} (h:w.heap[k]?=some (.cells #[x0,x1,x2,x3] 147 (0,0))):
    w.cell? ⟨k,0,none⟩=some x0/\w.cell? ⟨k,1,none⟩=some x1/\w.cell? ⟨k,2,none⟩=some x2/\w.cell? ⟨k,3,none⟩=some x3:=by
 refine ⟨?_,?_,?_,?_⟩ <;> (rw [Lib.cell_of_heap h];rfl)
@[reducible] def tokO (t:Tok):Obj:=.cells #[.int .i64 (t.kind:Int),.string (bstr t.text),.int .u64 (t.value:Int),.int .i64 (t.at_:Int)] 147
theorem rname_any (B br:Nat) (r:Rd) (w:World) (h:RdAt B br r w):
    Calls Tryz.prog 87 #[.pointer (some ⟨br,0,none⟩)] w fun e w'=>e=.returned (.string (bstr r.name.1))/\RdAt B br r.name.2 w'/\w.grownBy w' (some br):=by
  have hh:=here_any B br r w h
  have hlt:=h.lt
  have hA:RdAt B br r ((w.alloc (tokO r.here)).alloc (tokO r.here)):=(h.alloc _).alloc _
  have hG:w.grownBy ((w.alloc (tokO r.here)).alloc (tokO r.here)) (some br):=grownBy_trans (World.grownBy_alloc _ _ _) (World.grownBy_alloc _ _ _)
  have hbx:((w.alloc (tokO r.here)).alloc (tokO r.here)).heap[w.heap.size+1]?=some (tokO r.here):=by rw [alloc_at,if_pos (by simp)]
  have hbx2:∀ w2,((w.alloc (tokO r.here)).alloc (tokO r.here)).grownBy w2 (some br)->w2.heap[w.heap.size+1]?=some (tokO r.here):=fun w2 hg=>(hg.block _ (heap_lt hbx) (fun e=>by simp only [Option.some.injEq] at e;omega)).trans hbx
  have H:=Lib.hid hA
  have HG:=Lib.hid hG
  by_cases hk:r.here.kind=1
  · have e:r.name=(r.here.text,r.next):=by unfold Rd.name;rw [if_pos hk]
    rw [e]
    have hk1:1<=((r.here.kind:Nat):Int):=by omega
    have hk2:((r.here.kind:Nat):Int)<=1:=by omega
    have hx:=rnext_any B br r _ hA
    have HBX:=Lib.hid hbx2
    clear hA h e hk hG hbx hbx2
    generalize r.here=T at *
    go_enter Tryz.func87,Tryz.ntmps87
    go_wp2_with (first | (go_at_call 59;refine hh.mono ?_;rintro e w' ⟨rfl,rfl⟩) | (go_at_call 119;refine hx.mono ?_;rintro e w2 ⟨rfl,h2,hg2⟩;obtain ⟨c0,c1,c2,c3⟩:=four_tok (HBX.out _ hg2)))
    go_ret
    exact ⟨rfl,h2,grownBy_trans HG.out hg2⟩
  · have e:r.name=([],r.fail 2):=by unfold Rd.name;rw [if_neg hk]
    rw [e]
    have hk':¬ ((r.here.kind:Nat):Int)=1:=by omega
    have hx:=fail_any B br 2 r _ hA (by omega)
    clear hA h e hk hG hbx hbx2
    generalize r.here=T at *
    go_enter Tryz.func87,Tryz.ntmps87
    go_wp2_with (first | (go_at_call 59;refine hh.mono ?_;rintro e w' ⟨rfl,rfl⟩) | (go_at_call 57;refine hx.mono ?_;rintro e w2 ⟨rfl,h2,hg2⟩))
    go_ret
    exact ⟨rfl,h2,grownBy_trans HG.out hg2⟩
theorem rnumber_any (B br most:Nat) (hmost:most<=1000) (r:Rd) (w:World) (h:RdAt B br r w):
    Calls Tryz.prog 120 #[.pointer (some ⟨br,0,none⟩),.int .u64 (most:Int)] w fun e w'=>e=.returned (.int .i64 ((r.number most).1:Int))/\RdAt B br (r.number most).2 w'/\w.grownBy w' (some br):=by
  have hh:=here_any B br r w h
  have hlt:=h.lt
  have hA:RdAt B br r ((w.alloc (tokO r.here)).alloc (tokO r.here)):=(h.alloc _).alloc _
  have hG:w.grownBy ((w.alloc (tokO r.here)).alloc (tokO r.here)) (some br):=grownBy_trans (World.grownBy_alloc _ _ _) (World.grownBy_alloc _ _ _)
  have hbx:((w.alloc (tokO r.here)).alloc (tokO r.here)).heap[w.heap.size+1]?=some (tokO r.here):=by rw [alloc_at,if_pos (by simp)]
  have hbx2:∀ w2,((w.alloc (tokO r.here)).alloc (tokO r.here)).grownBy w2 (some br)->w2.heap[w.heap.size+1]?=some (tokO r.here):=fun w2 hg=>(hg.block _ (heap_lt hbx) (fun e=>by simp only [Option.some.injEq] at e;omega)).trans hbx
  have HG:=Lib.hid hG
  have HBX:=Lib.hid hbx2
  have hf2:=fail_any B br 2 r _ hA (by omega)
  have hf6:=fail_any B br 6 r _ hA (by omega)
  have hx:=rnext_any B br r _ hA
  unfold Rd.number
  clear hA h hG hbx hbx2
  generalize r.here=T at *
  by_cases hk:T.kind=3
  · have hk1:3<=((T.kind:Nat):Int):=by omega
    have hk2:((T.kind:Nat):Int)<=3:=by omega
    rw [if_pos hk]
    clear hk
    by_cases h1:T.value<1
    · rw [if_pos (Or.inl h1)]
      have h1':((T.value:Nat):Int)<1:=by omega
      clear h1 hx hf2
      go_enter Tryz.func120,Tryz.ntmps120
      go_wp2_with (first | (go_at_call 59;refine hh.mono ?_;rintro e w' ⟨rfl,rfl⟩) | (go_at_call 57;refine hf6.mono ?_;rintro e w2 ⟨rfl,h2,hg2⟩))
      go_ret
      exact ⟨rfl,h2,grownBy_trans HG.out hg2⟩
    · by_cases h2:most<T.value
      · rw [if_pos (Or.inr h2)]
        have h1':¬ ((T.value:Nat):Int)<1:=by omega
        have h2':(most:Int)<((T.value:Nat):Int):=by omega
        clear h1 h2 hx hf2
        go_enter Tryz.func120,Tryz.ntmps120
        go_wp2_with (first | (go_at_call 59;refine hh.mono ?_;rintro e w' ⟨rfl,rfl⟩) | (go_at_call 57;refine hf6.mono ?_;rintro e w2 ⟨rfl,h2,hg2⟩))
        go_ret
        exact ⟨rfl,h2,grownBy_trans HG.out hg2⟩
      · rw [if_neg (by omega)]
        have h1':¬ ((T.value:Nat):Int)<1:=by omega
        have h2':¬ (most:Int)<((T.value:Nat):Int):=by omega
        have h3':((T.value:Nat):Int)<=1000:=by omega
        clear h1 h2 hf6 hf2
        go_enter Tryz.func120,Tryz.ntmps120
        go_wp2_with (first | (go_at_call 59;refine hh.mono ?_;rintro e w' ⟨rfl,rfl⟩) | (go_at_call 119;refine hx.mono ?_;rintro e w2 ⟨rfl,h2,hg2⟩;obtain ⟨c0,c1,c2,c3⟩:=four_tok (HBX.out _ hg2)))
        go_ret
        exact ⟨rfl,h2,grownBy_trans HG.out hg2⟩
  · have hk':¬ ((T.kind:Nat):Int)=3:=by omega
    rw [if_neg hk]
    clear hk hx hf6
    go_enter Tryz.func120,Tryz.ntmps120
    go_wp2_with (first | (go_at_call 59;refine hh.mono ?_;rintro e w' ⟨rfl,rfl⟩) | (go_at_call 57;refine hf2.mono ?_;rintro e w2 ⟨rfl,h2,hg2⟩))
    go_ret
    exact ⟨rfl,h2,grownBy_trans HG.out hg2⟩
theorem indexL_ge (x:List UInt8):∀ l,-1<=indexL x l
  | []=>by simp [indexL]
  | y :: l=>by
    have:=indexL_ge x l
    unfold indexL
    split
    · omega
    · split <;> omega
theorem beginsB_is (t:Tok):beginsB t=(t.kind == 1 || t.kind == 3 || t.text == [126] || t.text == [40] || t.text == kPick):=rfl
theorem text_beq (l:List UInt8) (x:List UInt8):((bstr l).toList == x)=(l == x):=by rw [bstr_toList]
theorem begins_any (t:Tok) (w:World):
    Calls Tryz.prog 187 #[.agg #[.int .i64 (t.kind:Int),.string (bstr t.text),.int .u64 (t.value:Int),.int .i64 (t.at_:Int)]] w fun e w'=>e=.returned (.bool (beginsB t))/\Below w.heap.size w w':=by
  go_enter Tryz.func187,Tryz.ntmps187
  go_wp2
  all_goals go_ret
  all_goals refine ⟨Lx.ret_bool ?_,(Below.refl _ _).alloc (Nat.le_refl _) _⟩
  all_goals rw [beginsB_is]
  all_goals try simp only [bstr_toList] at *
  · have hk:t.kind=1:=by omega
    simp [hk]
  · have hk:t.kind=3:=by omega
    simp [hk]
  · rename_i h;simp [h]
  · rename_i h;simp [h]
  · rename_i h1 h2 h3 h4
    have k1:(t.kind == 1)=false:=by simp;omega
    have k2:(t.kind == 3)=false:=by simp;omega
    have k3:(((t.kind:Nat):Int) == 1)=false:=by simp;omega
    have k4:(((t.kind:Nat):Int) == 3)=false:=by simp;omega
    have k5:(t.text == [126])=false:=by simpa using h3
    have k6:(t.text == [40])=false:=by simpa using h4
    simp only [k1,k2,k3,k4,k5,k6,Bool.false_or,Bool.or_false]
    rfl
theorem sign_at {w:World} {b:Nat} (h:w.heap[b]?=some (.cells signCells 9 (0,0))) (k:Nat) (hk:k<10):w.cell? ⟨b,k,none⟩=some (.string (bstr (signs10.getD k []))):=by
  have e:signCells[k]?=some (.string (bstr (signs10.getD k []))):=by
    have h':k<signs10.length:=hk
    simp [signCells,List.getD,h']
  simp [World.cell?,h,e]
theorem indexL_drop (x:List UInt8):∀ (l:List (List UInt8)) (k:Nat),k<=l.length->(∀ j,j<k->l.getD j []≠x)->indexL x l=if indexL x (l.drop k) = -1 then -1 else indexL x (l.drop k)+k
  | l,0,_,_=>by simp
  | [],k+1,h,_=>by simp at h
  | y :: l,k+1,h,hj=>by
    have h0:(y == x)=false:=by have:=hj 0 (by omega);simpa using this
    have ih:=indexL_drop x l k (by simpa using h) (fun j hjk=>by have:=hj (j+1) (by omega);simpa using this)
    rw [List.drop_succ_cons]
    show (if (y == x)=true then 0 else if indexL x l = -1 then -1 else indexL x l+1)=_
    rw [h0]
    simp only [Bool.false_eq_true,if_false]
    by_cases e:indexL x (l.drop k) = -1
    · rw [if_pos e] at ih ⊢;rw [ih];rfl
    · rw [if_neg e] at ih ⊢
      have hp : -1<=indexL x (l.drop k):=indexL_ge x _
      rw [ih,if_neg (by omega)];try omega
theorem index_any (sg:Nat) (x:List UInt8) (w:World) (hs:w.heap[sg]?=some (.cells signCells 9 (0,0))):
    Calls Tryz.prog 176 #[.slice (some ⟨sg,0,none⟩) 10 10,.string (bstr x)] w fun e w'=>e=.returned (.int .i64 (opOf x))/\w'=w:=by
  have hlt:=heap_lt hs
  go_enter Tryz.func176,Tryz.ntmps176
  go_wp2
  go_loop [8] (fun i=>∃ k:Nat,k<=10/\i=.int .i64 k/\Hid (∀ j,j<k->signs10.getD j []≠x)) (fun i=>10-(intOf i).toNat)
  case atStart=>exact ⟨0,by omega,rfl,fun j hj=>by omega⟩
  case round=>
    obtain ⟨k,hk,rfl,hh⟩:=hrel
    by_cases hlt:k<10
    · have hc:=sign_at hs k hlt
      have hd:=indexL_drop x signs10 k (show k<=10 by omega) hh.out
      obtain ⟨y,hy⟩:∃ y,y=signs10.getD k []:=⟨_,rfl⟩
      rw [<- hy] at hc
      by_cases he:y=x
      · have H:Hid (opOf x=(k:Int)):=by
          have hdk:signs10.drop k=signs10.getD k [] :: signs10.drop (k+1):=by
            rw [List.drop_eq_getElem_cons (show k<signs10.length from hlt)];simp [List.getD,show k<signs10.length from hlt]
          have e0:indexL x (signs10.drop k)=0:=by rw [hdk,indexL,<- hy,he,beq_self_eq_true,if_pos rfl]
          show opOf x=_
          unfold opOf
          rw [hd,e0,if_neg (by decide)];omega
        subst he
        have hq:((bstr y).toList == (bstr y).toList)=true:=by simp
        clear hd hh hy
        go_wp2
        go_ret
        exact ⟨Lx.ret_int (by rw [H.out]),rfl⟩
      · have H:Hid (∀ j,j<k+1->signs10.getD j []≠x):=fun j hj=>by
          by_cases e:j=k
          · subst e;rw [<- hy];exact he
          · exact hh.out j (by omega)
        have hq:((bstr x).toList == (bstr y).toList)=false:=by rw [bstr_toList,bstr_toList];simpa using fun e=>he e.symm
        clear hd hh he hy
        go_wp2
        go_round
        case rel=>exact ⟨k+1,by omega,by go_num,H⟩
        case measure=>simp [intOf];omega
    · obtain rfl:k=10:=by omega
      have hd:=indexL_drop x signs10 10 (by decide) hh.out
      have H:Hid (opOf x = -1):=by
        show indexL x signs10 = -1
        rw [hd]
        rfl
      clear hd hh
      go_wp2
      go_ret
      exact ⟨Lx.ret_int (by rw [H.out]),rfl⟩
def KidsX (X:Nat->Prop) (w:World) (R:Value->Tree->Prop) (v:Value) (ks:List Tree):Prop:=
  ∃ ao cap,v=.slice ao ks.length cap/\(ks.length<=4294967296/\ks.length<=cap)/\∀ i k,ks[i]?=some k->∃ g off c0 c1 c2 c3 c4 c5,ao=some ⟨g,off,none⟩/\X g/\(∃ cs fr,w.heap[g]?=some (.cells cs 50 fr)) /\
    w.cell? ⟨g,off+i*6,none⟩=some c0/\w.cell? ⟨g,off+i*6+1,none⟩=some c1/\w.cell? ⟨g,off+i*6+2,none⟩=some c2/\w.cell? ⟨g,off+i*6+3,none⟩=some c3/\w.cell? ⟨g,off+i*6+4,none⟩=some c4/\w.cell? ⟨g,off+i*6+5,none⟩=some c5 /\
    R (.agg #[c0,c1,c2,c3,c4,c5]) k
def ERepX (X:Nat->Prop) (w:World):Nat->Value->Tree->Prop
  | 0,_,_=>False
  | n+1,v,t=>t.value<18446744073709551616/\∃ kv,v=.agg #[.int .i64 t.kind,.int .i64 t.op,.string t.name,.int .u64 t.value,kv,.int .i64 t.at_]/\KidsX X w (fun v' t'=>ERepX X w n v' t') kv t.kids
def SameX (X:Nat->Prop) (w w':World):Prop:=∀ (g:Nat) (cs:Array Value) (fr:Nat × Nat),X g->w.heap[g]?=some (.cells cs 50 fr)->w'.heap[g]?=some (.cells cs 50 fr)
theorem KidsX.carry {X X':Nat->Prop} {w w':World} {R R':Value->Tree->Prop} {v:Value} {ks:List Tree} (h:KidsX X w R v ks) (hX:∀ g,X g->X' g) (hb:SameX X w w') (hR:∀ v k,R v k->R' v k):KidsX X' w' R' v ks:=by
  obtain ⟨ao,cap,rfl,hl,h⟩:=h
  refine ⟨ao,cap,rfl,hl,fun i k hk=>?_⟩
  obtain ⟨g,off,c0,c1,c2,c3,c4,c5,e,hg,⟨cs,fr,hc⟩,h0,h1,h2,h3,h4,h5,hr⟩:=h i k hk
  have hc':=hb g cs fr hg hc
  have key:∀ o,w'.cell? ⟨g,o,none⟩=w.cell? ⟨g,o,none⟩:=fun o=>World.cell?_of_block (by rw [hc',hc])
  exact ⟨g,off,c0,c1,c2,c3,c4,c5,e,hX g hg,⟨cs,fr,hc'⟩,(key _).trans h0,(key _).trans h1,(key _).trans h2,(key _).trans h3,(key _).trans h4,(key _).trans h5,hR _ _ hr⟩
theorem ERepX.carry {X X':Nat->Prop} {w w':World} (hX:∀ g,X g->X' g) (hb:SameX X w w'):∀ {n:Nat} {v:Value} {t:Tree},ERepX X w n v t->ERepX X' w' n v t
  | 0,_,_,h=>h.elim
  | n+1,v,t,⟨h1,kv,h2,h3⟩=>⟨h1,kv,h2,h3.carry hX hb fun _ _ hr=>ERepX.carry hX hb hr⟩
theorem ERepX.lift {X:Nat->Prop} {w:World} : ∀ {n:Nat} {v:Value} {t:Tree},ERepX X w n v t->ERepX X w (n+1) v t
  | 0,_,_,h=>h.elim
  | n+1,v,t,⟨h1,kv,h2,h3⟩=>⟨h1,kv,h2,h3.carry (fun _ h=>h) (fun _ _ _ _ h=>h) fun _ _ hr=>ERepX.lift hr⟩
theorem ERepX.up {X:Nat->Prop} {w:World} {n:Nat} {v:Value} {t:Tree} (h:ERepX X w n v t):∀ {m:Nat},n<=m->ERepX X w m v t:=fun {m} hm=>by
  induction m with
  | zero=>obtain rfl:n=0:=by omega
          exact h
  | succ m ih=>
    by_cases e:n=m+1
    · subst e;exact h
    · exact (ih (by omega)).lift
theorem ERep.toX {lo B:Nat} {w:World} {X:Nat->Prop} (hX:∀ g,lo<=g->g<B->X g):∀ {n:Nat} {v:Value} {t:Tree},ERep lo B w n v t->ERepX X w n v t
  | 0,_,_,h=>h.elim
  | n+1,v,t,⟨h1,kv,h2,ao,cap,e,hl,h⟩=>⟨h1,kv,h2,ao,cap,e,hl,fun i k hk=>by
    obtain ⟨g,off,c0,c1,c2,c3,c4,c5,e,hg1,hg2,hc,h0,h1,h2,h3,h4,h5,hr⟩:=h i k hk
    exact ⟨g,off,c0,c1,c2,c3,c4,c5,e,hX g hg1 hg2,hc,h0,h1,h2,h3,h4,h5,ERep.toX hX hr⟩⟩
theorem ERepX.toE {lo B:Nat} {w:World} {X:Nat->Prop} (hX:∀ g,X g->lo<=g/\g<B):∀ {n:Nat} {v:Value} {t:Tree},ERepX X w n v t->ERep lo B w n v t
  | 0,_,_,h=>h.elim
  | n+1,v,t,⟨h1,kv,h2,ao,cap,e,hl,h⟩=>⟨h1,kv,h2,ao,cap,e,hl,fun i k hk=>by
    obtain ⟨g,off,c0,c1,c2,c3,c4,c5,e,hg,hc,h0,h1,h2,h3,h4,h5,hr⟩:=h i k hk
    exact ⟨g,off,c0,c1,c2,c3,c4,c5,e,(hX g hg).1,(hX g hg).2,hc,h0,h1,h2,h3,h4,h5,ERepX.toE hX hr⟩⟩
theorem erep_agg {lo B n:Nat} {w:World} {v:Value} {t:Tree} (h:ERep lo B w n v t):∃ ao kl cap,v=.agg #[.int .i64 t.kind,.int .i64 t.op,.string t.name,.int .u64 t.value,.slice ao kl cap,.int .i64 t.at_]:=by
  cases n with
  | zero=>exact h.elim
  | succ n=>obtain ⟨_,kv,e,ao,cap,rfl,_⟩:=h;exact ⟨ao,_,cap,e⟩
def gap (r r':Rd):Nat:=r.ts.length+1-r'.ts.length
def Mde (B br:Nat) (w:World) (r:Rd) (tn:Tree × Rd) (e:Ending) (w':World):Prop:=
  ∃ v,e=.returned v/\ERep w.heap.size w'.heap.size w' (gap r tn.2) v tn.1/\RdAt B br tn.2 w'/\w.grownBy w' (some br)
def RExC (f:Nat):Prop:=∀ (B br tight deep:Nat) (r:Rd) (w:World),RdAt B br r w->tight<=7->deep+f=41 ->
  Calls Tryz.prog 162 #[.pointer (some ⟨br,0,none⟩),.int .i64 (tight:Int),.int .i64 (deep:Int)] w (Mde B br w r (exprP f tight deep r))
def RUnC (f:Nat):Prop:=∀ (B br deep:Nat) (r:Rd) (w:World),RdAt B br r w->deep+f=41 ->
  Calls Tryz.prog 175 #[.pointer (some ⟨br,0,none⟩),.int .i64 (deep:Int)] w (Mde B br w r (unaryP f deep r))
theorem notRd:¬ rdType 50:=by unfold rdType;decide
theorem RdAt.put6 {B br:Nat} {r:Rd} {w:World} (h:RdAt B br r w) {k:Nat} {x0 x1 x2 x3 x4 x5:Value} (hr:w.heap[k]?=some (.cells #[x0,x1,x2,x3,x4,x5] 50 (0,0))) (u0 u1 u2 u3 u4 u5:Value):RdAt B br r (put6 w k u0 u1 u2 u3 u4 u5):=
  h.step (put6_grown w k u0 u1 u2 u3 u4 u5) hr notRd
theorem RdAt.heap {B br:Nat} {r:Rd} {w w':World} (h:RdAt B br r w) (hg:w.grownBy w' (some br)) {k:Nat} {cs:Array Value} {t:TypeId} {fr:Nat × Nat} (hr:w.heap[k]?=some (.cells cs t fr)) (ht:t≠85):w'.heap[k]?=some (.cells cs t fr):=by
  obtain ⟨_,_,_,g,off,cap,sg,ev,hb,_⟩:=h
  exact (hg.block k (heap_lt hr) (fun e=>by simp only [Option.some.injEq] at e;subst e;rw [hb] at hr;cases hr;exact ht rfl)).trans hr
theorem RdAt.same35 {B br:Nat} {r:Rd} {w w':World} (h:RdAt B br r w) (hg:w.grownBy w' (some br)) (lo hi:Nat):Same35 lo hi w w':=fun k cs fr _ _ hk=>h.heap hg hk (by decide)
theorem grown_put6 {w w5:World} {br R:Nat} (hg:w.grownBy w5 (some br)) (hR:w.heap.size<=R) (u0 u1 u2 u3 u4 u5:Value):w.grownBy (put6 w5 R u0 u1 u2 u3 u4 u5) (some br):=by
  have hp:=put6_grown w5 R u0 u1 u2 u3 u4 u5
  refine ⟨hp.os.trans hg.os,hp.tape.trans hg.tape,hp.output.trans hg.output,by rw [put6_size];exact hg.size,fun k hk hkr=>?_⟩
  rw [put6_other _ _ _ _ _ _ _ _ k (by omega),hg.block k hk hkr]
theorem grown_set {w w5:World} {br R:Nat} (hg:w.grownBy w5 (some br)) (hR:w.heap.size<=R) (j:Nat) (u:Value):w.grownBy (w5.setCell ⟨R,j,none⟩ u) (some br):=by
  have hp:=set_grown w5 R j u
  refine ⟨hp.os.trans hg.os,hp.tape.trans hg.tape,hp.output.trans hg.output,by simp [World.setCell];exact hg.size,fun k hk hkr=>?_⟩
  rw [Below.heap_setCell w5 ⟨R,j,none⟩ u k (show k≠R by omega),hg.block k hk hkr]
theorem grown_alloc {w w5:World} {br:Nat} (hg:w.grownBy w5 (some br)) (o:Obj):w.grownBy (w5.alloc o) (some br):=grownBy_trans hg (World.grownBy_alloc _ _ _)
theorem rep_on {B br lo n m:Nat} {r:Rd} {w w':World} {v:Value} {t:Tree} (hE:ERep lo w.heap.size w n v t) (h:RdAt B br r w) (hg:w.grownBy w' (some br)) (hn:n<=m) (lo':Nat) (hlo:lo'<=lo):ERep lo' w'.heap.size w' m v t:=
  (hE.carry hlo hg.size (h.same35 hg _ _)).up hn
theorem is_next {r:Rd} (hg:r.good) {s:List UInt8} (hs:s≠[]) (h:r.is s=true):r.next.good/\r.next.ts.length+1=r.ts.length:=by
  rcases good_cases hg with ⟨k,_,e⟩ | ⟨_,_,_,h1,_,h3⟩
  · unfold Rd.is at h
    rw [e] at h
    have h':([]:List UInt8)=s:=by simpa [endT] using h
    exact absurd h'.symm hs
  · exact ⟨h1,h3⟩
theorem three_of {f:Nat} (ih:RExC f) (B br deep:Nat) (r:Rd) (w:World) (h:RdAt B br r w) (hd:deep+f=41):
    Calls Tryz.prog 188 #[.pointer (some ⟨br,0,none⟩),.int .i64 (deep:Int)] w fun e w'=>∃ g,e=.returned (.slice (some ⟨g,0,none⟩) 3 3) /\
     Kids w.heap.size w'.heap.size w' (fun v t=>ERep w.heap.size w'.heap.size w' (gap r (threeOf (exprP f) deep r).2) v t) (.slice (some ⟨g,0,none⟩) 3 3) (threeOf (exprP f) deep r).1/\RdAt B br (threeOf (exprP f) deep r).2 w'/\w.grownBy w' (some br):=by
  obtain ⟨r1,e1⟩:∃ x,r.want [40]=x:=⟨_,rfl⟩
  obtain ⟨t2,r2,e2⟩:∃ t x,exprP f 0 deep r1=(t,x):=⟨_,_,rfl⟩
  obtain ⟨r3,e3⟩:∃ x,r2.want [44]=x:=⟨_,rfl⟩
  obtain ⟨t4,r4,e4⟩:∃ t x,exprP f 0 deep r3=(t,x):=⟨_,_,rfl⟩
  obtain ⟨r5,e5⟩:∃ x,r4.want [44]=x:=⟨_,rfl⟩
  obtain ⟨t6,r6,e6⟩:∃ t x,exprP f 0 deep r5=(t,x):=⟨_,_,rfl⟩
  obtain ⟨r7,e7⟩:∃ x,r6.want [41]=x:=⟨_,rfl⟩
  have et:threeOf (exprP f) deep r=([t2,t4,t6],r7):=by unfold threeOf;simp only [e1,e2,e3,e4,e5,e6,e7]
  rw [et]
  have T1:r.to r1:=e1 ▸ to_want _ _
  have T2:r1.to r2:=by have:=to_expr f 0 deep r1;rw [e2] at this;exact this
  have T3:r2.to r3:=e3 ▸ to_want _ _
  have T4:r3.to r4:=by have:=to_expr f 0 deep r3;rw [e4] at this;exact this
  have T5:r4.to r5:=e5 ▸ to_want _ _
  have T6:r5.to r6:=by have:=to_expr f 0 deep r5;rw [e6] at this;exact this
  have T7:r6.to r7:=e7 ▸ to_want _ _
  have G0:=h.2.1
  have l1:=T1.2.1 G0
  have G1:=T1.1 G0
  have l2:=T2.2.1 G1
  have G2:=T2.1 G1
  have l3:=T3.2.1 G2
  have G3:=T3.1 G2
  have l4:=T4.2.1 G3
  have G4:=T4.1 G3
  have l5:=T5.2.1 G4
  have G5:=T5.1 G4
  have l6:=T6.2.1 G5
  have G6:=T6.1 G5
  have l7:=T7.2.1 G6
  have W1:=want_any B br r ⟨#[40]⟩ [40] rfl w h
  rw [e1] at W1
  have X2:=fun w' h'=>ih B br 0 deep r1 w' h' (by omega) hd
  rw [e2] at X2
  have W3:=fun w' h'=>want_any B br r2 ⟨#[44]⟩ [44] rfl w' h'
  rw [e3] at W3
  have X4:=fun w' h'=>ih B br 0 deep r3 w' h' (by omega) hd
  rw [e4] at X4
  have W5:=fun w' h'=>want_any B br r4 ⟨#[44]⟩ [44] rfl w' h'
  rw [e5] at W5
  have X6:=fun w' h'=>ih B br 0 deep r5 w' h' (by omega) hd
  rw [e6] at X6
  have W7:=fun w' h'=>want_any B br r6 ⟨#[41]⟩ [41] rfl w' h'
  rw [e7] at W7
  have HL:Hid (r7.ts.length<=r6.ts.length/\r6.ts.length<=r5.ts.length/\r5.ts.length<=r4.ts.length/\r4.ts.length<=r3.ts.length/\r3.ts.length<=r2.ts.length/\r2.ts.length<=r1.ts.length/\r1.ts.length<=r.ts.length):=⟨l7,l6,l5,l4,l3,l2,l1⟩
  clear T1 T2 T3 T4 T5 T6 T7 G0 G1 G2 G3 G4 G5 G6 l1 l2 l3 l4 l5 l6 l7 e1 e2 e3 e4 e5 e6 e7 et h
  go_enter Tryz.func188,Tryz.ntmps188
  go_wp2_with (first
    | (go_at_call 60;refine (W7 _ (h6.alloc _)).mono ?_;rintro e w7 ⟨rfl,h7,g7⟩;have bA7:=(h6.alloc _).heap g7 (alloc_keep bA6 _) (by decide);have bB7:=(h6.alloc _).heap g7 (alloc_keep bB6 _) (by decide);have bC7:=(h6.alloc _).heap g7 (heap_alloc_new w6 (.cells #[.int .i64 t6.kind,.int .i64 t6.op,.string t6.name,.int .u64 t6.value,.slice ao6 kl6 cap6,.int .i64 t6.at_] 50)) (by decide);obtain ⟨a0,a1,a2,a3,a4,a5⟩:=box_cells bA7;obtain ⟨b0,b1,b2,b3,b4,b5⟩:=box_cells bB7;obtain ⟨c0,c1,c2,c3,c4,c5⟩:=box_cells bC7)
    | (go_at_call 162;refine (X6 _ h5).mono ?_;rintro e w6 ⟨v6,rfl,E6,h6,g6⟩;obtain ⟨ao6,kl6,cap6,rfl⟩:=erep_agg E6;have bA6:=h5.heap g6 bA5 (by decide);have bB6:=h5.heap g6 bB5 (by decide))
    | (go_at_call 60;refine (W5 _ (h4.alloc _)).mono ?_;rintro e w5 ⟨rfl,h5,g5⟩;have bA5:=(h4.alloc _).heap g5 (alloc_keep bA4 _) (by decide);have bB5:=(h4.alloc _).heap g5 (heap_alloc_new w4 (.cells #[.int .i64 t4.kind,.int .i64 t4.op,.string t4.name,.int .u64 t4.value,.slice ao4 kl4 cap4,.int .i64 t4.at_] 50)) (by decide))
    | (go_at_call 162;refine (X4 _ h3).mono ?_;rintro e w4 ⟨v4,rfl,E4,h4,g4⟩;obtain ⟨ao4,kl4,cap4,rfl⟩:=erep_agg E4;have bA4:=h3.heap g4 bA3 (by decide))
    | (go_at_call 60;refine (W3 _ (h2.alloc _)).mono ?_;rintro e w3 ⟨rfl,h3,g3⟩;have bA3:=(h2.alloc _).heap g3 (heap_alloc_new w2 (.cells #[.int .i64 t2.kind,.int .i64 t2.op,.string t2.name,.int .u64 t2.value,.slice ao2 kl2 cap2,.int .i64 t2.at_] 50)) (by decide))
    | (go_at_call 162;refine (X2 _ h1).mono ?_;rintro e w2 ⟨v2,rfl,E2,h2,g2⟩;obtain ⟨ao2,kl2,cap2,rfl⟩:=erep_agg E2)
    | (go_at_call 60;refine W1.mono ?_;rintro e w1 ⟨rfl,h1,g1⟩))
  go_ret
  obtain ⟨q7,q6,q5,q4,q3,q2,q1⟩:=HL.out
  have k7:=World.grownBy_alloc w7 (.cells #[.int .i64 t2.kind,.int .i64 t2.op,.string t2.name,.int .u64 t2.value,.slice ao2 kl2 cap2,.int .i64 t2.at_,.int .i64 t4.kind,.int .i64 t4.op,.string t4.name,.int .u64 t4.value,.slice ao4 kl4 cap4,.int .i64 t4.at_,.int .i64 t6.kind,.int .i64 t6.op,.string t6.name,.int .u64 t6.value,.slice ao6 kl6 cap6,.int .i64 t6.at_] 50) (some br)
  have k6:=grownBy_trans (grownBy_trans (World.grownBy_alloc w6 _ _) g7) k7
  have k5:=grownBy_trans g6 k6
  have k4:=grownBy_trans (grownBy_trans (World.grownBy_alloc w4 _ _) g5) k5
  have k3:=grownBy_trans g4 k4
  have k2:=grownBy_trans (grownBy_trans (World.grownBy_alloc w2 _ _) g3) k3
  have k1:=grownBy_trans g2 k2
  have k0:=grownBy_trans g1 k1
  have s1:=g1.size
  have s3:=(grownBy_trans g1 (grownBy_trans g2 (grownBy_trans (World.grownBy_alloc w2 _ _) g3))).size
  have s5:=(grownBy_trans (grownBy_trans g1 (grownBy_trans g2 (grownBy_trans (World.grownBy_alloc w2 _ _) g3))) (grownBy_trans g4 (grownBy_trans (World.grownBy_alloc w4 _ _) g5))).size
  have s7:=(grownBy_trans (grownBy_trans (grownBy_trans g1 (grownBy_trans g2 (grownBy_trans (World.grownBy_alloc w2 _ _) g3))) (grownBy_trans g4 (grownBy_trans (World.grownBy_alloc w4 _ _) g5))) (grownBy_trans g6 (grownBy_trans (World.grownBy_alloc w6 _ _) g7))).size
  refine ⟨_,rfl,kids3 (heap_alloc_new w7 _) s7 (by rw [alloc_size];omega) (rep_on E2 h2 k2 (by unfold gap;omega) _ s1) (rep_on E4 h4 k4 (by unfold gap;omega) _ s3) (rep_on E6 h6 k6 (by unfold gap;omega) _ s5),h7.alloc _,k0⟩
theorem erep_leaf {lo B n:Nat} {w:World} (hn:1<=n) (k o:Int) (s:ByteArray) (v:Nat) (a:Int) (hv:v<18446744073709551616):ERep lo B w n (.agg #[.int .i64 k,.int .i64 o,.string s,.int .u64 (v:Int),.slice none 0 0,.int .i64 a]) ⟨k,o,s,v,[],a⟩:=
  ERep.up (n:=1) (show ERep lo B w 1 (.agg #[.int .i64 k,.int .i64 o,.string s,.int .u64 (v:Int),.slice none 0 0,.int .i64 a]) ⟨k,o,s,v,[],a⟩ from ⟨hv,_,rfl,kids0⟩) hn
theorem erep_kids {lo B n m:Nat} {w:World} (k o:Int) (s:ByteArray) (v:Nat) (a:Int) (ks:List Tree) (kv:Value) (hv:v<18446744073709551616) (hk:Kids lo B w (fun v t=>ERep lo B w n v t) kv ks) (hm:n+1<=m):
    ERep lo B w m (.agg #[.int .i64 k,.int .i64 o,.string s,.int .u64 (v:Int),kv,.int .i64 a]) ⟨k,o,s,v,ks,a⟩:=
  ERep.up (n:=n+1) (show ERep lo B w (n+1) (.agg #[.int .i64 k,.int .i64 o,.string s,.int .u64 (v:Int),kv,.int .i64 a]) ⟨k,o,s,v,ks,a⟩ from ⟨hv,kv,rfl,hk⟩) hm
@[reducible] def nameO (t:Tok):Obj:=.cells #[.int .i64 1,.int .i64 0,.string (bstr t.text),.int .u64 0,.slice none 0 0,.int .i64 (t.at_:Int)] 50
theorem named_no (B br deep f:Nat) (t:Tok) (r:Rd) (w:World) (h:RdAt B br r w) (hi:r.is [91]=false):
    Calls Tryz.prog 189 #[.pointer (some ⟨br,0,none⟩),.agg #[.int .i64 (t.kind:Int),.string (bstr t.text),.int .u64 (t.value:Int),.int .i64 (t.at_:Int)],.int .i64 (deep:Int)] w (Mde B br w r (namedOf (exprP f) t deep r)):=by
  have et:namedOf (exprP f) t deep r=(⟨1,0,bstr t.text,0,[],t.at_⟩,r):=by unfold namedOf;rw [hi];rfl
  rw [et]
  have hW:RdAt B br r (((w.alloc (tokO t)).alloc zeroE).alloc (nameO t)):=((h.alloc _).alloc _).alloc _
  have hG:w.grownBy (((w.alloc (tokO t)).alloc zeroE).alloc (nameO t)) (some br):=grown_alloc (grown_alloc (World.grownBy_alloc w _ _) _) _
  have hz:(((w.alloc (tokO t)).alloc zeroE).alloc (nameO t)).heap[w.heap.size+1]?=some zeroE:=by rw [alloc_at,if_neg (by simp),alloc_at,if_pos (by simp)]
  have he:(((w.alloc (tokO t)).alloc zeroE).alloc (nameO t)).heap[w.heap.size+2]?=some (nameO t):=by rw [alloc_at,if_pos (by simp)]
  have hlt:=h.lt
  have T1:=take_no B br r ⟨#[91]⟩ [91] rfl _ hW hi
  have HZ:=Lib.hid hz
  have HE:=Lib.hid he
  have HW:=Lib.hid hW
  have HG:=Lib.hid hG
  clear hW hG hz he h hi et
  go_enter Tryz.func189,Tryz.ntmps189
  go_wp2_with (go_at_call 86;refine T1.mono ?_;rintro e w1 ⟨rfl,h1,g1⟩;have z1:=HW.out.heap g1 HZ.out (by decide);have e1:=HW.out.heap g1 HE.out (by decide);obtain ⟨c0,c1,c2,c3,c4,c5⟩:=box_cells e1;obtain ⟨d0,d1,d2,d3,d4,d5⟩:=box_free z1;obtain ⟨x0,x1,x2,x3,x4,x5⟩:=box_cells z1;have hz1:=heap_lt z1)
  have hP:=put6_heap z1 (.int .i64 1) (.int .i64 0) (.string (bstr t.text)) (.int .u64 0) (.slice none 0 0) (.int .i64 (t.at_:Int))
  obtain ⟨q0,q1,q2,q3,q4,q5⟩:=box_cells hP
  exact bodyPost_ret (v:=.agg #[.int .i64 1,.int .i64 0,.string (bstr t.text),.int .u64 0,.slice none 0 0,.int .i64 (t.at_:Int)]) (by simp [results,Tryz.results189,go_sem,q0,q1,q2,q3,q4,q5]) rfl
    ⟨_,rfl,erep_leaf (show 1<=r.ts.length+1-r.ts.length by omega) 1 0 _ 0 _ (by decide),h1.put6 z1 _ _ _ _ _ _,grown_put6 (grownBy_trans HG.out g1) (by omega) _ _ _ _ _ _⟩
theorem named_yes {f:Nat} (ih:RExC f) (B br deep:Nat) (t:Tok) (r:Rd) (w:World) (h:RdAt B br r w) (hi:r.is [91]=true) (hd:deep+1+f=41):
    Calls Tryz.prog 189 #[.pointer (some ⟨br,0,none⟩),.agg #[.int .i64 (t.kind:Int),.string (bstr t.text),.int .u64 (t.value:Int),.int .i64 (t.at_:Int)],.int .i64 (deep:Int)] w (Mde B br w r (namedOf (exprP f) t deep r)):=by
  obtain ⟨t2,r2,e2⟩:∃ t x,exprP f 0 (deep+1) r.next=(t,x):=⟨_,_,rfl⟩
  obtain ⟨r3,e3⟩:∃ x,r2.want [93]=x:=⟨_,rfl⟩
  have et:namedOf (exprP f) t deep r=(⟨2,0,bstr t.text,0,[t2],t.at_⟩,r3):=by unfold namedOf;rw [hi,if_pos rfl,e2];simp only [e3]
  rw [et]
  obtain ⟨G1,l1⟩:=is_next h.2.1 (by simp) hi
  have T2:r.next.to r2:=by have:=to_expr f 0 (deep+1) r.next;rw [e2] at this;exact this
  have T3:r2.to r3:=e3 ▸ to_want _ _
  have l2:=T2.2.1 G1
  have l3:=T3.2.1 (T2.1 G1)
  have X2:∀ w',RdAt B br r.next w'->Calls Tryz.prog 162 #[.pointer (some ⟨br,0,none⟩),.int .i64 0,.int .i64 ((deep:Int)+1)] w' (Mde B br w' r.next (t2,r2)):=fun w' h'=>by
    have:=ih B br 0 (deep+1) r.next w' h' (by omega) (by omega)
    rw [e2] at this
    exact this
  have W3:=fun w' h'=>want_any B br r2 ⟨#[93]⟩ [93] rfl w' h'
  rw [e3] at W3
  have hW:RdAt B br r (((w.alloc (tokO t)).alloc zeroE).alloc (nameO t)):=((h.alloc _).alloc _).alloc _
  have hG:w.grownBy (((w.alloc (tokO t)).alloc zeroE).alloc (nameO t)) (some br):=grown_alloc (grown_alloc (World.grownBy_alloc w _ _) _) _
  have hz:(((w.alloc (tokO t)).alloc zeroE).alloc (nameO t)).heap[w.heap.size+1]?=some zeroE:=by rw [alloc_at,if_neg (by simp),alloc_at,if_pos (by simp)]
  have he:(((w.alloc (tokO t)).alloc zeroE).alloc (nameO t)).heap[w.heap.size+2]?=some (nameO t):=by rw [alloc_at,if_pos (by simp)]
  have hlt:=h.lt
  have T1:=take_yes B br r ⟨#[91]⟩ [91] rfl _ hW hi
  have HZ:=Lib.hid hz
  have HE:=Lib.hid he
  have HW:=Lib.hid hW
  have HG:=Lib.hid hG
  have HL:Hid (r.next.ts.length+1=r.ts.length/\r2.ts.length<=r.next.ts.length/\r3.ts.length<=r2.ts.length):=⟨l1,l2,l3⟩
  have hdd:deep<=41:=by omega
  clear hW hG hz he h hi et e2 e3 T2 T3 l1 l2 l3 G1 hd
  go_enter Tryz.func189,Tryz.ntmps189
  go_wp2_with (first
    | (go_at_call 60;refine (W3 _ ((h2.set b2 notRd 4 _).alloc _)).mono ?_;rintro e w3 ⟨rfl,h3,g3⟩;have b3:w3.heap[w.heap.size+2]?=some (.cells #[.int .i64 2,.int .i64 0,.string (bstr t.text),.int .u64 0,.slice (some ⟨w2.heap.size,0,none⟩) 1 1,.int .i64 (t.at_:Int)] 50 (0,0)):=((h2.set b2 notRd 4 _).alloc _).heap g3 (alloc_keep (set_heap b2 4 _) _) (by decide);have z3:w3.heap[w.heap.size+1]?=some zeroE:=((h2.set b2 notRd 4 _).alloc _).heap g3 (alloc_keep ((Below.heap_setCell _ _ _ _ (by simp)).trans z2) _) (by decide);obtain ⟨c0,c1,c2,c3,c4,c5⟩:=box_cells b3;obtain ⟨d0,d1,d2,d3,d4,d5⟩:=box_free z3;obtain ⟨x0,x1,x2,x3,x4,x5⟩:=box_cells z3;have hz3:=heap_lt z3)
    | (go_at_call 162;refine (X2 _ (h1.set b1 notRd 0 _)).mono ?_;rintro e w2 ⟨v2,rfl,E2,h2,g2⟩;obtain ⟨ao2,kl2,cap2,rfl⟩:=erep_agg E2;have b2:w2.heap[w.heap.size+2]?=some (.cells #[.int .i64 2,.int .i64 0,.string (bstr t.text),.int .u64 0,.slice none 0 0,.int .i64 (t.at_:Int)] 50 (0,0)):=(h1.set b1 notRd 0 _).heap g2 (set_heap b1 0 _) (by decide);have z2:w2.heap[w.heap.size+1]?=some zeroE:=(h1.set b1 notRd 0 _).heap g2 ((Below.heap_setCell _ _ _ _ (by simp)).trans z1) (by decide);obtain ⟨y0,y1,y2,y3,y4,y5⟩:=box_cells b2;obtain ⟨m0,m1,m2,m3,m4,m5⟩:=box_free b2;have hb2:=heap_lt b2)
    | (go_at_call 86;refine T1.mono ?_;rintro e w1 ⟨rfl,h1,g1⟩;have z1:=HW.out.heap g1 HZ.out (by decide);have b1:=HW.out.heap g1 HE.out (by decide);obtain ⟨p0,p1,p2,p3,p4,p5⟩:=box_cells b1;obtain ⟨n0,n1,n2,n3,n4,n5⟩:=box_free b1;have hb1:=heap_lt b1))
  have hP:=put6_heap z3 (.int .i64 2) (.int .i64 0) (.string (bstr t.text)) (.int .u64 0) (.slice (some ⟨w2.heap.size,0,none⟩) 1 1) (.int .i64 (t.at_:Int))
  obtain ⟨q0,q1,q2,q3,q4,q5⟩:=box_cells hP
  obtain ⟨l1,l2,l3⟩:=HL.out
  have s1:=(grownBy_trans HG.out g1).size
  have s1':=g1.size
  simp only [alloc_size] at s1'
  have s2:=g2.size
  have hss:(w1.setCell ⟨w.heap.size+2,0,none⟩ (.int .i64 2)).heap.size=w1.heap.size:=by simp [World.setCell]
  rw [hss] at s2
  have hss2:(w2.setCell ⟨w.heap.size+2,4,none⟩ (.slice (some ⟨w2.heap.size,0,none⟩) 1 1)).heap.size=w2.heap.size:=by simp [World.setCell]
  have hnew:w3.heap[w2.heap.size]?=some (.cells #[.int .i64 t2.kind,.int .i64 t2.op,.string t2.name,.int .u64 t2.value,.slice ao2 kl2 cap2,.int .i64 t2.at_] 50 (0,0)):=
    ((h2.set b2 notRd 4 _).alloc _).heap g3 (by rw [alloc_at,hss2,if_pos rfl]) (by decide)
  have hnP:=(put6_other w3 (w.heap.size+1) (.int .i64 2) (.int .i64 0) (.string (bstr t.text)) (.int .u64 0) (.slice (some ⟨w2.heap.size,0,none⟩) 1 1) (.int .i64 (t.at_:Int)) w2.heap.size (by omega)).trans hnew
  have hlt3:=heap_lt hnew
  have kid:ERep w.heap.size (put6 w3 (w.heap.size+1) (.int .i64 2) (.int .i64 0) (.string (bstr t.text)) (.int .u64 0) (.slice (some ⟨w2.heap.size,0,none⟩) 1 1) (.int .i64 (t.at_:Int))).heap.size (put6 w3 (w.heap.size+1) (.int .i64 2) (.int .i64 0) (.string (bstr t.text)) (.int .u64 0) (.slice (some ⟨w2.heap.size,0,none⟩) 1 1) (.int .i64 (t.at_:Int))) (gap r.next r2) _ t2:=
    E2.carry (by rw [hss];omega) (by rw [put6_size];omega) fun g cs fr hlo hhi hc=>by
     rw [hss] at hlo
     exact (put6_other _ _ _ _ _ _ _ _ g (by omega)).trans (((h2.set b2 notRd 4 _).alloc _).heap g3 (alloc_keep ((Below.heap_setCell _ _ _ _ (show g≠w.heap.size+2 by omega)).trans hc) _) (by decide))
  have hgr:w.grownBy w3 (some br):=grownBy_trans (grown_alloc (grown_set (grownBy_trans (grown_set (grownBy_trans HG.out g1) (by omega) _ _) g2) (by omega) _ _) _) g3
  have kk:=kids1 (lo:=w.heap.size) (B:=(put6 w3 (w.heap.size+1) (.int .i64 2) (.int .i64 0) (.string (bstr t.text)) (.int .u64 0) (.slice (some ⟨w2.heap.size,0,none⟩) 1 1) (.int .i64 (t.at_:Int))).heap.size) (R:=fun v t'=>ERep w.heap.size (put6 w3 (w.heap.size+1) (.int .i64 2) (.int .i64 0) (.string (bstr t.text)) (.int .u64 0) (.slice (some ⟨w2.heap.size,0,none⟩) 1 1) (.int .i64 (t.at_:Int))).heap.size (put6 w3 (w.heap.size+1) (.int .i64 2) (.int .i64 0) (.string (bstr t.text)) (.int .u64 0) (.slice (some ⟨w2.heap.size,0,none⟩) 1 1) (.int .i64 (t.at_:Int))) (gap r.next r2) v t') hnP (by omega) (by rw [put6_size];omega) kid
  have res:=erep_kids (m:=gap r r3) 2 0 (bstr t.text) 0 (t.at_:Int) [t2] _ (by decide) kk (by unfold gap;omega)
  exact bodyPost_ret (v:=.agg #[.int .i64 2,.int .i64 0,.string (bstr t.text),.int .u64 0,.slice (some ⟨w2.heap.size,0,none⟩) 1 1,.int .i64 (t.at_:Int)]) (by simp [results,Tryz.results189,go_sem,q0,q1,q2,q3,q4,q5]) rfl
    ⟨_,rfl,res,h3.put6 z3 _ _ _ _ _ _,grown_put6 hgr (by omega) _ _ _ _ _ _⟩
theorem named_of {f:Nat} (ih:RExC f) (B br deep:Nat) (t:Tok) (r:Rd) (w:World) (h:RdAt B br r w) (hd:deep+1+f=41):
    Calls Tryz.prog 189 #[.pointer (some ⟨br,0,none⟩),.agg #[.int .i64 (t.kind:Int),.string (bstr t.text),.int .u64 (t.value:Int),.int .i64 (t.at_:Int)],.int .i64 (deep:Int)] w (Mde B br w r (namedOf (exprP f) t deep r)):=by
  cases hi:r.is [91] with
  | true=>exact named_yes ih B br deep t r w h hi hd
  | false=>exact named_no B br deep f t r w h hi
end Go.Proofs.YtlepckjmdjjolaaGreatDoor.Pr
