/- Own texts laid together: PBits, TreeKids. Conditions: as each theorem says. -/
import Derived.Test.YtlepckjmdjjolaaGreatDoorRows
import Derived.Test.YtlepckjmdjjolaaGreatDoorGTreeB
import Derived.Lib.ItoaNum
import Derived.Lib.UnsafeStr
import Derived.WalkKit
import Derived.ProofKit
import Derived.OpenShut
import Derived.RegionTactic
import Derived.Lib.Builder
import Derived.Lib.AppendStr
import Derived.Laws.Externs
import Derived.Lib.ItoaMem
import Derived.Lib.ItoaLen
import Derived.Lib.AppendIntMem
import Derived.BigCall
import Derived.BigGuard
import Derived.Deep.RegionWith
import Derived.BigRegion
import Derived.Lib.ConvBytes
import Derived.Deep.AppendLies
import Derived.Orders
import Derived.Deep.QuietTactic
import Derived.BigQuiet
import Derived.Deep.RegionHeld3
import Derived.Deep.DrawnRows
set_option linter.unusedVariables false
set_option linter.unusedSimpArgs false
namespace Go.Proofs.YtlepckjmdjjolaaGreatDoor
open Go.ChangeShapes Go.WideShapes Go.ChangeAt Go.RowKit
theorem heap_lt {w:World} {b:Nat} {o:Obj} (h:w.heap[b]?=some o):b<w.heap.size:=by
 rcases Nat.lt_or_ge b w.heap.size with h' | h'
 · exact h'
 · simp [Array.getElem?_eq_none h'] at h
def Kids (lo B:Nat) (w:World) (R:Value->Tree->Prop) (v:Value) (ks:List Tree):Prop:=
 ∃ ao cap,v=.slice ao ks.length cap/\(ks.length<=4294967296/\ks.length<=cap)/\∀ i k,ks[i]?=some k->∃ g off c0 c1 c2 c3 c4 c5,ao=some ⟨g,off,none⟩/\lo<=g/\g<B/\(∃ cs fr,w.heap[g]?=some (.cells cs 50 fr)) /\
   w.cell? ⟨g,off+i*6,none⟩=some c0/\w.cell? ⟨g,off+i*6+1,none⟩=some c1/\w.cell? ⟨g,off+i*6+2,none⟩=some c2/\w.cell? ⟨g,off+i*6+3,none⟩=some c3/\w.cell? ⟨g,off+i*6+4,none⟩=some c4/\w.cell? ⟨g,off+i*6+5,none⟩=some c5 /\
   R (.agg #[c0,c1,c2,c3,c4,c5]) k
def ERep (lo B:Nat) (w:World):Nat->Value->Tree->Prop
 | 0,_,_=>False
 | n+1,v,t=>t.value<18446744073709551616/\∃ kv,v=.agg #[.int .i64 t.kind,.int .i64 t.op,.string t.name,.int .u64 t.value,kv,.int .i64 t.at_]/\Kids lo B w (fun v' t'=>ERep lo B w n v' t') kv t.kids
def Same35 (lo B:Nat) (w w':World):Prop:=∀ g cs fr,lo<=g->g<B->w.heap[g]?=some (.cells cs 50 fr)->w'.heap[g]?=some (.cells cs 50 fr)
theorem Same35.of_below {lo B:Nat} {w w':World} (hb:Below B w w'):Same35 lo B w w':=fun g cs fr _ hg h=>(hb.block g hg).trans h
theorem Same35.refl (lo B:Nat) (w:World):Same35 lo B w w:=fun _ _ _ _ _ h=>h
theorem Kids.carry {lo lo' B B':Nat} {w w':World} {R R':Value->Tree->Prop} {v:Value} {ks:List Tree} (h:Kids lo B w R v ks) (hlo:lo'<=lo) (hB:B<=B') (hb:Same35 lo B w w') (hR:∀ v k,R v k->R' v k):Kids lo' B' w' R' v ks:=by
 obtain ⟨ao,cap,rfl,hl,h⟩:=h
 refine ⟨ao,cap,rfl,hl,fun i k hk=>?_⟩
 obtain ⟨g,off,c0,c1,c2,c3,c4,c5,e,hgl,hg,⟨cs,fr,hc⟩,h0,h1,h2,h3,h4,h5,hr⟩:=h i k hk
 have hc':=hb g cs fr hgl hg hc
 have key:∀ o,w'.cell? ⟨g,o,none⟩=w.cell? ⟨g,o,none⟩:=fun o=>World.cell?_of_block (by rw [hc',hc])
 exact ⟨g,off,c0,c1,c2,c3,c4,c5,e,by omega,by omega,⟨cs,fr,hc'⟩,(key _).trans h0,(key _).trans h1,(key _).trans h2,(key _).trans h3,(key _).trans h4,(key _).trans h5,hR _ _ hr⟩
theorem ERep.carry {lo lo' B B':Nat} {w w':World} (hlo:lo'<=lo) (hB:B<=B') (hb:Same35 lo B w w'):∀ {n:Nat} {v:Value} {t:Tree},ERep lo B w n v t->ERep lo' B' w' n v t
 | 0,_,_,h=>h.elim
 | n+1,v,t,⟨h1,kv,h2,h3⟩=>⟨h1,kv,h2,h3.carry hlo hB hb fun _ _ hr=>ERep.carry hlo hB hb hr⟩
theorem ERep.mono {lo B B':Nat} {w w':World} (hB:B<=B') (hb:Below B w w') {n:Nat} {v:Value} {t:Tree} (h:ERep lo B w n v t):ERep lo B' w' n v t:=h.carry (Nat.le_refl _) hB (Same35.of_below hb)
theorem Kids.on {lo B:Nat} {w w':World} {n:Nat} {v:Value} {ks:List Tree} (h:Kids lo B w (fun v' t'=>ERep lo B w n v' t') v ks) (hb:Below B w w'):Kids lo B w' (fun v' t'=>ERep lo B w' n v' t') v ks:=
 h.carry (Nat.le_refl _) (Nat.le_refl _) (Same35.of_below hb) fun _ _ hr=>hr.mono (Nat.le_refl _) hb
theorem ERep.lift {lo B:Nat} {w:World} : ∀ {n:Nat} {v:Value} {t:Tree},ERep lo B w n v t->ERep lo B w (n+1) v t
 | 0,_,_,h=>h.elim
 | n+1,v,t,⟨h1,kv,h2,h3⟩=>⟨h1,kv,h2,h3.carry (Nat.le_refl _) (Nat.le_refl _) (Same35.refl _ _ _) fun _ _ hr=>ERep.lift hr⟩
theorem ERep.up {lo B:Nat} {w:World} {n:Nat} {v:Value} {t:Tree} (h:ERep lo B w n v t):∀ {m:Nat},n<=m->ERep lo B w m v t:=fun {m} hm=>by
 induction m with
 | zero=>obtain rfl:n=0:=by omega
         exact h
 | succ m ih=>
   by_cases e:n=m+1
   · subst e;exact h
   · exact (ih (by omega)).lift
theorem alloc_at (w:World) (o:Obj) (k:Nat):(w.alloc o).heap[k]?=if k=w.heap.size then some o else w.heap[k]?:=by
 show (w.heap.push o)[k]?=_
 rw [Array.getElem?_push]
theorem alloc_size (w:World) (o:Obj):(w.alloc o).heap.size=w.heap.size+1:=by simp
theorem grownBy_refl (w:World) (r:Option Nat):w.grownBy w r:=⟨rfl,rfl,rfl,Nat.le_refl _,fun _ _ _=>rfl⟩
theorem grownBy_trans {a b c:World} {r:Option Nat} (h:a.grownBy b r) (k:b.grownBy c r):a.grownBy c r:=
 ⟨k.os.trans h.os,k.tape.trans h.tape,k.output.trans h.output,Nat.le_trans h.size k.size,fun i hi hr=>(k.block i (Nat.lt_of_lt_of_le hi h.size) hr).trans (h.block i hi hr)⟩
theorem grownBy_below {w w':World} {r:Option Nat} (hb:Below w.heap.size w w'):w.grownBy w' r:=⟨hb.os,hb.tape,hb.output,hb.size,fun k hk _=>hb.block k hk⟩
theorem box_free {w:World} {k:Nat} {x0 x1 x2 x3 x4 x5:Value} (h:w.heap[k]?=some (.cells #[x0,x1,x2,x3,x4,x5] 50 (0,0))):
    w.frozen? ⟨k,0,none⟩=false/\w.frozen? ⟨k,1,none⟩=false/\w.frozen? ⟨k,2,none⟩=false/\w.frozen? ⟨k,3,none⟩=false/\w.frozen? ⟨k,4,none⟩=false/\w.frozen? ⟨k,5,none⟩=false:=
 ⟨Lib.frozen_of_heap h 0,Lib.frozen_of_heap h 1,Lib.frozen_of_heap h 2,Lib.frozen_of_heap h 3,Lib.frozen_of_heap h 4,Lib.frozen_of_heap h 5⟩
@[reducible] def put6 (w:World) (r:Nat) (u0 u1 u2 u3 u4 u5:Value):World:=
  (((((w.setCell ⟨r,0,none⟩ u0).setCell ⟨r,1,none⟩ u1).setCell ⟨r,2,none⟩ u2).setCell ⟨r,3,none⟩ u3).setCell ⟨r,4,none⟩ u4).setCell ⟨r,5,none⟩ u5
theorem set_heap {w:World} {b:Nat} {cs:Array Value} {t:TypeId} {fr:Nat × Nat} (h:w.heap[b]?=some (.cells cs t fr)) (j:Nat) (u:Value):(w.setCell ⟨b,j,none⟩ u).heap[b]?=some (.cells (cs.setIfInBounds j u) t fr):=by
  simp [World.setCell,Array.getElem?_modify,h]
theorem put6_heap {w:World} {r:Nat} {x0 x1 x2 x3 x4 x5:Value} (h:w.heap[r]?=some (.cells #[x0,x1,x2,x3,x4,x5] 50 (0,0))) (u0 u1 u2 u3 u4 u5:Value):
    (put6 w r u0 u1 u2 u3 u4 u5).heap[r]?=some (.cells #[u0,u1,u2,u3,u4,u5] 50 (0,0)):=set_heap (set_heap (set_heap (set_heap (set_heap (set_heap h 0 u0) 1 u1) 2 u2) 3 u3) 4 u4) 5 u5
theorem put6_other (w:World) (r:Nat) (u0 u1 u2 u3 u4 u5:Value) (k:Nat) (h:k≠r):(put6 w r u0 u1 u2 u3 u4 u5).heap[k]?=w.heap[k]?:=by
  have key:∀ (w:World) (j:Nat) (u:Value),(w.setCell ⟨r,j,none⟩ u).heap[k]?=w.heap[k]?:=fun w j u=>Below.heap_setCell w ⟨r,j,none⟩ u k h
  rw [put6,key,key,key,key,key,key]
theorem put6_size (w:World) (r:Nat) (u0 u1 u2 u3 u4 u5:Value):(put6 w r u0 u1 u2 u3 u4 u5).heap.size=w.heap.size:=by simp [put6,World.setCell]
theorem set_grown (w:World) (r j:Nat) (u:Value):w.grownBy (w.setCell ⟨r,j,none⟩ u) (some r):=⟨rfl,rfl,rfl,by simp [World.setCell],fun k _ hk=>Below.heap_setCell _ _ _ _ (fun e=>hk (by simp [e]))⟩
theorem put6_grown (w:World) (r:Nat) (u0 u1 u2 u3 u4 u5:Value):w.grownBy (put6 w r u0 u1 u2 u3 u4 u5) (some r):=
  grownBy_trans (grownBy_trans (grownBy_trans (grownBy_trans (grownBy_trans (set_grown _ _ _ _) (set_grown _ _ _ _)) (set_grown _ _ _ _)) (set_grown _ _ _ _)) (set_grown _ _ _ _)) (set_grown _ _ _ _)
@[reducible] def zeroE:Obj:=.cells #[.int .i64 0,.int .i64 0,.string ⟨#[]⟩,.int .u64 0,.slice none 0 0,.int .i64 0] 50
theorem zeroE_at (w:World):(w.alloc zeroE).heap[w.heap.size]?=some (.cells #[.int .i64 0,.int .i64 0,.string ⟨#[]⟩,.int .u64 0,.slice none 0 0,.int .i64 0] 50 (0,0)):=heap_alloc_new w _
theorem carry_alloc {lo lo' n m:Nat} {w4:World} {v:Value} {t:Tree} (hE:ERep lo' w4.heap.size w4 n v t) (o:Obj) (hlo:lo<=lo') (hn:n<=m):ERep lo (w4.alloc o).heap.size (w4.alloc o) m v t:=
  ((hE.carry hlo (Nat.le_refl _) (Same35.refl _ _ _)).mono (by rw [alloc_size];omega) ((Below.refl _ _).alloc (Nat.le_refl _) o)).up hn
theorem grown_drew {w w':World} {r:Option Nat} (h:w.drew.grownBy w' r):w.grownBy w' r:=⟨h.os,h.tape,h.output,h.size,h.block⟩
def Stms (lo B:Nat) (w:World) (R:Value->Stm->Prop) (v:Value) (ss:List Stm):Prop:=
  ∃ ao cap,v=.slice ao ss.length cap/\ss.length<=4294967296/\∀ i s,ss[i]?=some s->∃ g off c0 c1 c2 c3 c4 c5 c6,ao=some ⟨g,off,none⟩/\lo<=g/\g<B/\(∃ cs fr,w.heap[g]?=some (.cells cs 45 fr)/\fr=(0,0)/\off=0) /\
    w.cell? ⟨g,off+i*7,none⟩=some c0/\w.cell? ⟨g,off+i*7+1,none⟩=some c1/\w.cell? ⟨g,off+i*7+2,none⟩=some c2/\w.cell? ⟨g,off+i*7+3,none⟩=some c3/\w.cell? ⟨g,off+i*7+4,none⟩=some c4/\w.cell? ⟨g,off+i*7+5,none⟩=some c5/\w.cell? ⟨g,off+i*7+6,none⟩=some c6 /\
    R (.agg #[c0,c1,c2,c3,c4,c5,c6]) s
def SRep (lo B:Nat) (w:World) (m:Nat):Nat->Value->Stm->Prop
  | 0,_,_=>False
  | n+1,v,s => -9223372036854775808<=s.count/\s.count<=9223372036854775807/\s.name.size<=35184372088832/\∃ eao ecap bao bcap lao lcap,v=.agg #[.int .i64 s.kind,.string s.name,.slice eao s.exprs.length ecap,.int .i64 s.count,.slice bao s.body.length bcap,.slice lao s.els.length lcap,.int .i64 s.at_] /\
     Kids lo B w (fun v' t'=>ERep lo B w m v' t') (.slice eao s.exprs.length ecap) s.exprs/\Stms lo B w (fun v' s'=>SRep lo B w m n v' s') (.slice bao s.body.length bcap) s.body/\Stms lo B w (fun v' s'=>SRep lo B w m n v' s') (.slice lao s.els.length lcap) s.els
def Same45 (lo B:Nat) (w w':World):Prop:=∀ g cs fr,lo<=g->g<B->w.heap[g]?=some (.cells cs 45 fr)->w'.heap[g]?=some (.cells cs 45 fr)
theorem Same45.of_below {lo B:Nat} {w w':World} (hb:Below B w w'):Same45 lo B w w':=fun g cs fr _ hg h=>(hb.block g hg).trans h
theorem Stms.carry {lo lo' B B':Nat} {w w':World} {R R':Value->Stm->Prop} {v:Value} {ss:List Stm} (h:Stms lo B w R v ss) (hlo:lo'<=lo) (hB:B<=B') (hb:Same45 lo B w w') (hR:∀ v k,R v k->R' v k):Stms lo' B' w' R' v ss:=by
  obtain ⟨ao,cap,rfl,hl,h⟩:=h
  refine ⟨ao,cap,rfl,hl,fun i k hk=>?_⟩
  obtain ⟨g,off,c0,c1,c2,c3,c4,c5,c6,e,hgl,hg,⟨cs,fr,hc,hz⟩,h0,h1,h2,h3,h4,h5,h6,hr⟩:=h i k hk
  have hc':=hb g cs fr hgl hg hc
  have key:∀ o,w'.cell? ⟨g,o,none⟩=w.cell? ⟨g,o,none⟩:=fun o=>World.cell?_of_block (by rw [hc',hc])
  exact ⟨g,off,c0,c1,c2,c3,c4,c5,c6,e,by omega,by omega,⟨cs,fr,hc',hz⟩,(key _).trans h0,(key _).trans h1,(key _).trans h2,(key _).trans h3,(key _).trans h4,(key _).trans h5,(key _).trans h6,hR _ _ hr⟩
theorem SRep.carry {lo lo' B B' m:Nat} {w w':World} (hlo:lo'<=lo) (hB:B<=B') (h35:Same35 lo B w w') (h45:Same45 lo B w w'):∀ {n:Nat} {v:Value} {s:Stm},SRep lo B w m n v s->SRep lo' B' w' m n v s
  | 0,_,_,h=>h.elim
  | n+1,v,s,⟨h1,h2,hn,eao,ecap,bao,bcap,lao,lcap,h3,h4,h5,h6⟩=>
    ⟨h1,h2,hn,eao,ecap,bao,bcap,lao,lcap,h3,h4.carry hlo hB h35 fun _ _ hr=>ERep.carry hlo hB h35 hr,h5.carry hlo hB h45 fun _ _ hr=>SRep.carry hlo hB h35 h45 hr,h6.carry hlo hB h45 fun _ _ hr=>SRep.carry hlo hB h35 h45 hr⟩
theorem SRep.on {lo B m n:Nat} {w w':World} {v:Value} {s:Stm} (h:SRep lo B w m n v s) (hb:Below B w w'):SRep lo B w' m n v s:=h.carry (Nat.le_refl _) (Nat.le_refl _) (Same35.of_below hb) (Same45.of_below hb)
theorem Stms.on {lo B m n:Nat} {w w':World} {v:Value} {ss:List Stm} (h:Stms lo B w (fun v' s'=>SRep lo B w m n v' s') v ss) (hb:Below B w w'):Stms lo B w' (fun v' s'=>SRep lo B w' m n v' s') v ss:=
  h.carry (Nat.le_refl _) (Nat.le_refl _) (Same45.of_below hb) fun _ _ hr=>hr.on hb
theorem stmt_cells {w:World} {k:Nat} {x0 x1 x2 x3 x4 x5 x6:Value} (h:w.heap[k]?=some (.cells #[x0,x1,x2,x3,x4,x5,x6] 45 (0,0))):
    w.cell? ⟨k,0,none⟩=some x0/\w.cell? ⟨k,1,none⟩=some x1/\w.cell? ⟨k,2,none⟩=some x2/\w.cell? ⟨k,3,none⟩=some x3/\w.cell? ⟨k,4,none⟩=some x4/\w.cell? ⟨k,5,none⟩=some x5/\w.cell? ⟨k,6,none⟩=some x6:=by
  refine ⟨?_,?_,?_,?_,?_,?_,?_⟩ <;> (rw [Lib.cell_of_heap h];rfl)
def dagg (d:Dcl):Value:=.agg #[.bool d.lock,.int .i64 d.label,.string d.name,.int .i64 d.size,.string d.by_,.int .i64 d.at_]
def dfit (d:Dcl):Prop := -9223372036854775808<=d.size/\d.size<=9223372036854775807/\d.name.size<=35184372088832/\d.by_.size<=35184372088832
theorem decl_cells {w:World} {k:Nat} {x0 x1 x2 x3 x4 x5:Value} (h:w.heap[k]?=some (.cells #[x0,x1,x2,x3,x4,x5] 39 (0,0))):
    w.cell? ⟨k,0,none⟩=some x0/\w.cell? ⟨k,1,none⟩=some x1/\w.cell? ⟨k,2,none⟩=some x2/\w.cell? ⟨k,3,none⟩=some x3/\w.cell? ⟨k,4,none⟩=some x4/\w.cell? ⟨k,5,none⟩=some x5:=by
  refine ⟨?_,?_,?_,?_,?_,?_⟩ <;> (rw [Lib.cell_of_heap h];rfl)
def Dcls (lo B:Nat) (w:World) (v:Value) (ds:List Dcl):Prop:=
  ∃ ao cap,v=.slice ao ds.length cap/\ds.length<=4294967296/\∀ i d,ds[i]?=some d->dfit d/\∃ g off,ao=some ⟨g,off,none⟩/\lo<=g/\g<B/\(∃ cs fr,w.heap[g]?=some (.cells cs 39 fr)/\fr=(0,0)) /\
    w.cell? ⟨g,off+i*6,none⟩=some (.bool d.lock)/\w.cell? ⟨g,off+i*6+1,none⟩=some (.int .i64 d.label)/\w.cell? ⟨g,off+i*6+2,none⟩=some (.string d.name)/\w.cell? ⟨g,off+i*6+3,none⟩=some (.int .i64 d.size)/\w.cell? ⟨g,off+i*6+4,none⟩=some (.string d.by_)/\w.cell? ⟨g,off+i*6+5,none⟩=some (.int .i64 d.at_)
def Thrs (lo B m n:Nat) (w:World) (v:Value) (ts:List (List Stm)):Prop:=
  ∃ ao cap,v=.slice ao ts.length cap/\ts.length<=4294967296/\∀ i ss,ts[i]?=some ss->∃ g off tao tcap,ao=some ⟨g,off,none⟩/\lo<=g/\g<B/\(∃ cs fr,w.heap[g]?=some (.cells cs 40 fr)/\fr=(0,0)) /\
    w.cell? ⟨g,off+i,none⟩=some (.slice tao ss.length tcap)/\Stms lo B w (fun v' s'=>SRep lo B w m n v' s') (.slice tao ss.length tcap) ss
theorem Dcls.on {lo B:Nat} {w w':World} {v:Value} {ds:List Dcl} (h:Dcls lo B w v ds) (hb:Below B w w'):Dcls lo B w' v ds:=by
  obtain ⟨ao,cap,rfl,hl,h⟩:=h
  refine ⟨ao,cap,rfl,hl,fun i d hd=>?_⟩
  obtain ⟨hf,g,off,e,hlo,hg,⟨cs,fr,hc,hz⟩,h0,h1,h2,h3,h4,h5⟩:=h i d hd
  exact ⟨hf,g,off,e,hlo,hg,⟨cs,fr,(hb.block g hg).trans hc,hz⟩,(hb.cell (p:=⟨g,_,none⟩) hg).trans h0,(hb.cell (p:=⟨g,_,none⟩) hg).trans h1,(hb.cell (p:=⟨g,_,none⟩) hg).trans h2,(hb.cell (p:=⟨g,_,none⟩) hg).trans h3,(hb.cell (p:=⟨g,_,none⟩) hg).trans h4,(hb.cell (p:=⟨g,_,none⟩) hg).trans h5⟩
theorem Thrs.on {lo B m n:Nat} {w w':World} {v:Value} {ts:List (List Stm)} (h:Thrs lo B m n w v ts) (hb:Below B w w'):Thrs lo B m n w' v ts:=by
  obtain ⟨ao,cap,rfl,hl,h⟩:=h
  refine ⟨ao,cap,rfl,hl,fun i ss hs=>?_⟩
  obtain ⟨g,off,tao,tcap,e,hlo,hg,⟨cs,fr,hc,hz⟩,h0,h1⟩:=h i ss hs
  exact ⟨g,off,tao,tcap,e,hlo,hg,⟨cs,fr,(hb.block g hg).trans hc,hz⟩,(hb.cell (p:=⟨g,_,none⟩) hg).trans h0,h1.on hb⟩
theorem stms0 {lo B:Nat} {w:World} {R:Value->Stm->Prop} : Stms lo B w R (.slice none 0 0) []:=⟨none,0,rfl,by simp,fun i k h=>by simp at h⟩
def Cells7 (xs:List Value) (i:Nat) (u:Value):Prop:=
  ∃ c0 c1 c2 c3 c4 c5 c6,xs[i*7]?=some c0/\xs[i*7+1]?=some c1/\xs[i*7+2]?=some c2/\xs[i*7+3]?=some c3/\xs[i*7+4]?=some c4/\xs[i*7+5]?=some c5/\xs[i*7+6]?=some c6/\u=.agg #[c0,c1,c2,c3,c4,c5,c6]
def StRow (lo n:Nat) (w:World) (v:Value) (ss:List Stm):Prop:=
  ∃ xs,w.ownsRow lo 45 7 v ss.length xs/\lo<=w.heap.size/\∀ i s,ss[i]?=some s->∃ a b u,Cells7 xs i u/\lo<=a/\b<=w.heap.size/\(∀ g,v.ownBlock=some g->g<a\/b<=g)/\SRep a b w 13 n u s
theorem StRow.nil {lo n:Nat} {w:World} (h:lo<=w.heap.size):StRow lo n w (.slice none 0 0) []:=⟨[],World.ownsRow_nil _ _ _ _,h,fun i s hs=>by simp at hs⟩
theorem StRow.stms {lo n:Nat} {w:World} {v:Value} {ss:List Stm} (h:StRow lo n w v ss) (hlen:ss.length<=4294967296):Stms lo w.heap.size w (fun v' s'=>SRep lo w.heap.size w 13 n v' s') v ss:=by
  obtain ⟨xs,ho,hl,hr⟩:=h
  rcases ho.2 with ⟨rfl,h0⟩ | ⟨g,cap,cur,rfl,hb,hgg,rest⟩
  · rw [List.length_eq_zero_iff.1 h0];exact stms0
  · refine ⟨_,cap,rfl,hlen,fun i s hs=>?_⟩
    obtain ⟨a,b,u,⟨c0,c1,c2,c3,c4,c5,c6,e0,e1,e2,e3,e4,e5,e6,rfl⟩,ha,hb',hg,hS⟩:=hr i s hs
    have key:∀ j u,xs[j]?=some u->w.cell? ⟨g,0+j,none⟩=some u:=fun j u hu=>by
     have:=ho.cells (g:=g) rfl j u hu
     rwa [Lib.add_plain] at this
    refine ⟨g,0,c0,c1,c2,c3,c4,c5,c6,rfl,hb,heap_lt hgg,⟨_,_,hgg,rfl,rfl⟩,key _ _ e0,?_,?_,?_,?_,?_,?_,hS.carry ha hb' (Same35.refl _ _ _) (fun _ _ _ _ _ h=>h)⟩
    · have:=key _ _ e1;rwa [<- Nat.add_assoc] at this
    · have:=key _ _ e2;rwa [<- Nat.add_assoc] at this
    · have:=key _ _ e3;rwa [<- Nat.add_assoc] at this
    · have:=key _ _ e4;rwa [<- Nat.add_assoc] at this
    · have:=key _ _ e5;rwa [<- Nat.add_assoc] at this
    · have:=key _ _ e6;rwa [<- Nat.add_assoc] at this
theorem infoStmt:(Tryz.prog.info? 45).map (fun i=>(i.zero,i.size,i.bytes))=some (some (.agg #[.int .i64 0,.string ⟨#[]⟩,.slice none 0 0,.int .i64 0,.slice none 0 0,.slice none 0 0,.int .i64 0]),7,112):=by kernel_rfl
theorem cells7_left {xs ys:List Value} {i:Nat} {u:Value} (h:Cells7 xs i u):Cells7 (xs++ys) i u:=by
  obtain ⟨c0,c1,c2,c3,c4,c5,c6,e0,e1,e2,e3,e4,e5,e6,rfl⟩:=h
  have key:∀ {j:Nat} {c:Value},xs[j]?=some c->(xs++ys)[j]?=some c:=fun {j c} h=>by
    rw [List.getElem?_append_left (List.getElem?_eq_some_iff.1 h).1];exact h
  exact ⟨c0,c1,c2,c3,c4,c5,c6,key e0,key e1,key e2,key e3,key e4,key e5,key e6,rfl⟩
theorem alloc_keep {w:World} {k:Nat} {o:Obj} (h:w.heap[k]?=some o) (x:Obj):(w.alloc x).heap[k]?=some o:=(Lib.alloc_old w x k (heap_lt h)).trans h
theorem SRep.lift {lo B m:Nat} {w:World} : ∀ {n:Nat} {v:Value} {s:Stm},SRep lo B w m n v s->SRep lo B w m (n+1) v s
  | 0,_,_,h=>h.elim
  | n+1,v,s,⟨h1,h2,hn,eao,ecap,bao,bcap,lao,lcap,h3,h4,h5,h6⟩=>
    ⟨h1,h2,hn,eao,ecap,bao,bcap,lao,lcap,h3,h4,h5.carry (Nat.le_refl _) (Nat.le_refl _) (fun _ _ _ _ _ h=>h) fun _ _ hr=>SRep.lift hr,h6.carry (Nat.le_refl _) (Nat.le_refl _) (fun _ _ _ _ _ h=>h) fun _ _ hr=>SRep.lift hr⟩
def TSame (t:TypeId) (w w':World):Prop:=∀ (k:Nat) (cs:Array Value) (fr:Nat × Nat),w.heap[k]?=some (.cells cs t fr)->w'.heap[k]?=some (.cells cs t fr)
theorem TSame.trans {t:TypeId} {a b c:World} (h:TSame t a b) (k:TSame t b c):TSame t a c:=fun i cs fr hi=>k i cs fr (h i cs fr hi)
theorem TSame.alloc (t:TypeId) (w:World) (o:Obj):TSame t w (w.alloc o):=fun k cs fr hk=>alloc_keep hk o
theorem TSame.of_row {t u:TypeId} {w w':World} {lo sz n:Nat} {v:Value} {xs:List Value} (ho:w.ownsRow lo u sz v n xs) (hg:w.grownBy w' v.ownBlock) (hne:t≠u):TSame t w w':=fun k cs fr hk=>(hg.block k (heap_lt hk) (fun e=>by
  rcases ho.2 with ⟨rfl,_⟩ | ⟨g,cap,cur,rfl,_,hgg,_⟩
  · cases e
  · cases e;rw [hgg] at hk;cases hk;exact hne rfl)).trans hk
theorem TSame.of_set {t u:TypeId} {w:World} {r:Nat} {cs:Array Value} {fr:Nat × Nat} (hr:w.heap[r]?=some (.cells cs u fr)) (hne:t≠u) (j:Nat) (x:Value):TSame t w (w.setCell ⟨r,j,none⟩ x):=fun k c f hk=>(Below.heap_setCell _ _ _ _ (show k≠r from fun e=>by subst e;rw [hr] at hk;cases hk;exact hne rfl)).trans hk
theorem own_same {w w':World} {lo sz n:Nat} {t:TypeId} {v:Value} {xs:List Value} (h:w.ownsRow lo t sz v n xs) (hs:TSame t w w'):w'.ownsRow lo t sz v n xs:=by
  refine ⟨h.1,?_⟩
  rcases h.2 with hn | ⟨g,cap,cur,rfl,hb,hgg,rest⟩
  · exact .inl hn
  · exact .inr ⟨g,cap,cur,rfl,hb,hs _ _ _ hgg,rest⟩
theorem TSame.s35 {w w':World} (h:TSame 50 w w') (lo hi:Nat):Same35 lo hi w w':=fun k cs fr _ _ hk=>h k cs fr hk
theorem TSame.s45 {w w':World} (h:TSame 45 w w') (lo hi:Nat):Same45 lo hi w w':=fun k cs fr _ _ hk=>h k cs fr hk
def dcells (d:Dcl):List Value:=[.bool d.lock,.int .i64 d.label,.string d.name,.int .i64 d.size,.string d.by_,.int .i64 d.at_]
theorem dcells_len (ds:List Dcl):((ds.map dcells).flatten).length=ds.length*6:=by
  induction ds with
  | nil=>rfl
  | cons d ds ih=>simp only [List.map_cons,List.flatten_cons,List.length_append,ih,List.length_cons];simp [dcells];omega
theorem dcells_at:∀ (ds:List Dcl) (i:Nat) (d:Dcl) (r:Nat),ds[i]?=some d->r<6->((ds.map dcells).flatten)[i*6+r]?=(dcells d)[r]?
  | [],i,d,r,h,_=>by simp at h
  | x :: ds,0,d,r,h,hr=>by
    simp at h;subst h
    simp only [List.map_cons,List.flatten_cons]
    rw [List.getElem?_append_left (by simp [dcells];omega)]
    simp
  | x :: ds,i+1,d,r,h,hr=>by
    have ih:=dcells_at ds i d r (by simpa using h) hr
    simp only [List.map_cons,List.flatten_cons]
    rw [List.getElem?_append_right (by simp [dcells];omega),<- ih]
    congr 1
    simp [dcells];omega
def DlRow (lo:Nat) (w:World) (v:Value) (ds:List Dcl):Prop:=w.ownsRow lo 39 6 v ds.length ((ds.map dcells).flatten)
theorem DlRow.dcls {lo:Nat} {w:World} {v:Value} {ds:List Dcl} (h:DlRow lo w v ds) (hlen:ds.length<=4294967296) (hf:∀ d ∈ ds,dfit d):Dcls lo w.heap.size w v ds:=by
  rcases h.2 with ⟨rfl,h0⟩ | ⟨g,cap,cur,rfl,hb,hgg,rest⟩
  · rw [List.length_eq_zero_iff.1 h0];exact ⟨none,0,rfl,by simp,fun i d hd=>by simp at hd⟩
  · refine ⟨_,cap,rfl,hlen,fun i d hd=>⟨hf d (List.mem_of_getElem? hd),g,0,rfl,hb,heap_lt hgg,⟨_,_,hgg,rfl⟩,?_⟩⟩
    have key:∀ r u,r<6->(dcells d)[r]?=some u->w.cell? ⟨g,0+i*6+r,none⟩=some u:=fun r u hr hu=>by
     have:=World.ownsRow.cells h (g:=g) rfl (i*6+r) u (by rw [dcells_at ds i d r hd hr];exact hu)
     rw [Lib.add_plain] at this
     rw [Nat.add_assoc];exact this
    exact ⟨key 0 _ (by omega) rfl,key 1 _ (by omega) rfl,key 2 _ (by omega) rfl,key 3 _ (by omega) rfl,key 4 _ (by omega) rfl,key 5 _ (by omega) rfl⟩
def ThRow (lo n:Nat) (w:World) (v:Value) (ts:List (List Stm)):Prop:=
  ∃ xs:List Value,w.ownsRow lo 40 1 v ts.length xs/\∀ (i:Nat) (ss:List Stm),ts[i]?=some ss->∃ a b ao cap,xs[i]?=some (Value.slice ao ss.length cap)/\lo<=a/\b<=w.heap.size/\Stms a b w (fun v' s'=>SRep a b w 13 n v' s') (.slice ao ss.length cap) ss
theorem ThRow.nil {lo n:Nat} {w:World} : ThRow lo n w (.slice none 0 0) []:=⟨[],World.ownsRow_nil _ _ _ _,fun i s hs=>by simp at hs⟩
theorem Stms.same {a b n:Nat} {w w':World} {v:Value} {ss:List Stm} (h:Stms a b w (fun v' s'=>SRep a b w 13 n v' s') v ss) (h45:TSame 45 w w') (h35:TSame 50 w w'):Stms a b w' (fun v' s'=>SRep a b w' 13 n v' s') v ss:=
  h.carry (Nat.le_refl _) (Nat.le_refl _) (h45.s45 a b) fun _ _ hr=>hr.carry (Nat.le_refl _) (Nat.le_refl _) (h35.s35 a b) (h45.s45 a b)
theorem ThRow.same {lo n:Nat} {w w':World} {v:Value} {ts:List (List Stm)} (h:ThRow lo n w v ts) (hz:w.heap.size<=w'.heap.size) (h1:TSame 40 w w') (h45:TSame 45 w w') (h35:TSame 50 w w'):ThRow lo n w' v ts:=by
  obtain ⟨xs,ho,hr⟩:=h
  refine ⟨xs,own_same ho h1,fun i ss hs=>?_⟩
  obtain ⟨a,b,ao,cap,hx,ha,hb,hS⟩:=hr i ss hs
  exact ⟨a,b,ao,cap,hx,ha,by omega,hS.same h45 h35⟩
theorem ThRow.thrs {lo n:Nat} {w:World} {v:Value} {ts:List (List Stm)} (h:ThRow lo n w v ts) (hlen:ts.length<=4294967296):Thrs lo w.heap.size 13 n w v ts:=by
  obtain ⟨xs,ho,hr⟩:=h
  rcases ho.2 with ⟨rfl,h0⟩ | ⟨g,cap,cur,rfl,hb,hgg,rest⟩
  · rw [List.length_eq_zero_iff.1 h0];exact ⟨none,0,rfl,by simp,fun i d hd=>by simp at hd⟩
  · refine ⟨_,cap,rfl,hlen,fun i ss hs=>?_⟩
    obtain ⟨a,b,ao,cap',hx,ha,hb',hS⟩:=hr i ss hs
    have hc:=ho.cells (g:=g) rfl i _ hx
    rw [Lib.add_plain] at hc
    exact ⟨g,0,ao,cap',rfl,hb,heap_lt hgg,⟨_,_,hgg,rfl⟩,hc,hS.carry ha hb' (fun _ _ _ _ _ h=>h) fun _ _ hr=>hr.carry ha hb' (Same35.refl _ _ _) (fun _ _ _ _ _ h=>h)⟩
theorem infoDecl:(Tryz.prog.info? 39).map (fun i=>(i.zero,i.size,i.bytes))=some (some (.agg #[.bool false,.int .i64 0,.string ⟨#[]⟩,.int .i64 0,.string ⟨#[]⟩,.int .i64 0]),6,64):=by kernel_rfl
theorem infoStmts:(Tryz.prog.info? 40).map (fun i=>(i.zero,i.size,i.bytes))=some (some (.slice none 0 0),1,24):=by kernel_rfl
theorem wpList_append_dl {ops:Array Oper} {rest:List Oper} {o:Oper} {act:Act} {Q:Exit->Act->World->Prop} (W:World) (d0 d1 d2 d3:Dcl) (hgd:o.guard=none) (s x:Operand)
    (ho:o.op=.call { callee:=.builtin .append,args:=#[s,x],argTypes:=#[23,23] }) (lo:Nat) (v:Value) (ds:List Dcl) (hs:act.eval s=v) (hx:act.eval x=.slice (some ⟨W.heap.size,0,none⟩) 4 4)
    (hR:DlRow lo W v ds) (hlo:lo<=W.heap.size) (hlen:ds.length<=1000)
    (h:∀ g cap w',DlRow lo w' (.slice (some ⟨g,0,none⟩) (ds.length+4) cap) (ds++[d0,d1,d2,d3])->(W.alloc (.cells #[.bool d0.lock,.int .i64 d0.label,.string d0.name,.int .i64 d0.size,.string d0.by_,.int .i64 d0.at_,.bool d1.lock,.int .i64 d1.label,.string d1.name,.int .i64 d1.size,.string d1.by_,.int .i64 d1.at_,.bool d2.lock,.int .i64 d2.label,.string d2.name,.int .i64 d2.size,.string d2.by_,.int .i64 d2.at_,.bool d3.lock,.int .i64 d3.label,.string d3.name,.int .i64 d3.size,.string d3.by_,.int .i64 d3.at_] 39)).grownBy w' v.ownBlock ->
     wpList Tryz.prog ops Q rest (act.put o.dst (.slice (some ⟨g,0,none⟩) (ds.length+4) cap)) w'):
    wpList Tryz.prog ops Q (o :: rest) act (W.alloc (.cells #[.bool d0.lock,.int .i64 d0.label,.string d0.name,.int .i64 d0.size,.string d0.by_,.int .i64 d0.at_,.bool d1.lock,.int .i64 d1.label,.string d1.name,.int .i64 d1.size,.string d1.by_,.int .i64 d1.at_,.bool d2.lock,.int .i64 d2.label,.string d2.name,.int .i64 d2.size,.string d2.by_,.int .i64 d2.at_,.bool d3.lock,.int .i64 d3.label,.string d3.name,.int .i64 d3.size,.string d3.by_,.int .i64 d3.at_] 39)):=by
  obtain ⟨i0,hi,hz0,hz1,hz2⟩:=info_parts infoDecl
  refine wpList_append_lies _ hgd s x 23 ho lo 39 i0 _ 6 64 Tryz.underlying23 hi hz0 hz1 hz2 rfl (by decide) v ds.length _ hs (own_same hR (TSame.alloc _ _ _)) ⟨W.heap.size,0,none⟩ 4 4 (([d0,d1,d2,d3].map dcells).flatten) hx (by simp [dcells]) (fun j u hu=>World.news_of_block (heap_alloc_new W _) j u (by simpa [dcells] using hu)) (by simp [dcells,Value.oneCell']) (by omega) (by unfold maxLen;omega) (by omega) (by rw [alloc_size];omega) _ rfl ?_
  intro g cap w' hown hgrow hat hlt
  refine h g cap w' ?_ hgrow
  show w'.ownsRow lo 39 6 _ _ _
  rw [List.map_append,List.flatten_append,List.length_append]
  exact hown
def litT (v:Nat):Tree:=⟨0,0,⟨#[]⟩,v,[],0⟩
def nameT (s:ByteArray):Tree:=⟨1,0,s,0,[],0⟩
def cellT (s:ByteArray) (x:Tree):Tree:=⟨2,0,s,0,[x],0⟩
def binT (o:Int) (x y:Tree):Tree:=⟨3,o,⟨#[]⟩,0,[x,y],0⟩
def notT (x:Tree):Tree:=⟨4,0,⟨#[]⟩,0,[x],0⟩
def pickT (x y z:Tree):Tree:=⟨5,0,⟨#[]⟩,0,[x,y,z],0⟩
theorem kids0 {lo B:Nat} {w:World} {R:Value->Tree->Prop} : Kids lo B w R (.slice none 0 0) []:=⟨none,0,rfl,by simp,fun i k h=>by simp at h⟩
theorem kids1 {lo B:Nat} {w:World} {R:Value->Tree->Prop} {g:Nat} {fr:Nat × Nat} {x0 x1 x2 x3 x4 x5:Value} {x:Tree} (hg:w.heap[g]?=some (.cells #[x0,x1,x2,x3,x4,x5] 50 fr)) (hlo:lo<=g) (hB:g<B) (hx:R (.agg #[x0,x1,x2,x3,x4,x5]) x):
    Kids lo B w R (.slice (some ⟨g,0,none⟩) 1 1) [x]:=by
  refine ⟨_,_,rfl,by simp,fun i k h=>?_⟩
  match i,h with
  | 0,h=>simp at h;subst h;exact ⟨g,0,x0,x1,x2,x3,x4,x5,rfl,hlo,hB,⟨_,_,hg⟩,by simp [World.cell?,hg],by simp [World.cell?,hg],by simp [World.cell?,hg],by simp [World.cell?,hg],by simp [World.cell?,hg],by simp [World.cell?,hg],hx⟩
theorem kids2 {lo B:Nat} {w:World} {R:Value->Tree->Prop} {g:Nat} {fr:Nat × Nat} {x0 x1 x2 x3 x4 x5 y0 y1 y2 y3 y4 y5:Value} {x y:Tree} (hg:w.heap[g]?=some (.cells #[x0,x1,x2,x3,x4,x5,y0,y1,y2,y3,y4,y5] 50 fr)) (hlo:lo<=g) (hB:g<B) (hx:R (.agg #[x0,x1,x2,x3,x4,x5]) x) (hy:R (.agg #[y0,y1,y2,y3,y4,y5]) y):
    Kids lo B w R (.slice (some ⟨g,0,none⟩) 2 2) [x,y]:=by
  refine ⟨_,_,rfl,by simp,fun i k h=>?_⟩
  match i,h with
  | 0,h=>simp at h;subst h;exact ⟨g,0,x0,x1,x2,x3,x4,x5,rfl,hlo,hB,⟨_,_,hg⟩,by simp [World.cell?,hg],by simp [World.cell?,hg],by simp [World.cell?,hg],by simp [World.cell?,hg],by simp [World.cell?,hg],by simp [World.cell?,hg],hx⟩
  | 1,h=>simp at h;subst h;exact ⟨g,0,y0,y1,y2,y3,y4,y5,rfl,hlo,hB,⟨_,_,hg⟩,by simp [World.cell?,hg],by simp [World.cell?,hg],by simp [World.cell?,hg],by simp [World.cell?,hg],by simp [World.cell?,hg],by simp [World.cell?,hg],hy⟩
theorem kids3 {lo B:Nat} {w:World} {R:Value->Tree->Prop} {g:Nat} {fr:Nat × Nat} {x0 x1 x2 x3 x4 x5 y0 y1 y2 y3 y4 y5 z0 z1 z2 z3 z4 z5:Value} {x y z:Tree} (hg:w.heap[g]?=some (.cells #[x0,x1,x2,x3,x4,x5,y0,y1,y2,y3,y4,y5,z0,z1,z2,z3,z4,z5] 50 fr)) (hlo:lo<=g) (hB:g<B) (hx:R (.agg #[x0,x1,x2,x3,x4,x5]) x) (hy:R (.agg #[y0,y1,y2,y3,y4,y5]) y) (hz:R (.agg #[z0,z1,z2,z3,z4,z5]) z):
    Kids lo B w R (.slice (some ⟨g,0,none⟩) 3 3) [x,y,z]:=by
  refine ⟨_,_,rfl,by simp,fun i k h=>?_⟩
  match i,h with
  | 0,h=>simp at h;subst h;exact ⟨g,0,x0,x1,x2,x3,x4,x5,rfl,hlo,hB,⟨_,_,hg⟩,by simp [World.cell?,hg],by simp [World.cell?,hg],by simp [World.cell?,hg],by simp [World.cell?,hg],by simp [World.cell?,hg],by simp [World.cell?,hg],hx⟩
  | 1,h=>simp at h;subst h;exact ⟨g,0,y0,y1,y2,y3,y4,y5,rfl,hlo,hB,⟨_,_,hg⟩,by simp [World.cell?,hg],by simp [World.cell?,hg],by simp [World.cell?,hg],by simp [World.cell?,hg],by simp [World.cell?,hg],by simp [World.cell?,hg],hy⟩
  | 2,h=>simp at h;subst h;exact ⟨g,0,z0,z1,z2,z3,z4,z5,rfl,hlo,hB,⟨_,_,hg⟩,by simp [World.cell?,hg],by simp [World.cell?,hg],by simp [World.cell?,hg],by simp [World.cell?,hg],by simp [World.cell?,hg],by simp [World.cell?,hg],hz⟩
theorem erep_lit {lo B:Nat} {w:World} {n v:Nat} (h:v<18446744073709551616):ERep lo B w (n+1) (.agg #[.int .i64 0,.int .i64 0,.string ⟨#[]⟩,.int .u64 v,.slice none 0 0,.int .i64 0]) (litT v):=⟨h,_,rfl,kids0⟩
theorem erep_name {lo B:Nat} {w:World} {n:Nat} (s:ByteArray):ERep lo B w (n+1) (.agg #[.int .i64 1,.int .i64 0,.string s,.int .u64 0,.slice none 0 0,.int .i64 0]) (nameT s):=⟨by simp [nameT],_,rfl,kids0⟩
theorem box_cells {w:World} {k:Nat} {x0 x1 x2 x3 x4 x5:Value} (h:w.heap[k]?=some (.cells #[x0,x1,x2,x3,x4,x5] 50 (0,0))):
    w.cell? ⟨k,0,none⟩=some x0/\w.cell? ⟨k,1,none⟩=some x1/\w.cell? ⟨k,2,none⟩=some x2/\w.cell? ⟨k,3,none⟩=some x3/\w.cell? ⟨k,4,none⟩=some x4/\w.cell? ⟨k,5,none⟩=some x5:=by
  refine ⟨?_,?_,?_,?_,?_,?_⟩ <;> (rw [Lib.cell_of_heap h];rfl)
theorem op_cases (o:Int):o=0\/o=1\/o=2\/o=3\/o=4\/o=5\/o=6\/o=7\/o=8\/o=9\/(¬ o=0/\¬ o=1/\¬ o=2/\¬ o=3/\¬ o=4/\¬ o=5/\¬ o=6/\¬ o=7/\¬ o=8/\¬ o=9):=by omega
theorem tight_any (o:Int) (w:World):
    Calls Tryz.prog 169 #[.int .i64 o] w fun e w'=>e=.returned (.int .i64 (tightN o:Int))/\w'=w:=by
  rcases op_cases o with rfl | rfl | rfl | rfl | rfl | rfl | rfl | rfl | rfl | rfl | ⟨e0,e1,e2,e3,e4,e5,e6,e7,e8,e9⟩
  case inr.inr.inr.inr.inr.inr.inr.inr.inr.inr=>
    have ht:tightN o=0:=by simp [tightN, *]
    go_enter Tryz.func169,Tryz.ntmps169
    go_wp2
    go_ret
    exact ⟨by rw [ht];rfl,rfl⟩
  all_goals
    go_enter Tryz.func169,Tryz.ntmps169
    go_wp2
    go_ret
    exact ⟨rfl,rfl⟩
end Go.Proofs.YtlepckjmdjjolaaGreatDoor
