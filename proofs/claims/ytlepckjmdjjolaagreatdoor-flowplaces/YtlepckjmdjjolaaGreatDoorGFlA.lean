/- Own texts laid together: FlPlain, FlState0, FlState, FlBound, FlLab, FlLab2, FlLeaf. Conditions: as each theorem says. -/
import Derived.Test.YtlepckjmdjjolaaGreatDoorGScA
import Derived.Test.YtlepckjmdjjolaaGreatDoorGTreeB
import Derived.Test.YtlepckjmdjjolaaGreatDoorGBits
import Derived.Test.YtlepckjmdjjolaaGreatDoorGLxA
import Derived.Test.YtlepckjmdjjolaaGreatDoorGRegAll
import Derived.Lib.MinMax
set_option maxHeartbeats 4000000
set_option maxRecDepth 100000
set_option linter.unusedVariables false
set_option linter.unusedSimpArgs false
namespace Go.Proofs.YtlepckjmdjjolaaGreatDoor.Fl
open Sc (Mng mnone put localM putAll Dc declM bad meansOf firstBad none0)
abbrev Er:=Int × Int
def joinI (a b:Int):Int:=if a≠0\/b≠0 then 1 else 0
def bound2 (op a b:Int):Int:=if op=3 then min a b else if op=0 then min (a+b) 1073741824 else if op=2 then min (a*b) 1073741824 else if op=8\/op=9 then 1 else 1073741824
def boundP (f:ByteArray->Mng):Nat->Tree->Int
 | 0,_=>1073741824
 | n+1,e=>
   if e.kind=0 then min e.value 1073741824
   else if e.kind=1 then (if (f e.name).kind=5 then min ((f e.name).count-1) 1073741824 else 1073741824)
   else if e.kind=3 then (match e.kids with | [a,b]=>bound2 e.op (boundP f n a) (boundP f n b) | _=>1073741824)
   else 1073741824
def nameP (f:ByteArray->Mng) (s:ByteArray) (at_:Int):Except Er Int:=if (f s).kind=2\/(f s).kind=4\/(f s).kind=5 then .ok (f s).label else .error (3,at_)
def cellP (f:ByteArray->Mng) (L:Tree->Except Er Int) (B:Tree->Int) (s:ByteArray) (kids:List Tree) (at_:Int):Except Er Int:=
 match kids with
 | [k]=>
   if (f s).kind=3 then
    match L k with
    | .error x=>.error x
    | .ok l=>if l≠0 then .error (4,k.at_) else if (f s).count<=B k then .error (3,k.at_) else .ok (f s).label
   else .error (3,at_)
 | _=>.error (3,at_)
def allP (L:Tree->Except Er Int):Int->List Tree->Except Er Int
 | a,[]=>.ok a
 | a,e :: es=>match L e with
   | .error x=>.error x
   | .ok l=>allP L (joinI a l) es
def labelP (f:ByteArray->Mng):Nat->Tree->Except Er Int
 | 0,_=>.ok 0
 | n+1,e=>
   if e.kind=0 then .ok 0
   else if e.kind=1 then nameP f e.name e.at_
   else if e.kind=2 then cellP f (labelP f n) (boundP f n) e.name e.kids e.at_
   else allP (labelP f n) 0 e.kids
structure St where
 f:ByteArray->Mng
 ls:List ByteArray
def enterP (st:St) (s:ByteArray) (l c:Int):Option St:=if (st.f s).kind=0 then some ⟨put st.f s (localM l c),st.ls++[s]⟩ else none
def leaveP (st:St) (mark:Nat):St:=if mark<st.ls.length then ⟨putAll st.f (st.ls.drop mark),st.ls.take mark⟩ else st
def valueP (m:Nat) (f:ByteArray->Mng) (s:Stm):Except Er Int:=match s.exprs with | []=>.error (3,s.at_) | e :: _=>labelP f m e
def intoP (st:St) (s:Stm) (l to:Int):Except Er St:=if l≠0/\to=0 then .error (4,s.at_) else .ok st
def localP (m:Nat) (st:St) (pc:Int) (s:Stm):Except Er St:=
 match valueP m st.f s with
 | .error x=>.error x
 | .ok l=>match enterP st s.name (joinI l pc) 0 with
   | none=>.error (3,s.at_)
   | some st'=>.ok st'
def assignP (m:Nat) (st:St) (pc:Int) (s:Stm):Except Er St:=
 match valueP m st.f s with
 | .error x=>.error x
 | .ok l=>if (st.f s.name).kind=4\/(st.f s.name).kind=2 then intoP st s (joinI l pc) (st.f s.name).label else .error (3,s.at_)
def storeP (m:Nat) (st:St) (pc:Int) (s:Stm):Except Er St:=
 match s.exprs with
 | [a,b]=>match cellP st.f (labelP st.f m) (boundP st.f m) s.name [a] s.at_ with
   | .error x=>.error x
   | .ok to=>match labelP st.f m b with
     | .error x=>.error x
     | .ok l=>intoP st s (joinI l pc) to
 | _=>.error (3,s.at_)
def seenP (m:Nat) (st:St) (s:Stm):Except Er St:=
 if s.kind=5\/s.kind=6 then (if (st.f s.name).kind=1 then .ok st else .error (3,s.at_))
 else if s.kind=9 then (match valueP m st.f s with | .error x=>.error x | .ok l=>intoP st s l 0)
 else if s.kind=7 then (match valueP m st.f s with | .error x=>.error x | .ok l=>if (st.f s.name).kind=2 then intoP st s l (st.f s.name).label else .error (3,s.at_))
 else .ok st
def seqP (S:St->Int->Stm->Except Er St) (pc:Int):St->List Stm->Except Er St
 | st,[]=>.ok st
 | st,s :: ss=>match S st pc s with
   | .error x=>.error x
   | .ok st'=>seqP S pc st' ss
def blkP (S:St->Int->Stm->Except Er St) (st:St) (pc:Int) (ss:List Stm):Except Er St:=
 match seqP S pc st ss with
 | .error x=>.error x
 | .ok st'=>.ok (leaveP st' st.ls.length)
def choiceP (m:Nat) (S:St->Int->Stm->Except Er St) (st:St) (pc:Int) (s:Stm):Except Er St:=
 match valueP m st.f s with
 | .error x=>.error x
 | .ok l=>match blkP S st (joinI pc l) s.body with
   | .error x=>.error x
   | .ok st'=>blkP S st' (joinI pc l) s.els
def loopP (S:St->Int->Stm->Except Er St) (st:St) (pc:Int) (s:Stm):Except Er St:=
 match enterP st s.name 0 s.count with
 | none=>.error (3,s.at_)
 | some st'=>match blkP S st' pc s.body with
   | .error x=>.error x
   | .ok st2=>.ok (leaveP st2 st.ls.length)
def stmtP (m:Nat):Nat->St->Int->Stm->Except Er St
 | 0,st,_,_=>.ok st
 | n+1,st,pc,s=>
   if s.kind=0 then localP m st pc s
   else if s.kind=1 then assignP m st pc s
   else if s.kind=2 then storeP m st pc s
   else if s.kind=3 then choiceP m (stmtP m n) st pc s
   else if s.kind=4 then loopP (stmtP m n) st pc s
   else if pc≠0 then .error (4,s.at_)
   else seenP m st s
def blockP (m n:Nat) (st:St) (pc:Int) (ss:List Stm):Except Er St:=blkP (stmtP m n) st pc ss
def threadsP (m n:Nat):St->List (List Stm)->Option Er
 | _,[]=>none
 | st,t :: ts=>match blockP m n st 0 t with
   | .error x=>some x
   | .ok st'=>threadsP m n st' ts
def toDc (d:Dcl):Dc:=⟨d.lock,d.label,d.name,d.size,d.by_,d.at_⟩
def checkP (m n:Nat) (p:Prg):Option Er:=
 match firstBad none0 (p.decls.map toDc) with
 | some d=>some (3,d.at_)
 | none=>threadsP m n ⟨meansOf none0 (p.decls.map toDc),[]⟩ p.threads
def okF (f:ByteArray->Mng):Prop:=∀ s,(f s).kind=5->0<(f s).count/\(f s).count<=9223372036854775807
theorem okF_put {f:ByteArray->Mng} (h:okF f) (s:ByteArray) (m:Mng) (hm:m.kind=5->0<m.count/\m.count<=9223372036854775807):okF (put f s m):=fun t ht=>by
 by_cases e:t=s
 · subst e;rw [Sc.put_same] at ht ⊢;exact hm ht
 · rw [Sc.put_ne _ _ _ _ e] at ht ⊢;exact h t ht
theorem okF_enter {f:ByteArray->Mng} (h:okF f) (s:ByteArray) (l c:Int) (hc:c<=9223372036854775807):okF (put f s (localM l c)):=okF_put h s _ fun hk=>by
 unfold localM at hk ⊢
 by_cases h0:0<c
 · rw [if_pos h0];exact ⟨h0,hc⟩
 · rw [if_neg h0] at hk;simp at hk
theorem okF_putAll:∀ (ss:List ByteArray) {f:ByteArray->Mng},okF f->okF (putAll f ss)
 | [],f,h=>h
 | s :: ss,f,h=>okF_putAll ss (f:=put f s mnone) (okF_put h s mnone fun hk=>by simp [mnone] at hk)
theorem okF_means:∀ (ds:List Dc) {f:ByteArray->Mng},okF f->okF (meansOf f ds)
 | [],f,h=>h
 | d :: ds,f,h=>okF_means ds (f:=put f d.name (declM d)) (okF_put h d.name _ fun hk=>by
     exfalso
     unfold declM at hk
     split at hk
     · simp at hk
     · split at hk <;> simp at hk)
theorem okF_none:okF none0:=fun s h=>by simp [none0,mnone] at h
def tot {α : Type} (f : α -> Nat) (xs:List α):Nat:=(xs.map f).sum
def cntS:Nat->Stm->Nat
 | 0,_=>1
 | n+1,s=>1+tot (cntS n) s.body+tot (cntS n) s.els
theorem cnt_pos:∀ (n:Nat) (s:Stm),1<=cntS n s
 | 0,_=>by simp [cntS]
 | n+1,s=>by simp only [cntS];omega
def nmE:Nat->Tree->Prop
 | 0,_=>True
 | n+1,e=>e.name.size<=35184372088832/\∀ k ∈ e.kids,nmE n k
end Go.Proofs.YtlepckjmdjjolaaGreatDoor.Fl
namespace Go.Proofs.YtlepckjmdjjolaaGreatDoor.Fl
open Go.ChangeShapes Go.WideShapes Go.ChangeAt Go.RowKit
open Sc (Mng mnone put localM putAll Dc declM bad meansOf firstBad none0 ScAt KeepX)
def FaultAt (w:World) (n a:Int) (fb:Nat):Prop:=w.heap[fb]?=some (.cells #[.int .i64 a,.iface 65 (.int .i64 n)] 127 (0,0))
theorem FaultAt.on {w w':World} {n a:Int} {fb:Nat} (h:FaultAt w n a fb) (hb:Below w.heap.size w w'):FaultAt w' n a fb:=(hb.block fb (heap_lt h)).trans h
@[reducible] def faultV (fb:Nat):Value:=.iface 124 (.pointer (some ⟨fb,0,none⟩))
def FlowR (B bs k:Nat) (w:World) (r:Except Er St) (e:Ending) (w':World):Prop:=
  Below B w w'/\match r with
  | .ok st=>e=.returned .nilIface/\ScAt (· < B) bs k st.f st.ls w'/\okF st.f/\st.ls.length<=k
  | .error x=>∃ fb f ls,e=.returned (faultV fb)/\FaultAt w' x.1 x.2 fb/\B<=fb/\ScAt (fun j=>j<B\/j=fb) bs k f ls w'/\ls.length<=k
theorem ScAt.fault {B bs k:Nat} {f:ByteArray->Mng} {ls:List ByteArray} {w w':World} (h:ScAt (· < B) bs k f ls w) (hb:Below w.heap.size w w') {fb:Nat} (hfb:w.heap.size<=fb):ScAt (fun j=>j<B\/j=fb) bs k f ls w':=
  (h.more fun j hj hY=>hY.elim id fun e=>by omega).below hb
theorem below_of {B:Nat} {w w':World} (hB:B<=w.heap.size) (hb:Below w.heap.size w w'):Below B w w':=hb.mono hB
theorem keep {w w':World} {k:Nat} {o:Obj} (hb:Below w.heap.size w w') (h:w.heap[k]?=some o):w'.heap[k]?=some o:=(hb.block k (heap_lt h)).trans h
theorem ret_int {k:IntKind} {a b:Int} (h:a=b):Ending.returned (.int k a)=.returned (.int k b):=by rw [h]
theorem six_cells {w:World} {k:Nat} {x0 x1 x2 x3 x4 x5:Value} (h:w.heap[k]?=some (.cells #[x0,x1,x2,x3,x4,x5] 50 (0,0))):
    w.cell? ⟨k,0,none⟩=some x0/\w.cell? ⟨k,1,none⟩=some x1/\w.cell? ⟨k,2,none⟩=some x2/\w.cell? ⟨k,3,none⟩=some x3/\w.cell? ⟨k,4,none⟩=some x4/\w.cell? ⟨k,5,none⟩=some x5:=by
  refine ⟨?_,?_,?_,?_,?_,?_⟩ <;> (rw [Lib.cell_of_heap h];rfl)
theorem mul_rng {a b:Int} (ha:0<=a/\a<=1073741824) (hb:0<=b/\b<=1073741824):0<=a*b/\a*b<=1152921504606846976:=by
  refine ⟨Int.mul_nonneg ha.1 hb.1,?_⟩
  calc a*b<=1073741824*b:=Int.mul_le_mul_of_nonneg_right ha.2 hb.1
    _<=1073741824*1073741824:=Int.mul_le_mul_of_nonneg_left hb.2 (by decide)
    _=1152921504606846976:=by decide
theorem bound2_rng {op a b:Int} (ha:0<=a/\a<=1073741824) (hb:0<=b/\b<=1073741824):0<=bound2 op a b/\bound2 op a b<=1073741824:=by
  have hm:=mul_rng ha hb
  unfold bound2
  split
  · omega
  · split
    · omega
    · split
      · generalize a*b=c at hm;omega
      · split <;> omega
theorem bound_rng {f:ByteArray->Mng} (hf:okF f):∀ (n:Nat) (e:Tree),0<=boundP f n e/\boundP f n e<=1073741824
  | 0,e=>⟨by simp [boundP],by simp [boundP]⟩
  | n+1,e=>by
    have ih:=bound_rng hf n
    unfold boundP
    split
    · omega
    · split
      · split
        · rename_i h5
          have:=hf _ h5
          omega
        · omega
      · split
        · split
          · exact bound2_rng (ih _) (ih _)
          · omega
        · omega
@[reducible] def eval6 (e:Tree) (ka:Option Addr) (kc:Nat):Value:=.agg #[.int .i64 e.kind,.int .i64 e.op,.string e.name,.int .u64 e.value,.slice ka e.kids.length kc,.int .i64 e.at_]
theorem nm_le {s:ByteArray} (h:s.size<=35184372088832):s.size<=maxLen:=by unfold maxLen;omega
def BoundC (n:Nat):Prop:=∀ (B bs k:Nat) (st:St) (v:Value) (e:Tree) (w:World),ScAt (· < B) bs k st.f st.ls w->okF st.f->ERep 0 w.heap.size w n v e->nmE n e ->
  Calls Tryz.prog 19 #[.pointer (some ⟨bs,0,none⟩),v] w fun ed w'=>ed=.returned (.int .i64 (boundP st.f n e))/\Below w.heap.size w w'
theorem two_of {n:Nat} (bs:Nat) (op pa pb:Int) (ta tb:Tree) (ka kb:Option Addr) (ca cb:Nat) (w:World) (ra:0<=pa/\pa<=1073741824) (rb:0<=pb/\pb<=1073741824)
    (CA:∀ wr,Below w.heap.size w wr->Calls Tryz.prog 19 #[.pointer (some ⟨bs,0,none⟩),eval6 ta ka ca] wr fun ed w'=>ed=.returned (.int .i64 pa)/\Below wr.heap.size wr w')
    (CB:∀ wr,Below w.heap.size w wr->Calls Tryz.prog 19 #[.pointer (some ⟨bs,0,none⟩),eval6 tb kb cb] wr fun ed w'=>ed=.returned (.int .i64 pb)/\Below wr.heap.size wr w'):
    Calls Tryz.prog 46 #[.pointer (some ⟨bs,0,none⟩),.int .i64 op,eval6 ta ka ca,eval6 tb kb cb] w fun ed w'=>ed=.returned (.int .i64 (bound2 op pa pb))/\Below w.heap.size w w':=by
  have hm:=mul_rng ra rb
  obtain ⟨ra0,ra1⟩:=ra
  obtain ⟨rb0,rb1⟩:=rb
  obtain ⟨hm0,hm1⟩:=hm
  by_cases h3:op=3
  · subst h3
    go_enter Tryz.func46,Tryz.ntmps46
    go_wp2
    obtain ⟨W,hW⟩:∃ W,W=(w.alloc (.cells #[.int .i64 ta.kind,.int .i64 ta.op,.string ta.name,.int .u64 ta.value,.slice ka ta.kids.length ca,.int .i64 ta.at_] 50)).alloc (.cells #[.int .i64 tb.kind,.int .i64 tb.op,.string tb.name,.int .u64 tb.value,.slice kb tb.kids.length cb,.int .i64 tb.at_] 50):=⟨_,rfl⟩
    have hA:W.heap[w.heap.size]?=some (.cells #[.int .i64 ta.kind,.int .i64 ta.op,.string ta.name,.int .u64 ta.value,.slice ka ta.kids.length ca,.int .i64 ta.at_] 50 (0,0)):=by rw [hW];exact alloc_keep (heap_alloc_new _ _) _
    have hB:W.heap[w.heap.size+1]?=some (.cells #[.int .i64 tb.kind,.int .i64 tb.op,.string tb.name,.int .u64 tb.value,.slice kb tb.kids.length cb,.int .i64 tb.at_] 50 (0,0)):=by
     rw [hW]
     have:=heap_alloc_new (w.alloc (.cells #[.int .i64 ta.kind,.int .i64 ta.op,.string ta.name,.int .u64 ta.value,.slice ka ta.kids.length ca,.int .i64 ta.at_] 50)) (.cells #[.int .i64 tb.kind,.int .i64 tb.op,.string tb.name,.int .u64 tb.value,.slice kb tb.kids.length cb,.int .i64 tb.at_] 50)
     rwa [alloc_size] at this
    have hbW:Below w.heap.size w W:=by rw [hW];exact ((Below.refl _ _).alloc (Nat.le_refl _) _).alloc (by rw [alloc_size];omega) _
    rw [<- hW]
    clear hW
    have PA:=fun wr (hb:Below W.heap.size W wr)=>CA wr (hbW.trans (hb.mono hbW.size))
    have PB:=fun wr (hb:Below W.heap.size W wr)=>CB wr (hbW.trans (hb.mono hbW.size))
    clear CA CB
    refine wp_region_mono (by kernel_rfl) (by kernel_rfl) (by kernel_rfl) (by kernel_rfl) (by kernel_rfl) (fun (i:Nat) (v:Value) (wv:World)=>match i with | 0=>v=.pointer (some ⟨bs,0,none⟩) | 1=>v=.agg #[.int .i64 ta.kind,.int .i64 ta.op,.string ta.name,.int .u64 ta.value,.slice ka ta.kids.length ca,.int .i64 ta.at_] | 2=>v=.int .i64 pa | 3=>v=.pointer (some ⟨bs,0,none⟩) | 4=>v=.agg #[.int .i64 tb.kind,.int .i64 tb.op,.string tb.name,.int .u64 tb.value,.slice kb tb.kids.length cb,.int .i64 tb.at_] | 5=>v=.int .i64 pb | 6=>v=.int .i64 (min pa pb) | 7=>v=.int .i64 (min pa pb) | _=>True) ?_ [] (by kernel_rfl) ?_ ?_ ?_
    · intro i v w w' hb h
      match i with
      | 0=>exact h
      | 1=>exact h
      | 2=>exact h
      | 3=>exact h
      | 4=>exact h
      | 5=>exact h
      | 6=>exact h
      | 7=>exact h
      | _+8=>trivial
    · intro p hp v w h
      cases hp
    · intro a wr i op hop hb hF hP K hK
      have s0:a.tmps[0]?.getD undef=.pointer (some ⟨bs,0,none⟩):=(hF 0 (by kernel_rfl)).trans rfl
      have s6:a.tmps[6]?.getD undef=.pointer (some ⟨w.heap.size,0,none⟩):=(hF 6 (by kernel_rfl)).trans rfl
      have s7:a.tmps[7]?.getD undef=.pointer (some ⟨w.heap.size+1,0,none⟩):=(hF 7 (by kernel_rfl)).trans rfl
      obtain ⟨p0,p1,p2,p3,p4,p5⟩:=six_cells (keep hb hA)
      obtain ⟨q0,q1,q2,q3,q4,q5⟩:=six_cells (keep hb hB)
      match i with
      | 0=>
        obtain rfl:=Option.some.inj hop
        go_simp
        exact hK _ _ (Below.refl _ _) fun _=>by first | rfl | exact wrap_val (by omega)
      | 1=>
        obtain rfl:=Option.some.inj hop
        go_simp
        exact hK _ _ (Below.refl _ _) fun _=>by first | rfl | exact wrap_val (by omega)
      | 2=>
        obtain rfl:=Option.some.inj hop
        have n0:a.tmps[12]?.getD undef=.pointer (some ⟨bs,0,none⟩):=hP 0 12 (by kernel_rfl) (by kernel_rfl)
        have n1:a.tmps[13]?.getD undef=.agg #[.int .i64 ta.kind,.int .i64 ta.op,.string ta.name,.int .u64 ta.value,.slice ka ta.kids.length ca,.int .i64 ta.at_]:=hP 1 13 (by kernel_rfl) (by kernel_rfl)
        go_simp
        go_at_call 19
        refine (PA wr hb).mono ?_
        rintro e w1 ⟨rfl,hb1⟩
        go_simp
        exact hK _ _ hb1 fun _=>rfl
      | 3=>
        obtain rfl:=Option.some.inj hop
        go_simp
        exact hK _ _ (Below.refl _ _) fun _=>by first | rfl | exact wrap_val (by omega)
      | 4=>
        obtain rfl:=Option.some.inj hop
        go_simp
        exact hK _ _ (Below.refl _ _) fun _=>by first | rfl | exact wrap_val (by omega)
      | 5=>
        obtain rfl:=Option.some.inj hop
        have n3:a.tmps[15]?.getD undef=.pointer (some ⟨bs,0,none⟩):=hP 3 15 (by kernel_rfl) (by kernel_rfl)
        have n4:a.tmps[16]?.getD undef=.agg #[.int .i64 tb.kind,.int .i64 tb.op,.string tb.name,.int .u64 tb.value,.slice kb tb.kids.length cb,.int .i64 tb.at_]:=hP 4 16 (by kernel_rfl) (by kernel_rfl)
        go_simp
        go_at_call 19
        refine (PB wr hb).mono ?_
        rintro e w1 ⟨rfl,hb1⟩
        go_simp
        exact hK _ _ hb1 fun _=>rfl
      | 6=>
        obtain rfl:=Option.some.inj hop
        have n2:a.tmps[14]?.getD undef=.int .i64 pa:=hP 2 14 (by kernel_rfl) (by kernel_rfl)
        have n5:a.tmps[17]?.getD undef=.int .i64 pb:=hP 5 17 (by kernel_rfl) (by kernel_rfl)
        go_simp
        exact hK _ _ (Below.refl _ _) fun _=>by first | rfl | exact wrap_val (by omega)
      | 7=>
        obtain rfl:=Option.some.inj hop
        have n6:a.tmps[18]?.getD undef=.int .i64 (min pa pb):=hP 6 18 (by kernel_rfl) (by kernel_rfl)
        go_simp
        exact hK _ _ (Below.refl _ _) fun _=>by first | rfl | exact wrap_val (by omega)
      | _+8=>simp at hop
    · intro V wz hbz hR
      have e7:V 7=.int .i64 (min pa pb):=hR 7 (by kernel_rfl)
      clear hR PA PB
      refine at_all (prs [12,13,14,15,16,17,18,8] V) (fun t=>by kernel_rfl) ?_
      simp only [prs,List.zipIdx,List.map,List.foldl,Nat.zero_add,Nat.reduceAdd,List.setIfInBounds_toArray,List.set_cons_zero,List.set_cons_succ,e7]
      go_wp2
      go_ret
      exact ⟨ret_int (by simp [bound2]),hbW.trans (hbz.mono hbW.size)⟩
  by_cases h0:op=0
  · subst h0
    go_enter Tryz.func46,Tryz.ntmps46
    go_wp2
    obtain ⟨W,hW⟩:∃ W,W=(w.alloc (.cells #[.int .i64 ta.kind,.int .i64 ta.op,.string ta.name,.int .u64 ta.value,.slice ka ta.kids.length ca,.int .i64 ta.at_] 50)).alloc (.cells #[.int .i64 tb.kind,.int .i64 tb.op,.string tb.name,.int .u64 tb.value,.slice kb tb.kids.length cb,.int .i64 tb.at_] 50):=⟨_,rfl⟩
    have hA:W.heap[w.heap.size]?=some (.cells #[.int .i64 ta.kind,.int .i64 ta.op,.string ta.name,.int .u64 ta.value,.slice ka ta.kids.length ca,.int .i64 ta.at_] 50 (0,0)):=by rw [hW];exact alloc_keep (heap_alloc_new _ _) _
    have hB:W.heap[w.heap.size+1]?=some (.cells #[.int .i64 tb.kind,.int .i64 tb.op,.string tb.name,.int .u64 tb.value,.slice kb tb.kids.length cb,.int .i64 tb.at_] 50 (0,0)):=by
     rw [hW]
     have:=heap_alloc_new (w.alloc (.cells #[.int .i64 ta.kind,.int .i64 ta.op,.string ta.name,.int .u64 ta.value,.slice ka ta.kids.length ca,.int .i64 ta.at_] 50)) (.cells #[.int .i64 tb.kind,.int .i64 tb.op,.string tb.name,.int .u64 tb.value,.slice kb tb.kids.length cb,.int .i64 tb.at_] 50)
     rwa [alloc_size] at this
    have hbW:Below w.heap.size w W:=by rw [hW];exact ((Below.refl _ _).alloc (Nat.le_refl _) _).alloc (by rw [alloc_size];omega) _
    rw [<- hW]
    clear hW
    have PA:=fun wr (hb:Below W.heap.size W wr)=>CA wr (hbW.trans (hb.mono hbW.size))
    have PB:=fun wr (hb:Below W.heap.size W wr)=>CB wr (hbW.trans (hb.mono hbW.size))
    clear CA CB
    refine wp_region_mono (by kernel_rfl) (by kernel_rfl) (by kernel_rfl) (by kernel_rfl) (by kernel_rfl) (fun (i:Nat) (v:Value) (wv:World)=>match i with | 0=>v=.pointer (some ⟨bs,0,none⟩) | 1=>v=.agg #[.int .i64 ta.kind,.int .i64 ta.op,.string ta.name,.int .u64 ta.value,.slice ka ta.kids.length ca,.int .i64 ta.at_] | 2=>v=.int .i64 pa | 3=>v=.pointer (some ⟨bs,0,none⟩) | 4=>v=.agg #[.int .i64 tb.kind,.int .i64 tb.op,.string tb.name,.int .u64 tb.value,.slice kb tb.kids.length cb,.int .i64 tb.at_] | 5=>v=.int .i64 pb | 6=>v=.int .i64 (pa+pb) | 7=>v=.int .i64 (min (pa+pb) 1073741824) | 8=>v=.int .i64 (min (pa+pb) 1073741824) | _=>True) ?_ [] (by kernel_rfl) ?_ ?_ ?_
    · intro i v w w' hb h
      match i with
      | 0=>exact h
      | 1=>exact h
      | 2=>exact h
      | 3=>exact h
      | 4=>exact h
      | 5=>exact h
      | 6=>exact h
      | 7=>exact h
      | 8=>exact h
      | _+9=>trivial
    · intro p hp v w h
      cases hp
    · intro a wr i op hop hb hF hP K hK
      have s0:a.tmps[0]?.getD undef=.pointer (some ⟨bs,0,none⟩):=(hF 0 (by kernel_rfl)).trans rfl
      have s6:a.tmps[6]?.getD undef=.pointer (some ⟨w.heap.size,0,none⟩):=(hF 6 (by kernel_rfl)).trans rfl
      have s7:a.tmps[7]?.getD undef=.pointer (some ⟨w.heap.size+1,0,none⟩):=(hF 7 (by kernel_rfl)).trans rfl
      obtain ⟨p0,p1,p2,p3,p4,p5⟩:=six_cells (keep hb hA)
      obtain ⟨q0,q1,q2,q3,q4,q5⟩:=six_cells (keep hb hB)
      match i with
      | 0=>
        obtain rfl:=Option.some.inj hop
        go_simp
        exact hK _ _ (Below.refl _ _) fun _=>by first | rfl | exact wrap_val (by omega)
      | 1=>
        obtain rfl:=Option.some.inj hop
        go_simp
        exact hK _ _ (Below.refl _ _) fun _=>by first | rfl | exact wrap_val (by omega)
      | 2=>
        obtain rfl:=Option.some.inj hop
        have n0:a.tmps[21]?.getD undef=.pointer (some ⟨bs,0,none⟩):=hP 0 21 (by kernel_rfl) (by kernel_rfl)
        have n1:a.tmps[22]?.getD undef=.agg #[.int .i64 ta.kind,.int .i64 ta.op,.string ta.name,.int .u64 ta.value,.slice ka ta.kids.length ca,.int .i64 ta.at_]:=hP 1 22 (by kernel_rfl) (by kernel_rfl)
        go_simp
        go_at_call 19
        refine (PA wr hb).mono ?_
        rintro e w1 ⟨rfl,hb1⟩
        go_simp
        exact hK _ _ hb1 fun _=>rfl
      | 3=>
        obtain rfl:=Option.some.inj hop
        go_simp
        exact hK _ _ (Below.refl _ _) fun _=>by first | rfl | exact wrap_val (by omega)
      | 4=>
        obtain rfl:=Option.some.inj hop
        go_simp
        exact hK _ _ (Below.refl _ _) fun _=>by first | rfl | exact wrap_val (by omega)
      | 5=>
        obtain rfl:=Option.some.inj hop
        have n3:a.tmps[24]?.getD undef=.pointer (some ⟨bs,0,none⟩):=hP 3 24 (by kernel_rfl) (by kernel_rfl)
        have n4:a.tmps[25]?.getD undef=.agg #[.int .i64 tb.kind,.int .i64 tb.op,.string tb.name,.int .u64 tb.value,.slice kb tb.kids.length cb,.int .i64 tb.at_]:=hP 4 25 (by kernel_rfl) (by kernel_rfl)
        go_simp
        go_at_call 19
        refine (PB wr hb).mono ?_
        rintro e w1 ⟨rfl,hb1⟩
        go_simp
        exact hK _ _ hb1 fun _=>rfl
      | 6=>
        obtain rfl:=Option.some.inj hop
        have n2:a.tmps[23]?.getD undef=.int .i64 pa:=hP 2 23 (by kernel_rfl) (by kernel_rfl)
        have n5:a.tmps[26]?.getD undef=.int .i64 pb:=hP 5 26 (by kernel_rfl) (by kernel_rfl)
        go_simp
        exact hK _ _ (Below.refl _ _) fun _=>by first | rfl | exact wrap_val (by omega)
      | 7=>
        obtain rfl:=Option.some.inj hop
        have n6:a.tmps[27]?.getD undef=.int .i64 (pa+pb):=hP 6 27 (by kernel_rfl) (by kernel_rfl)
        go_simp
        exact hK _ _ (Below.refl _ _) fun _=>by first | rfl | exact wrap_val (by omega)
      | 8=>
        obtain rfl:=Option.some.inj hop
        have n7:a.tmps[28]?.getD undef=.int .i64 (min (pa+pb) 1073741824):=hP 7 28 (by kernel_rfl) (by kernel_rfl)
        go_simp
        exact hK _ _ (Below.refl _ _) fun _=>by first | rfl | exact wrap_val (by omega)
      | _+9=>simp at hop
    · intro V wz hbz hR
      have e8:V 8=.int .i64 (min (pa+pb) 1073741824):=hR 8 (by kernel_rfl)
      clear hR PA PB
      refine at_all (prs [21,22,23,24,25,26,27,28,8] V) (fun t=>by kernel_rfl) ?_
      simp only [prs,List.zipIdx,List.map,List.foldl,Nat.zero_add,Nat.reduceAdd,List.setIfInBounds_toArray,List.set_cons_zero,List.set_cons_succ,e8]
      go_wp2
      go_ret
      exact ⟨ret_int (by simp [bound2]),hbW.trans (hbz.mono hbW.size)⟩
  by_cases h2:op=2
  · subst h2
    go_enter Tryz.func46,Tryz.ntmps46
    go_wp2
    obtain ⟨W,hW⟩:∃ W,W=(w.alloc (.cells #[.int .i64 ta.kind,.int .i64 ta.op,.string ta.name,.int .u64 ta.value,.slice ka ta.kids.length ca,.int .i64 ta.at_] 50)).alloc (.cells #[.int .i64 tb.kind,.int .i64 tb.op,.string tb.name,.int .u64 tb.value,.slice kb tb.kids.length cb,.int .i64 tb.at_] 50):=⟨_,rfl⟩
    have hA:W.heap[w.heap.size]?=some (.cells #[.int .i64 ta.kind,.int .i64 ta.op,.string ta.name,.int .u64 ta.value,.slice ka ta.kids.length ca,.int .i64 ta.at_] 50 (0,0)):=by rw [hW];exact alloc_keep (heap_alloc_new _ _) _
    have hB:W.heap[w.heap.size+1]?=some (.cells #[.int .i64 tb.kind,.int .i64 tb.op,.string tb.name,.int .u64 tb.value,.slice kb tb.kids.length cb,.int .i64 tb.at_] 50 (0,0)):=by
     rw [hW]
     have:=heap_alloc_new (w.alloc (.cells #[.int .i64 ta.kind,.int .i64 ta.op,.string ta.name,.int .u64 ta.value,.slice ka ta.kids.length ca,.int .i64 ta.at_] 50)) (.cells #[.int .i64 tb.kind,.int .i64 tb.op,.string tb.name,.int .u64 tb.value,.slice kb tb.kids.length cb,.int .i64 tb.at_] 50)
     rwa [alloc_size] at this
    have hbW:Below w.heap.size w W:=by rw [hW];exact ((Below.refl _ _).alloc (Nat.le_refl _) _).alloc (by rw [alloc_size];omega) _
    rw [<- hW]
    clear hW
    have PA:=fun wr (hb:Below W.heap.size W wr)=>CA wr (hbW.trans (hb.mono hbW.size))
    have PB:=fun wr (hb:Below W.heap.size W wr)=>CB wr (hbW.trans (hb.mono hbW.size))
    clear CA CB
    refine wp_region_mono (by kernel_rfl) (by kernel_rfl) (by kernel_rfl) (by kernel_rfl) (by kernel_rfl) (fun (i:Nat) (v:Value) (wv:World)=>match i with | 0=>v=.pointer (some ⟨bs,0,none⟩) | 1=>v=.agg #[.int .i64 ta.kind,.int .i64 ta.op,.string ta.name,.int .u64 ta.value,.slice ka ta.kids.length ca,.int .i64 ta.at_] | 2=>v=.int .i64 pa | 3=>v=.pointer (some ⟨bs,0,none⟩) | 4=>v=.agg #[.int .i64 tb.kind,.int .i64 tb.op,.string tb.name,.int .u64 tb.value,.slice kb tb.kids.length cb,.int .i64 tb.at_] | 5=>v=.int .i64 pb | 6=>v=.int .i64 (pa*pb) | 7=>v=.int .i64 (min (pa*pb) 1073741824) | 8=>v=.int .i64 (min (pa*pb) 1073741824) | _=>True) ?_ [] (by kernel_rfl) ?_ ?_ ?_
    · intro i v w w' hb h
      match i with
      | 0=>exact h
      | 1=>exact h
      | 2=>exact h
      | 3=>exact h
      | 4=>exact h
      | 5=>exact h
      | 6=>exact h
      | 7=>exact h
      | 8=>exact h
      | _+9=>trivial
    · intro p hp v w h
      cases hp
    · intro a wr i op hop hb hF hP K hK
      have s0:a.tmps[0]?.getD undef=.pointer (some ⟨bs,0,none⟩):=(hF 0 (by kernel_rfl)).trans rfl
      have s6:a.tmps[6]?.getD undef=.pointer (some ⟨w.heap.size,0,none⟩):=(hF 6 (by kernel_rfl)).trans rfl
      have s7:a.tmps[7]?.getD undef=.pointer (some ⟨w.heap.size+1,0,none⟩):=(hF 7 (by kernel_rfl)).trans rfl
      obtain ⟨p0,p1,p2,p3,p4,p5⟩:=six_cells (keep hb hA)
      obtain ⟨q0,q1,q2,q3,q4,q5⟩:=six_cells (keep hb hB)
      match i with
      | 0=>
        obtain rfl:=Option.some.inj hop
        go_simp
        exact hK _ _ (Below.refl _ _) fun _=>by first | rfl | exact wrap_val (by omega)
      | 1=>
        obtain rfl:=Option.some.inj hop
        go_simp
        exact hK _ _ (Below.refl _ _) fun _=>by first | rfl | exact wrap_val (by omega)
      | 2=>
        obtain rfl:=Option.some.inj hop
        have n0:a.tmps[31]?.getD undef=.pointer (some ⟨bs,0,none⟩):=hP 0 31 (by kernel_rfl) (by kernel_rfl)
        have n1:a.tmps[32]?.getD undef=.agg #[.int .i64 ta.kind,.int .i64 ta.op,.string ta.name,.int .u64 ta.value,.slice ka ta.kids.length ca,.int .i64 ta.at_]:=hP 1 32 (by kernel_rfl) (by kernel_rfl)
        go_simp
        go_at_call 19
        refine (PA wr hb).mono ?_
        rintro e w1 ⟨rfl,hb1⟩
        go_simp
        exact hK _ _ hb1 fun _=>rfl
      | 3=>
        obtain rfl:=Option.some.inj hop
        go_simp
        exact hK _ _ (Below.refl _ _) fun _=>by first | rfl | exact wrap_val (by omega)
      | 4=>
        obtain rfl:=Option.some.inj hop
        go_simp
        exact hK _ _ (Below.refl _ _) fun _=>by first | rfl | exact wrap_val (by omega)
      | 5=>
        obtain rfl:=Option.some.inj hop
        have n3:a.tmps[34]?.getD undef=.pointer (some ⟨bs,0,none⟩):=hP 3 34 (by kernel_rfl) (by kernel_rfl)
        have n4:a.tmps[35]?.getD undef=.agg #[.int .i64 tb.kind,.int .i64 tb.op,.string tb.name,.int .u64 tb.value,.slice kb tb.kids.length cb,.int .i64 tb.at_]:=hP 4 35 (by kernel_rfl) (by kernel_rfl)
        go_simp
        go_at_call 19
        refine (PB wr hb).mono ?_
        rintro e w1 ⟨rfl,hb1⟩
        go_simp
        exact hK _ _ hb1 fun _=>rfl
      | 6=>
        obtain rfl:=Option.some.inj hop
        have n2:a.tmps[33]?.getD undef=.int .i64 pa:=hP 2 33 (by kernel_rfl) (by kernel_rfl)
        have n5:a.tmps[36]?.getD undef=.int .i64 pb:=hP 5 36 (by kernel_rfl) (by kernel_rfl)
        go_simp
        exact hK _ _ (Below.refl _ _) fun _=>by first | rfl | exact wrap_val (by omega)
      | 7=>
        obtain rfl:=Option.some.inj hop
        have n6:a.tmps[37]?.getD undef=.int .i64 (pa*pb):=hP 6 37 (by kernel_rfl) (by kernel_rfl)
        go_simp
        exact hK _ _ (Below.refl _ _) fun _=>by first | rfl | exact wrap_val (by omega)
      | 8=>
        obtain rfl:=Option.some.inj hop
        have n7:a.tmps[38]?.getD undef=.int .i64 (min (pa*pb) 1073741824):=hP 7 38 (by kernel_rfl) (by kernel_rfl)
        go_simp
        exact hK _ _ (Below.refl _ _) fun _=>by first | rfl | exact wrap_val (by omega)
      | _+9=>simp at hop
    · intro V wz hbz hR
      have e8:V 8=.int .i64 (min (pa*pb) 1073741824):=hR 8 (by kernel_rfl)
      clear hR PA PB
      refine at_all (prs [31,32,33,34,35,36,37,38,8] V) (fun t=>by kernel_rfl) ?_
      simp only [prs,List.zipIdx,List.map,List.foldl,Nat.zero_add,Nat.reduceAdd,List.setIfInBounds_toArray,List.set_cons_zero,List.set_cons_succ,e8]
      go_wp2
      go_ret
      exact ⟨ret_int (by simp [bound2]),hbW.trans (hbz.mono hbW.size)⟩
  have hbW:∀ o o',Below w.heap.size w ((w.alloc o).alloc o'):=fun o o'=>((Below.refl _ _).alloc (Nat.le_refl _) _).alloc (by rw [alloc_size];omega) _
  have e:bound2 op pa pb=if op=8\/op=9 then 1 else 1073741824:=by simp [bound2,h3,h0,h2]
  rw [e]
  clear CA CB e
  by_cases h8:op=8
  · subst h8
    go_enter Tryz.func46,Tryz.ntmps46
    go_wp2
    go_ret
    exact ⟨ret_int (by simp),hbW _ _⟩
  by_cases h9:op=9
  · subst h9
    go_enter Tryz.func46,Tryz.ntmps46
    go_wp2
    go_ret
    exact ⟨ret_int (by simp),hbW _ _⟩
  go_enter Tryz.func46,Tryz.ntmps46
  go_wp2
  go_ret
  exact ⟨ret_int (by simp [h8,h9]),hbW _ _⟩
theorem bound_lit {f:ByteArray->Mng} {n:Nat} {e:Tree} (h:e.kind=0):boundP f (n+1) e=min (e.value:Int) 1073741824:=by simp [boundP,h]
theorem bound_round {f:ByteArray->Mng} {n:Nat} {e:Tree} (h:e.kind=1) (h5:(f e.name).kind=5):boundP f (n+1) e=min ((f e.name).count-1) 1073741824:=by simp [boundP,h,h5]
theorem bound_name {f:ByteArray->Mng} {n:Nat} {e:Tree} (h:e.kind=1) (h5:¬ (f e.name).kind=5):boundP f (n+1) e=1073741824:=by simp [boundP,h,h5]
theorem bound_bin {f:ByteArray->Mng} {n:Nat} {e a b:Tree} (h:e.kind=3) (hk:e.kids=[a,b]):boundP f (n+1) e=bound2 e.op (boundP f n a) (boundP f n b):=by simp [boundP,h,hk]
theorem bound_else {f:ByteArray->Mng} {n:Nat} {e:Tree} (h0:¬ e.kind=0) (h1:¬ e.kind=1) (h:¬ e.kind=3\/e.kids.length≠2):boundP f (n+1) e=1073741824:=by
  unfold boundP
  rw [if_neg h0,if_neg h1]
  split
  · split
    · rename_i hk
      rw [hk] at h
      simp at h
      contradiction
    · rfl
  · rfl
theorem bound_succ {n:Nat} (ih:BoundC n):BoundC (n+1):=fun B bs k st v e w hS hf hE hn=>by
  obtain ⟨hv,kv,rfl,hK⟩:=hE
  have HK:=Lib.hid hK
  obtain ⟨ka,kc,rfl,hl,_⟩:=hK
  have hb1:∀ o,Below w.heap.size w (w.alloc o):=fun o=>(Below.refl _ _).alloc (Nat.le_refl _) o
  obtain ⟨K,hKd⟩:∃ K,e.kind=K:=⟨_,rfl⟩
  by_cases h0:K=0
  · subst h0
    rw [bound_lit hKd,hKd]
    have hvm:min (e.value:Int) 1073741824=((min e.value 1073741824:Nat):Int):=by omega
    clear hS HK hKd
    go_enter Tryz.func19,Tryz.ntmps19
    go_wp2
    go_ret
    exact ⟨ret_int (by omega),hb1 _⟩
  by_cases h1:K=1
  · subst h1
    have PF:=fun o=>Sc.find_any (hS.below (hb1 o)) e.name (nm_le hn.1)
    have hcnt:=hf e.name
    by_cases h5:(st.f e.name).kind=5
    · rw [bound_round hKd h5,hKd]
      obtain ⟨c0,c1⟩:=hcnt h5
      clear hcnt hf hS HK hKd hn
      generalize st.f e.name=m at *
      obtain ⟨mk,ml,mc,mb⟩:=m
      simp only at h5 c0 c1 PF ⊢
      subst h5
      go_enter Tryz.func19,Tryz.ntmps19
      go_wp2_with (go_at_call 45;refine (PF _).mono ?_;rintro ed w1 ⟨rfl,hb2⟩)
      go_ret
      exact ⟨rfl,(hb1 _).trans (hb2.mono (by rw [alloc_size];omega))⟩
    · rw [bound_name hKd h5,hKd]
      clear hcnt hf hS HK hKd hn
      generalize st.f e.name=m at *
      obtain ⟨mk,ml,mc,mb⟩:=m
      simp only at h5 PF ⊢
      go_enter Tryz.func19,Tryz.ntmps19
      go_wp2_with (go_at_call 45;refine (PF _).mono ?_;rintro ed w1 ⟨rfl,hb2⟩)
      go_ret
      exact ⟨rfl,(hb1 _).trans (hb2.mono (by rw [alloc_size];omega))⟩
  by_cases h3:K=3
  · subst h3
    by_cases h2:e.kids.length=2
    · obtain ⟨ta,tb,hab⟩:∃ a b,e.kids=[a,b]:=by
        match hk:e.kids,h2 with
        | [a,b],_=>exact ⟨a,b,rfl⟩
      rw [bound_bin hKd hab,hKd]
      obtain ⟨_,_,er,_,hKr⟩:=HK.out
      cases er
      obtain ⟨g,off,x0,x1,x2,x3,x4,x5,rfl,_,hg,_,i0,i1,i2,i3,i4,i5,ra⟩:=hKr 0 ta (by rw [hab];rfl)
      obtain ⟨g',off',y0,y1,y2,y3,y4,y5,eg,_,_,_,j0,j1,j2,j3,j4,j5,rb⟩:=hKr 1 tb (by rw [hab];rfl)
      simp only [Option.some.injEq,Addr.mk.injEq,and_true] at eg
      obtain ⟨rfl,rfl⟩:=eg
      have Ra:=Lib.hid ra
      have Rb:=Lib.hid rb
      cases n with
      | zero=>exact ra.elim
      | succ n=>
      obtain ⟨_,_,hva,ka,ca,rfl,_,_⟩:=ra
      simp only [Value.agg.injEq,Array.mk.injEq,List.cons.injEq,and_true] at hva
      obtain ⟨rfl,rfl,rfl,rfl,rfl,rfl⟩:=hva
      obtain ⟨_,_,hvb,kb,cb,rfl,_,_⟩:=rb
      simp only [Value.agg.injEq,Array.mk.injEq,List.cons.injEq,and_true] at hvb
      obtain ⟨rfl,rfl,rfl,rfl,rfl,rfl⟩:=hvb
      simp only [Nat.zero_mul,Nat.add_zero,Nat.one_mul] at i0 i1 i2 i3 i4 i5 j0 j1 j2 j3 j4 j5
      have CA:=fun wr (hb:Below w.heap.size w wr)=>ih B bs k st _ ta wr (hS.below hb) hf (Ra.out.mono hb.size hb) (hn.2 ta (by rw [hab];simp))
      have CB:=fun wr (hb:Below w.heap.size w wr)=>ih B bs k st _ tb wr (hS.below hb) hf (Rb.out.mono hb.size hb) (hn.2 tb (by rw [hab];simp))
      have rga:=bound_rng hf (n+1) ta
      have rgb:=bound_rng hf (n+1) tb
      generalize boundP st.f (n+1) ta=pa at CA rga ⊢
      generalize boundP st.f (n+1) tb=pb at CB rgb ⊢
      have PT0:=fun wr (hb:Below w.heap.size w wr)=>two_of (n:=n) bs e.op pa pb ta tb ka kb ca cb wr rga rgb (fun w2 hb2=>CA w2 (hb.trans (hb2.mono hb.size))) (fun w2 hb2=>CB w2 (hb.trans (hb2.mono hb.size)))
      generalize bound2 e.op pa pb=q at PT0 ⊢
      rw [h2]
      clear CA CB hS HK hKr Ra Rb rga rgb hl hab hKd
      go_enter Tryz.func19,Tryz.ntmps19
      go_wp2
      obtain ⟨W,hW⟩:∃ W,W=w.alloc (.cells #[.int .i64 3,.int .i64 e.op,.string e.name,.int .u64 e.value,.slice (some ⟨g,off,none⟩) 2 kc,.int .i64 e.at_] 50):=⟨_,rfl⟩
      have hhW:W.heap[w.heap.size]?=some (.cells #[.int .i64 3,.int .i64 e.op,.string e.name,.int .u64 e.value,.slice (some ⟨g,off,none⟩) 2 kc,.int .i64 e.at_] 50 (0,0)):=by rw [hW];exact heap_alloc_new _ _
      have hbW:Below w.heap.size w W:=by rw [hW];exact hb1 _
      rw [<- hW]
      clear hW
      have hgW:g<W.heap.size:=by have:=hbW.size;omega
      have ii:=fun {o:Nat} {u:Value} (h:w.cell? ⟨g,o,none⟩=some u)=>(hbW.cell (p:=⟨g,o,none⟩) hg).trans h
      replace i0:=ii i0
      replace i1:=ii i1
      replace i2:=ii i2
      replace i3:=ii i3
      replace i4:=ii i4
      replace i5:=ii i5
      replace j0:=ii j0
      replace j1:=ii j1
      replace j2:=ii j2
      replace j3:=ii j3
      replace j4:=ii j4
      replace j5:=ii j5
      have PT:=fun wr (hb:Below W.heap.size W wr)=>PT0 wr (hbW.trans (hb.mono hbW.size))
      clear PT0 ii
      refine wp_region_mono (by kernel_rfl) (by kernel_rfl) (by kernel_rfl) (by kernel_rfl) (by kernel_rfl) (fun (i:Nat) (v:Value) (wv:World)=>match i with | 0=>v=.pointer (some ⟨bs,0,none⟩) | 1=>v=.pointer (some ⟨w.heap.size,1,none⟩) | 2=>v=.int .i64 e.op | 3=>v=.pointer (some ⟨w.heap.size,4,none⟩) | 4=>v=.slice (some ⟨g,off,none⟩) 2 kc | 5=>v=.pointer (some ⟨g,off,none⟩) | 6=>v=.agg #[.int .i64 ta.kind,.int .i64 ta.op,.string ta.name,.int .u64 ta.value,.slice ka ta.kids.length ca,.int .i64 ta.at_] | 7=>v=.pointer (some ⟨w.heap.size,4,none⟩) | 8=>v=.slice (some ⟨g,off,none⟩) 2 kc | 9=>v=.pointer (some ⟨g,off+6,none⟩) | 10=>v=.agg #[.int .i64 tb.kind,.int .i64 tb.op,.string tb.name,.int .u64 tb.value,.slice kb tb.kids.length cb,.int .i64 tb.at_] | 11=>v=.int .i64 q | 12=>v=.int .i64 q | _=>True) ?_ [] (by kernel_rfl) ?_ ?_ ?_
      · intro i v w w' hb h
        match i with
        | 0=>exact h
        | 1=>exact h
        | 2=>exact h
        | 3=>exact h
        | 4=>exact h
        | 5=>exact h
        | 6=>exact h
        | 7=>exact h
        | 8=>exact h
        | 9=>exact h
        | 10=>exact h
        | 11=>exact h
        | 12=>exact h
        | _+13=>trivial
      · intro p hp v w h
        cases hp
      · intro a wr i op hop hb hF hP K hK
        have s0:a.tmps[0]?.getD undef=.pointer (some ⟨bs,0,none⟩):=(hF 0 (by kernel_rfl)).trans rfl
        have s3:a.tmps[3]?.getD undef=.pointer (some ⟨w.heap.size,0,none⟩):=(hF 3 (by kernel_rfl)).trans rfl
        obtain ⟨p0,p1,p2,p3,p4,p5⟩:=six_cells (keep hb hhW)
        have a0:=(hb.cell (p:=⟨g,off,none⟩) hgW).trans i0
        have a1:=(hb.cell (p:=⟨g,off+1,none⟩) hgW).trans i1
        have a2:=(hb.cell (p:=⟨g,off+2,none⟩) hgW).trans i2
        have a3:=(hb.cell (p:=⟨g,off+3,none⟩) hgW).trans i3
        have a4:=(hb.cell (p:=⟨g,off+4,none⟩) hgW).trans i4
        have a5:=(hb.cell (p:=⟨g,off+5,none⟩) hgW).trans i5
        have b0:=(hb.cell (p:=⟨g,off+6,none⟩) hgW).trans j0
        have b1:=(hb.cell (p:=⟨g,off+6+1,none⟩) hgW).trans j1
        have b2:=(hb.cell (p:=⟨g,off+6+2,none⟩) hgW).trans j2
        have b3:=(hb.cell (p:=⟨g,off+6+3,none⟩) hgW).trans j3
        have b4:=(hb.cell (p:=⟨g,off+6+4,none⟩) hgW).trans j4
        have b5:=(hb.cell (p:=⟨g,off+6+5,none⟩) hgW).trans j5
        match i with
        | 0=>
          obtain rfl:=Option.some.inj hop
          go_simp
          exact hK _ _ (Below.refl _ _) fun _=>by first | rfl | exact wrap_val (by omega)
        | 1=>
          obtain rfl:=Option.some.inj hop
          go_simp
          exact hK _ _ (Below.refl _ _) fun _=>by first | rfl | exact wrap_val (by omega)
        | 2=>
          obtain rfl:=Option.some.inj hop
          have n1:a.tmps[40]?.getD undef=.pointer (some ⟨w.heap.size,1,none⟩):=hP 1 40 (by kernel_rfl) (by kernel_rfl)
          go_simp
          exact hK _ _ (Below.refl _ _) fun _=>by first | rfl | exact wrap_val (by omega)
        | 3=>
          obtain rfl:=Option.some.inj hop
          go_simp
          exact hK _ _ (Below.refl _ _) fun _=>by first | rfl | exact wrap_val (by omega)
        | 4=>
          obtain rfl:=Option.some.inj hop
          have n3:a.tmps[42]?.getD undef=.pointer (some ⟨w.heap.size,4,none⟩):=hP 3 42 (by kernel_rfl) (by kernel_rfl)
          go_simp
          exact hK _ _ (Below.refl _ _) fun _=>by first | rfl | exact wrap_val (by omega)
        | 5=>
          obtain rfl:=Option.some.inj hop
          have n4:a.tmps[43]?.getD undef=.slice (some ⟨g,off,none⟩) 2 kc:=hP 4 43 (by kernel_rfl) (by kernel_rfl)
          go_simp
          exact hK _ _ (Below.refl _ _) fun _=>by first | rfl | exact wrap_val (by omega)
        | 6=>
          obtain rfl:=Option.some.inj hop
          have n5:a.tmps[44]?.getD undef=.pointer (some ⟨g,off,none⟩):=hP 5 44 (by kernel_rfl) (by kernel_rfl)
          go_simp
          exact hK _ _ (Below.refl _ _) fun _=>by first | rfl | exact wrap_val (by omega)
        | 7=>
          obtain rfl:=Option.some.inj hop
          go_simp
          exact hK _ _ (Below.refl _ _) fun _=>by first | rfl | exact wrap_val (by omega)
        | 8=>
          obtain rfl:=Option.some.inj hop
          have n7:a.tmps[46]?.getD undef=.pointer (some ⟨w.heap.size,4,none⟩):=hP 7 46 (by kernel_rfl) (by kernel_rfl)
          go_simp
          exact hK _ _ (Below.refl _ _) fun _=>by first | rfl | exact wrap_val (by omega)
        | 9=>
          obtain rfl:=Option.some.inj hop
          have n8:a.tmps[47]?.getD undef=.slice (some ⟨g,off,none⟩) 2 kc:=hP 8 47 (by kernel_rfl) (by kernel_rfl)
          go_simp
          exact hK _ _ (Below.refl _ _) fun _=>by first | rfl | exact wrap_val (by omega)
        | 10=>
          obtain rfl:=Option.some.inj hop
          have n9:a.tmps[48]?.getD undef=.pointer (some ⟨g,off+6,none⟩):=hP 9 48 (by kernel_rfl) (by kernel_rfl)
          go_simp
          exact hK _ _ (Below.refl _ _) fun _=>by first | rfl | exact wrap_val (by omega)
        | 11=>
          obtain rfl:=Option.some.inj hop
          have n0:a.tmps[39]?.getD undef=.pointer (some ⟨bs,0,none⟩):=hP 0 39 (by kernel_rfl) (by kernel_rfl)
          have n2:a.tmps[41]?.getD undef=.int .i64 e.op:=hP 2 41 (by kernel_rfl) (by kernel_rfl)
          have n6:a.tmps[45]?.getD undef=.agg #[.int .i64 ta.kind,.int .i64 ta.op,.string ta.name,.int .u64 ta.value,.slice ka ta.kids.length ca,.int .i64 ta.at_]:=hP 6 45 (by kernel_rfl) (by kernel_rfl)
          have n10:a.tmps[49]?.getD undef=.agg #[.int .i64 tb.kind,.int .i64 tb.op,.string tb.name,.int .u64 tb.value,.slice kb tb.kids.length cb,.int .i64 tb.at_]:=hP 10 49 (by kernel_rfl) (by kernel_rfl)
          go_simp
          go_at_call 46
          refine (PT wr hb).mono ?_
          rintro ed w1 ⟨rfl,hb1⟩
          go_simp
          exact hK _ _ hb1 fun _=>rfl
        | 12=>
          obtain rfl:=Option.some.inj hop
          have n11:a.tmps[50]?.getD undef=.int .i64 q:=hP 11 50 (by kernel_rfl) (by kernel_rfl)
          go_simp
          exact hK _ _ (Below.refl _ _) fun _=>by first | rfl | exact wrap_val (by omega)
        | _+13=>simp at hop
      · intro V wz hbz hR
        have e12:V 12=.int .i64 q:=hR 12 (by kernel_rfl)
        clear hR PT
        refine at_all (prs [39,40,41,42,43,44,45,46,47,48,49,50,4] V) (fun t=>by kernel_rfl) ?_
        simp only [prs,List.zipIdx,List.map,List.foldl,Nat.zero_add,Nat.reduceAdd,List.setIfInBounds_toArray,List.set_cons_zero,List.set_cons_succ,e12]
        go_wp2
        go_ret
        exact ⟨rfl,hbW.trans (hbz.mono hbW.size)⟩
    · rw [bound_else (by omega) (by omega) (.inr h2),hKd]
      have h2I:¬ (e.kids.length:Int)=2:=by omega
      clear hS HK hKd
      go_enter Tryz.func19,Tryz.ntmps19
      go_wp2
      go_ret
      exact ⟨rfl,hb1 _⟩
  rw [bound_else (by omega) (by omega) (.inl (by omega)),hKd]
  clear hS HK hKd
  go_enter Tryz.func19,Tryz.ntmps19
  go_wp2
  go_ret
  exact ⟨rfl,hb1 _⟩
theorem bound_all:∀ n,BoundC n
  | 0=>fun _ _ _ _ _ _ _ _ _ h _=>h.elim
  | n+1=>bound_succ (bound_all n)
theorem ret_bool {a b:Bool} (h:a=b):Ending.returned (.bool a)=.returned (.bool b):=by rw [h]
theorem hid_any (a:Int) (b:Bool) (h:(a != 0)=b) (w:World):Calls Tryz.prog 110 #[.int .i64 a] w fun e w'=>e=.returned (.bool b)/\w'=w:=by
  subst h
  go_enter Tryz.func110,Tryz.ntmps110
  go_wp2
  go_ret
  exact ⟨ret_bool (by simp),rfl⟩
theorem flows_yes (a b:Int) (h:a=0\/b≠0) (w:World):Calls Tryz.prog 124 #[.int .i64 a,.int .i64 b] w fun e w'=>e=.returned (.bool true)/\w'=w:=by
  by_cases ha:a=0
  · subst ha
    have H:=hid_any 0 false rfl
    clear h
    go_enter Tryz.func124,Tryz.ntmps124
    go_wp2_with (go_at_call 110;refine (H _).mono ?_;rintro e w' ⟨rfl,rfl⟩)
    go_ret
    exact ⟨rfl,rfl⟩
  · have H:=hid_any a true (by simpa using ha)
    have H2:=hid_any b true (by simpa using h.resolve_left ha)
    clear h ha
    go_enter Tryz.func124,Tryz.ntmps124
    go_wp2_with (first | (go_at_call 110;refine (H _).mono ?_;rintro e w' ⟨rfl,rfl⟩) | (go_at_call 110;refine (H2 _).mono ?_;rintro e w' ⟨rfl,rfl⟩))
    go_ret
    exact ⟨rfl,rfl⟩
theorem flows_no (a:Int) (ha:a≠0) (w:World):Calls Tryz.prog 124 #[.int .i64 a,.int .i64 0] w fun e w'=>e=.returned (.bool false)/\w'=w:=by
  have H:=hid_any a true (by simpa using ha)
  have H2:=hid_any 0 false rfl
  clear ha
  go_enter Tryz.func124,Tryz.ntmps124
  go_wp2_with (first | (go_at_call 110;refine (H2 _).mono ?_;rintro e w' ⟨rfl,rfl⟩) | (go_at_call 110;refine (H _).mono ?_;rintro e w' ⟨rfl,rfl⟩))
  go_ret
  exact ⟨rfl,rfl⟩
theorem join_two (g:Nat) (a b:Int) (w:World) (h0:w.cell? ⟨g,0,none⟩=some (.int .i64 a)) (h1:w.cell? ⟨g,1,none⟩=some (.int .i64 b)):Calls Tryz.prog 72 #[.slice (some ⟨g,0,none⟩) 2 2] w fun e w'=>e=.returned (.int .i64 (joinI a b))/\w'=w:=by
  by_cases ha:a=0
  · subst ha
    have H:=hid_any 0 false rfl
    by_cases hb:b=0
    · subst hb
      go_enter Tryz.func72,Tryz.ntmps72
      go_wp2
      refine wp_loop_rounds 3 ?_
      rw [rounds_succ]
      go_wp2_with (go_at_call 110;refine (H _).mono ?_;rintro e w' ⟨rfl,rfl⟩)
      rw [rounds_succ]
      go_wp2_with (go_at_call 110;refine (H _).mono ?_;rintro e w' ⟨rfl,rfl⟩)
      rw [rounds_succ]
      go_wp2
      go_ret
      exact ⟨rfl,rfl⟩
    · have H2:=hid_any b true (by simpa using hb)
      have hj:joinI 0 b=1:=by unfold joinI;rw [if_pos (.inr hb)]
      rw [hj]
      go_enter Tryz.func72,Tryz.ntmps72
      go_wp2
      refine wp_loop_rounds 2 ?_
      rw [rounds_succ]
      go_wp2_with (go_at_call 110;refine (H _).mono ?_;rintro e w' ⟨rfl,rfl⟩)
      rw [rounds_succ]
      go_wp2_with (go_at_call 110;refine (H2 _).mono ?_;rintro e w' ⟨rfl,rfl⟩)
      go_ret
      exact ⟨rfl,rfl⟩
  · have H2:=hid_any a true (by simpa using ha)
    have hj:joinI a b=1:=by unfold joinI;rw [if_pos (.inl ha)]
    rw [hj]
    go_enter Tryz.func72,Tryz.ntmps72
    go_wp2
    refine wp_loop_rounds 1 ?_
    rw [rounds_succ]
    go_wp2_with (go_at_call 110;refine (H2 _).mono ?_;rintro e w' ⟨rfl,rfl⟩)
    go_ret
    exact ⟨rfl,rfl⟩
def LabR (w:World) (r:Except Er Int) (ed:Ending) (w':World):Prop:=
  Below w.heap.size w w'/\match r with
  | .ok l=>ed=.returned (.tuple #[.int .i64 l,.nilIface])
  | .error x=>∃ fb,ed=.returned (.tuple #[.int .i64 0,faultV fb])/\FaultAt w' x.1 x.2 fb/\w.heap.size<=fb
theorem name_of {B bs k:Nat} {st:St} {e:Tree} {ka:Option Addr} {kc:Nat} {w:World} (hS:ScAt (· < B) bs k st.f st.ls w) (hn:e.name.size<=35184372088832):
    Calls Tryz.prog 47 #[.pointer (some ⟨bs,0,none⟩),eval6 e ka kc] w (LabR w (nameP st.f e.name e.at_)):=by
  have hb1:∀ o,Below w.heap.size w (w.alloc o):=fun o=>(Below.refl _ _).alloc (Nat.le_refl _) o
  have PF:=fun o=>Sc.find_any (hS.below (hb1 o)) e.name (nm_le hn)
  unfold nameP
  clear hS hn
  generalize st.f e.name=m at *
  obtain ⟨mk,ml,mc,mb⟩:=m
  simp only at PF ⊢
  by_cases h:mk=2\/mk=4\/mk=5
  · rw [if_pos h]
    rcases h with rfl | rfl | rfl
    all_goals
     go_enter Tryz.func47,Tryz.ntmps47
     go_wp2_with (go_at_call 45;refine (PF _).mono ?_;rintro ed w1 ⟨rfl,hb2⟩)
     go_returns
     exact ⟨(hb1 _).trans (hb2.mono (by rw [alloc_size];omega)),rfl⟩
  · rw [if_neg h]
    have h2:¬ mk=2:=fun e=>h (.inl e)
    have h4:¬ mk=4:=fun e=>h (.inr (.inl e))
    have h5:¬ mk=5:=fun e=>h (.inr (.inr e))
    clear h
    go_enter Tryz.func47,Tryz.ntmps47
    go_wp2_with (first
     | (go_at_call 42;refine (Lx.wrap_any _ _ _).mono ?_;rintro ed w2 ⟨rfl,rfl⟩)
     | (go_at_call 45;refine (PF _).mono ?_;rintro ed w1 ⟨rfl,hb2⟩;obtain ⟨p0,p1,p2,p3,p4,p5⟩:=six_cells (keep hb2 (heap_alloc_new w _))))
    go_returns
    have hb3:=(hb1 (.cells #[.int .i64 e.kind,.int .i64 e.op,.string e.name,.int .u64 e.value,.slice ka e.kids.length kc,.int .i64 e.at_] 50)).trans (hb2.mono (by rw [alloc_size];omega))
    exact ⟨hb3.alloc hb3.size _,_,rfl,heap_alloc_new _ _,hb3.size⟩
def LabelC (n:Nat):Prop:=∀ (B bs k:Nat) (st:St) (v:Value) (e:Tree) (w:World),ScAt (· < B) bs k st.f st.ls w->okF st.f->ERep 0 w.heap.size w n v e->nmE n e ->
  Calls Tryz.prog 21 #[.pointer (some ⟨bs,0,none⟩),v] w (LabR w (labelP st.f n e))
theorem kids_later {n:Nat} {w w':World} {kv:Value} {ks:List Tree} (h:Kids 0 w.heap.size w (fun v' t'=>ERep 0 w.heap.size w n v' t') kv ks) (hb:Below w.heap.size w w'):Kids 0 w'.heap.size w' (fun v' t'=>ERep 0 w'.heap.size w' n v' t') kv ks:=
  h.carry (Nat.le_refl _) hb.size (Same35.of_below hb) fun _ _ hr=>hr.mono hb.size hb
theorem LabR.on {w w1:World} {r:Except Er Int} {ed:Ending} {w':World} (h:LabR w1 r ed w') (hb:Below w.heap.size w w1):LabR w r ed w':=by
  obtain ⟨h1,h2⟩:=h
  refine ⟨hb.trans (h1.mono hb.size),?_⟩
  cases r with
  | ok l=>exact h2
  | error x=>
    obtain ⟨fb,a,b,c⟩:=h2
    exact ⟨fb,a,b,Nat.le_trans hb.size c⟩
theorem all_at (L:Tree->Except Er Int):∀ (es:List Tree) (a:Int) (j:Nat) (x:Tree),es[j]?=some x->allP L a (es.drop j)=match L x with | .error y=>.error y | .ok l=>allP L (joinI a l) (es.drop (j+1)):=fun es a j x hx=>by
  have hlt:j<es.length:=(List.getElem?_eq_some_iff.1 hx).1
  have e:es.drop j=x :: es.drop (j+1):=by
    rw [List.drop_eq_getElem_cons hlt,(List.getElem?_eq_some_iff.1 hx).2]
  rw [e]
  rfl
theorem all_of {n:Nat} (ih:LabelC n) {B bs k:Nat} {st:St} (kv:Value) (es:List Tree) {w:World} (hS:ScAt (· < B) bs k st.f st.ls w) (hf:okF st.f) (hK:Kids 0 w.heap.size w (fun v' t'=>ERep 0 w.heap.size w n v' t') kv es) (hn:∀ e ∈ es,nmE n e):
    Calls Tryz.prog 49 #[.pointer (some ⟨bs,0,none⟩),kv] w (LabR w (allP (labelP st.f n) 0 es)):=by
  have HK:=Lib.hid hK
  obtain ⟨ao,cap,rfl,hl,_⟩:=hK
  have HS:=Lib.hid hS
  have HN:=Lib.hid hn
  have HF:=Lib.hid hf
  obtain ⟨R,hR⟩:∃ R,allP (labelP st.f n) 0 es=R:=⟨_,rfl⟩
  rw [hR]
  have HR:=Lib.hid hR
  clear hS hn hf hR
  go_enter Tryz.func49,Tryz.ntmps49
  go_wp2
  go_loopw [6,13] (fun s i wr=>∃ (j:Nat) (a:Int),j<=es.length/\i=.int .i64 j/\s=.int .i64 a/\Below w.heap.size w wr/\allP (labelP st.f n) a (es.drop j)=R) (fun _ i _=>es.length-(intOf i).toNat)
  case atStart=>exact ⟨0,0,Nat.zero_le _,rfl,rfl,Below.refl _ _,HR.out⟩
  case round=>
    obtain ⟨j,al,hj,rfl,rfl,hbr,hres⟩:=hrel
    have hzr:=hbr.size
    by_cases hlt:j<es.length
    · obtain ⟨x,hx⟩:∃ x,es[j]?=some x:=⟨es[j],by simp [hlt]⟩
      have hxn:=HN.out x (List.mem_of_getElem? hx)
      rw [all_at _ _ _ _ _ hx] at hres
      obtain ⟨_,_,er,_,hKr⟩:=kids_later HK.out hbr
      cases er
      obtain ⟨g,off,c0,c1,c2,c3,c4,c5,rfl,_,hg,_,h0,h1,h2,h3,h4,h5,hr⟩:=hKr j x hx
      have hRp:=Lib.hid hr
      cases n with
      | zero=>exact hr.elim
      | succ n=>
      obtain ⟨_,kvx,hv,kax,kcx,rfl,_,_⟩:=hr
      simp only [Value.agg.injEq,Array.mk.injEq,List.cons.injEq,and_true] at hv
      obtain ⟨rfl,rfl,rfl,rfl,rfl,rfl⟩:=hv
      have hb1:∀ o,Below wr.heap.size wr (wr.alloc o):=fun o=>(Below.refl _ _).alloc (Nat.le_refl _) o
      have P:=fun o=>ih B bs k st _ x (wr.alloc o) (HS.out.below (hbr.trans ((hb1 o).mono hzr))) HF.out (hRp.out.mono (hb1 o).size (hb1 o)) hxn
      clear hKr hx hxn
      cases hL:labelP st.f (n+1) x with
      | error y=>
        rw [hL] at P hres
        have HRs:=Lib.hid hres
        clear hL hres
        go_wp2_with (go_at_call 21;refine (P _).mono ?_;rintro ed w1 ⟨hb2,fb,rfl,hfb,hz⟩)
        go_returns
        rw [<- HRs.out]
        exact LabR.on ⟨hb2,fb,rfl,hfb,hz⟩ (hbr.trans ((hb1 _).mono hzr))
      | ok l=>
        rw [hL] at P hres
        have HRs:=Lib.hid hres
        clear hL hres
        go_wp2_with (first
          | (go_at_call 72;refine (join_two _ _ _ _ (by rw [Lib.cell_of_heap (heap_alloc_new _ _)];rfl) (by rw [Lib.cell_of_heap (heap_alloc_new _ _)];rfl)).mono ?_;rintro ed w2 ⟨rfl,rfl⟩)
          | (go_at_call 21;refine (P _).mono ?_;rintro ed w1 ⟨hb2,rfl⟩))
        go_roundw
        case rel=>
          have hbx:=hbr.trans (((hb1 _).trans (hb2.mono (hb1 _).size)).mono hzr)
          exact ⟨j+1,joinI al l,by omega,by go_num,rfl,hbx.alloc hbx.size _,HRs.out⟩
        case measure=>simp [intOf];omega
    · obtain rfl:j=es.length:=by omega
      rw [List.drop_length] at hres
      have HRs:=Lib.hid hres
      clear hres
      go_wp2
      go_returns
      rw [<- HRs.out]
      exact ⟨hbr,rfl⟩
theorem cellP_no {f:ByteArray->Mng} {L:Tree->Except Er Int} {Bd:Tree->Int} {s:ByteArray} {kids:List Tree} {at_:Int} (h:kids.length≠1\/(f s).kind≠3):cellP f L Bd s kids at_=.error (3,at_):=by
  unfold cellP
  split
  · rename_i k
    rw [if_neg (h.resolve_left (by simp))]
  · rfl
theorem cellP_one {f:ByteArray->Mng} {L:Tree->Except Er Int} {Bd:Tree->Int} {s:ByteArray} {x:Tree} {at_:Int} (h:(f s).kind=3):cellP f L Bd s [x] at_=match L x with | .error y=>.error y | .ok l=>if l≠0 then .error (4,x.at_) else if (f s).count<=Bd x then .error (3,x.at_) else .ok (f s).label:=by
  unfold cellP
  simp only [h,if_true] <;> rfl
theorem cell_of {n:Nat} (ih:LabelC n) {B bs k:Nat} {st:St} {e:Tree} {ka:Option Addr} {kc:Nat} {w:World} (hS:ScAt (· < B) bs k st.f st.ls w) (hf:okF st.f) (hn:nmE (n+1) e) (hK:Kids 0 w.heap.size w (fun v' t'=>ERep 0 w.heap.size w n v' t') (.slice ka e.kids.length kc) e.kids):
    Calls Tryz.prog 48 #[.pointer (some ⟨bs,0,none⟩),eval6 e ka kc] w (LabR w (cellP st.f (labelP st.f n) (boundP st.f n) e.name e.kids e.at_)):=by
  unfold eval6
  have hb1:∀ {w:World} (o:Obj),Below w.heap.size w (w.alloc o):=fun o=>(Below.refl _ _).alloc (Nat.le_refl _) o
  have PF:=fun o=>Sc.find_any (hS.below (hb1 o)) e.name (nm_le hn.1)
  by_cases hno:e.kids.length≠1\/(st.f e.name).kind≠3
  · rw [cellP_no hno]
    generalize st.f e.name=m at *
    obtain ⟨mk,ml,mc,mb⟩:=m
    simp only at PF hno
    clear hS hf hn hK ih
    by_cases h1:e.kids.length=1
    · have h3:¬ mk=3:=hno.resolve_left (by simp [h1])
      have h1I:(e.kids.length:Int)=1:=by omega
      rw [h1]
      clear hno h1 h1I
      go_enter Tryz.func48,Tryz.ntmps48
      go_wp2_with (first
        | (go_at_call 42;refine (Lx.wrap_any _ _ _).mono ?_;rintro ed w2 ⟨rfl,rfl⟩)
        | (go_at_call 45;refine (PF _).mono ?_;rintro ed w1 ⟨rfl,hb2⟩;obtain ⟨p0,p1,p2,p3,p4,p5⟩:=six_cells (keep hb2 (heap_alloc_new w _))))
      go_returns
      have hb3:=(hb1 (.cells #[.int .i64 e.kind,.int .i64 e.op,.string e.name,.int .u64 e.value,.slice ka 1 kc,.int .i64 e.at_] 50)).trans (hb2.mono (by rw [alloc_size];omega))
      exact ⟨hb3.alloc hb3.size _,_,rfl,heap_alloc_new _ _,hb3.size⟩
    · have h1I:¬ (e.kids.length:Int)=1:=by omega
      clear hno
      go_enter Tryz.func48,Tryz.ntmps48
      go_wp2_with (first
        | (go_at_call 42;refine (Lx.wrap_any _ _ _).mono ?_;rintro ed w2 ⟨rfl,rfl⟩)
        | (go_at_call 45;refine (PF _).mono ?_;rintro ed w1 ⟨rfl,hb2⟩;obtain ⟨p0,p1,p2,p3,p4,p5⟩:=six_cells (keep hb2 (heap_alloc_new w _))))
      go_returns
      have hb3:=(hb1 (.cells #[.int .i64 e.kind,.int .i64 e.op,.string e.name,.int .u64 e.value,.slice ka e.kids.length kc,.int .i64 e.at_] 50)).trans (hb2.mono (by rw [alloc_size];omega))
      exact ⟨hb3.alloc hb3.size _,_,rfl,heap_alloc_new _ _,hb3.size⟩
  · have h1:e.kids.length=1:=by
     rcases Nat.decEq e.kids.length 1 with h | h
     · exact absurd (.inl h) hno
     · exact h
    have h3:(st.f e.name).kind=3:=by
     rcases Int.instDecidableEq (st.f e.name).kind 3 with h | h
     · exact absurd (.inr h) hno
     · exact h
    obtain ⟨x,hx⟩:∃ x,e.kids=[x]:=by
     match hk:e.kids,h1 with
     | [x],_=>exact ⟨x,rfl⟩
    have hxn:=hn.2 x (by rw [hx];simp)
    have HK:=Lib.hid hK
    obtain ⟨_,_,er,_,hKr⟩:=hK
    cases er
    obtain ⟨g,off,c0,c1,c2,c3,c4,c5,rfl,_,hg,_,h0,i1,i2,i3,i4,i5,hr⟩:=hKr 0 x (by rw [hx];rfl)
    simp only [Nat.zero_mul,Nat.add_zero] at h0 i1 i2 i3 i4 i5
    have hRp:=Lib.hid hr
    cases n with
    | zero=>exact hr.elim
    | succ n=>
    obtain ⟨_,kvx,hv,kax,kcx,rfl,_,_⟩:=hr
    simp only [Value.agg.injEq,Array.mk.injEq,List.cons.injEq,and_true] at hv
    obtain ⟨rfl,rfl,rfl,rfl,rfl,rfl⟩:=hv
    have PL:=fun w1 (hb:Below w.heap.size w w1)=>ih B bs k st _ x w1 (hS.below hb) hf (hRp.out.mono hb.size hb) hxn
    have PB:=fun w1 (hb:Below w.heap.size w w1)=>bound_all (n+1) B bs k st _ x w1 (hS.below hb) hf (hRp.out.mono hb.size hb) hxn
    rw [h1,hx,cellP_one h3]
    generalize st.f e.name=m at *
    obtain ⟨mk,ml,mc,mb⟩:=m
    simp only at PF h3 ⊢
    subst h3
    clear hS hf hn hKr HK hno hxn ih hRp h1 hx
    cases hL:labelP st.f (n+1) x with
    | error y=>
      rw [hL] at PL
      clear hL PB
      go_enter Tryz.func48,Tryz.ntmps48
      go_wp2_with (first
        | (go_at_call 21;refine (PL _ hby).mono ?_;rintro ed w2 ⟨hb3,fb,rfl,hfb,hz⟩;have hbw:=hby.trans (hb3.mono hby.size);obtain ⟨y0,y1,y2,y3,y4,y5⟩:=six_cells (keep hb3 (heap_alloc_new w1 _)))
        | (go_at_call 45;refine (PF _).mono ?_;rintro ed w1 ⟨rfl,hb2⟩;have hbx:=(hb1 (w:=w) (.cells #[.int .i64 e.kind,.int .i64 e.op,.string e.name,.int .u64 e.value,.slice (some ⟨g,off,none⟩) 1 kc,.int .i64 e.at_] 50)).trans (hb2.mono (by rw [alloc_size];omega));obtain ⟨p0,p1,p2,p3,p4,p5⟩:=six_cells (keep hb2 (heap_alloc_new w _));have z0:=(hbx.cell (p:=⟨g,off,none⟩) hg).trans h0;have z1:=(hbx.cell (p:=⟨g,off+1,none⟩) hg).trans i1;have z2:=(hbx.cell (p:=⟨g,off+2,none⟩) hg).trans i2;have z3:=(hbx.cell (p:=⟨g,off+3,none⟩) hg).trans i3;have z4:=(hbx.cell (p:=⟨g,off+4,none⟩) hg).trans i4;have z5:=(hbx.cell (p:=⟨g,off+5,none⟩) hg).trans i5;have hgw:g<w1.heap.size:=(by have:=hbx.size;omega);have hby:=hbx.alloc hbx.size (.cells #[.int .i64 x.kind,.int .i64 x.op,.string x.name,.int .u64 x.value,.slice kax x.kids.length kcx,.int .i64 x.at_] 50)))
      go_returns
      exact ⟨hbw,fb,rfl,hfb,by have:=hby.size;omega⟩
    | ok l=>
      rw [hL] at PL
      clear hL
      by_cases hl0:l=0
      · subst hl0
        have hrg:=boundP st.f (n+1) x
        generalize boundP st.f (n+1) x=q at PB ⊢
        by_cases hq:mc<=q
        · have hqq:(if (0:Int)≠0 then Except.error (4,x.at_) else if mc<=q then Except.error (3,x.at_) else Except.ok ml:Except Er Int)=.error (3,x.at_):=by rw [if_neg (by decide),if_pos hq]
          show Calls _ _ _ _ (LabR w (if (0:Int)≠0 then Except.error (4,x.at_) else if mc<=q then Except.error (3,x.at_) else Except.ok ml))
          rw [hqq]
          clear hqq hrg
          go_enter Tryz.func48,Tryz.ntmps48
          go_wp2_with (first
           | (go_at_call 42;refine (Lx.wrap_any _ _ _).mono ?_;rintro ed w4 ⟨rfl,rfl⟩)
           | (go_at_call 19;refine (PB _ hbw).mono ?_;rintro ed w3 ⟨rfl,hb4⟩;obtain ⟨y0,y1,y2,y3,y4,y5⟩:=six_cells (keep hb4 (keep hb3 (heap_alloc_new w1 _)));have hbv:=hbw.trans (hb4.mono hbw.size))
           | (go_at_call 21;refine (PL _ hby).mono ?_;rintro ed w2 ⟨hb3,rfl⟩;have hbw:=hby.trans (hb3.mono hby.size);obtain ⟨y0,y1,y2,y3,y4,y5⟩:=six_cells (keep hb3 (heap_alloc_new w1 _)))
           | (go_at_call 45;refine (PF _).mono ?_;rintro ed w1 ⟨rfl,hb2⟩;have hbx:=(hb1 (w:=w) (.cells #[.int .i64 e.kind,.int .i64 e.op,.string e.name,.int .u64 e.value,.slice (some ⟨g,off,none⟩) 1 kc,.int .i64 e.at_] 50)).trans (hb2.mono (by rw [alloc_size];omega));obtain ⟨p0,p1,p2,p3,p4,p5⟩:=six_cells (keep hb2 (heap_alloc_new w _));have z0:=(hbx.cell (p:=⟨g,off,none⟩) hg).trans h0;have z1:=(hbx.cell (p:=⟨g,off+1,none⟩) hg).trans i1;have z2:=(hbx.cell (p:=⟨g,off+2,none⟩) hg).trans i2;have z3:=(hbx.cell (p:=⟨g,off+3,none⟩) hg).trans i3;have z4:=(hbx.cell (p:=⟨g,off+4,none⟩) hg).trans i4;have z5:=(hbx.cell (p:=⟨g,off+5,none⟩) hg).trans i5;have hgw:g<w1.heap.size:=(by have:=hbx.size;omega);have hby:=hbx.alloc hbx.size (.cells #[.int .i64 x.kind,.int .i64 x.op,.string x.name,.int .u64 x.value,.slice kax x.kids.length kcx,.int .i64 x.at_] 50)))
          go_returns
          exact ⟨hbv.alloc hbv.size _,_,rfl,heap_alloc_new _ _,hbv.size⟩
        · have hqq:(if (0:Int)≠0 then Except.error (4,x.at_) else if mc<=q then Except.error (3,x.at_) else Except.ok ml:Except Er Int)=.ok ml:=by rw [if_neg (by decide),if_neg hq]
          show Calls _ _ _ _ (LabR w (if (0:Int)≠0 then Except.error (4,x.at_) else if mc<=q then Except.error (3,x.at_) else Except.ok ml))
          rw [hqq]
          clear hqq hrg
          go_enter Tryz.func48,Tryz.ntmps48
          go_wp2_with (first
           | (go_at_call 19;refine (PB _ hbw).mono ?_;rintro ed w3 ⟨rfl,hb4⟩;obtain ⟨y0,y1,y2,y3,y4,y5⟩:=six_cells (keep hb4 (keep hb3 (heap_alloc_new w1 _)));have hbv:=hbw.trans (hb4.mono hbw.size))
           | (go_at_call 21;refine (PL _ hby).mono ?_;rintro ed w2 ⟨hb3,rfl⟩;have hbw:=hby.trans (hb3.mono hby.size);obtain ⟨y0,y1,y2,y3,y4,y5⟩:=six_cells (keep hb3 (heap_alloc_new w1 _)))
           | (go_at_call 45;refine (PF _).mono ?_;rintro ed w1 ⟨rfl,hb2⟩;have hbx:=(hb1 (w:=w) (.cells #[.int .i64 e.kind,.int .i64 e.op,.string e.name,.int .u64 e.value,.slice (some ⟨g,off,none⟩) 1 kc,.int .i64 e.at_] 50)).trans (hb2.mono (by rw [alloc_size];omega));obtain ⟨p0,p1,p2,p3,p4,p5⟩:=six_cells (keep hb2 (heap_alloc_new w _));have z0:=(hbx.cell (p:=⟨g,off,none⟩) hg).trans h0;have z1:=(hbx.cell (p:=⟨g,off+1,none⟩) hg).trans i1;have z2:=(hbx.cell (p:=⟨g,off+2,none⟩) hg).trans i2;have z3:=(hbx.cell (p:=⟨g,off+3,none⟩) hg).trans i3;have z4:=(hbx.cell (p:=⟨g,off+4,none⟩) hg).trans i4;have z5:=(hbx.cell (p:=⟨g,off+5,none⟩) hg).trans i5;have hgw:g<w1.heap.size:=(by have:=hbx.size;omega);have hby:=hbx.alloc hbx.size (.cells #[.int .i64 x.kind,.int .i64 x.op,.string x.name,.int .u64 x.value,.slice kax x.kids.length kcx,.int .i64 x.at_] 50)))
          go_returns
          exact ⟨hbv,rfl⟩
      · show Calls _ _ _ _ (LabR w (if l≠0 then Except.error (4,x.at_) else if mc<=boundP st.f (n+1) x then Except.error (3,x.at_) else Except.ok ml))
        rw [if_pos hl0]
        clear PB
        go_enter Tryz.func48,Tryz.ntmps48
        go_wp2_with (first
          | (go_at_call 42;refine (Lx.wrap_any _ _ _).mono ?_;rintro ed w4 ⟨rfl,rfl⟩)
          | (go_at_call 21;refine (PL _ hby).mono ?_;rintro ed w2 ⟨hb3,rfl⟩;have hbw:=hby.trans (hb3.mono hby.size);obtain ⟨y0,y1,y2,y3,y4,y5⟩:=six_cells (keep hb3 (heap_alloc_new w1 _)))
          | (go_at_call 45;refine (PF _).mono ?_;rintro ed w1 ⟨rfl,hb2⟩;have hbx:=(hb1 (w:=w) (.cells #[.int .i64 e.kind,.int .i64 e.op,.string e.name,.int .u64 e.value,.slice (some ⟨g,off,none⟩) 1 kc,.int .i64 e.at_] 50)).trans (hb2.mono (by rw [alloc_size];omega));obtain ⟨p0,p1,p2,p3,p4,p5⟩:=six_cells (keep hb2 (heap_alloc_new w _));have z0:=(hbx.cell (p:=⟨g,off,none⟩) hg).trans h0;have z1:=(hbx.cell (p:=⟨g,off+1,none⟩) hg).trans i1;have z2:=(hbx.cell (p:=⟨g,off+2,none⟩) hg).trans i2;have z3:=(hbx.cell (p:=⟨g,off+3,none⟩) hg).trans i3;have z4:=(hbx.cell (p:=⟨g,off+4,none⟩) hg).trans i4;have z5:=(hbx.cell (p:=⟨g,off+5,none⟩) hg).trans i5;have hgw:g<w1.heap.size:=(by have:=hbx.size;omega);have hby:=hbx.alloc hbx.size (.cells #[.int .i64 x.kind,.int .i64 x.op,.string x.name,.int .u64 x.value,.slice kax x.kids.length kcx,.int .i64 x.at_] 50)))
        go_returns
        exact ⟨hbw.alloc hbw.size _,_,rfl,heap_alloc_new _ _,hbw.size⟩
theorem label_0 {f:ByteArray->Mng} {n:Nat} {e:Tree} (h:e.kind=0):labelP f (n+1) e=.ok 0:=by simp [labelP,h]
theorem label_1 {f:ByteArray->Mng} {n:Nat} {e:Tree} (h:e.kind=1):labelP f (n+1) e=nameP f e.name e.at_:=by simp [labelP,h]
theorem label_2 {f:ByteArray->Mng} {n:Nat} {e:Tree} (h:e.kind=2):labelP f (n+1) e=cellP f (labelP f n) (boundP f n) e.name e.kids e.at_:=by simp [labelP,h]
theorem label_e {f:ByteArray->Mng} {n:Nat} {e:Tree} (h0:¬ e.kind=0) (h1:¬ e.kind=1) (h2:¬ e.kind=2):labelP f (n+1) e=allP (labelP f n) 0 e.kids:=by simp [labelP,h0,h1,h2]
theorem label_succ {n:Nat} (ih:LabelC n):LabelC (n+1):=fun B bs k st v e w hS hf hE hn=>by
  obtain ⟨hv,kv,rfl,hK⟩:=hE
  have HK:=Lib.hid hK
  obtain ⟨ka,kc,rfl,hl,_⟩:=hK
  have hb1:∀ o,Below w.heap.size w (w.alloc o):=fun o=>(Below.refl _ _).alloc (Nat.le_refl _) o
  have PN:=fun o=>name_of (ka:=ka) (kc:=kc) (hS.below (hb1 o)) hn.1
  have PC:=fun o=>cell_of ih (hS.below (hb1 o)) hf hn (kids_later HK.out (hb1 o))
  have PA:=fun o=>all_of ih _ e.kids (hS.below (hb1 o)) hf (kids_later HK.out (hb1 o)) hn.2
  unfold eval6 at PN PC
  obtain ⟨K,hKd⟩:∃ K,e.kind=K:=⟨_,rfl⟩
  by_cases h0:K=0
  · subst h0
    rw [label_0 hKd,hKd]
    clear PN PC PA hS HK hKd hn hf
    go_enter Tryz.func21,Tryz.ntmps21
    go_wp2
    go_returns
    exact ⟨hb1 _,rfl⟩
  by_cases h1:K=1
  · subst h1
    rw [label_1 hKd,hKd]
    rw [hKd] at PN
    clear PC PA hS HK hKd hn hf
    cases hr:nameP st.f e.name e.at_ with
    | ok l=>
      rw [hr] at PN
      clear hr
      go_enter Tryz.func21,Tryz.ntmps21
      go_wp2_with (go_at_call 47;refine (PN _).mono ?_;rintro ed w1 ⟨hb2,rfl⟩)
      go_returns
      exact LabR.on (r:=.ok l) ⟨hb2,rfl⟩ (hb1 _)
    | error y=>
      rw [hr] at PN
      clear hr
      go_enter Tryz.func21,Tryz.ntmps21
      go_wp2_with (go_at_call 47;refine (PN _).mono ?_;rintro ed w1 ⟨hb2,fb,rfl,hfb,hz⟩)
      go_returns
      exact LabR.on (r:=.error y) ⟨hb2,fb,rfl,hfb,hz⟩ (hb1 _)
  by_cases h2:K=2
  · subst h2
    rw [label_2 hKd,hKd]
    rw [hKd] at PC
    clear PN PA hS HK hKd hn hf
    cases hr:cellP st.f (labelP st.f n) (boundP st.f n) e.name e.kids e.at_ with
    | ok l=>
      rw [hr] at PC
      clear hr
      go_enter Tryz.func21,Tryz.ntmps21
      go_wp2_with (go_at_call 48;refine (PC _).mono ?_;rintro ed w1 ⟨hb2,rfl⟩)
      go_returns
      exact LabR.on (r:=.ok l) ⟨hb2,rfl⟩ (hb1 _)
    | error y=>
      rw [hr] at PC
      clear hr
      go_enter Tryz.func21,Tryz.ntmps21
      go_wp2_with (go_at_call 48;refine (PC _).mono ?_;rintro ed w1 ⟨hb2,fb,rfl,hfb,hz⟩)
      go_returns
      exact LabR.on (r:=.error y) ⟨hb2,fb,rfl,hfb,hz⟩ (hb1 _)
  rw [label_e (by omega) (by omega) (by omega),hKd]
  clear PN PC hS HK hKd hn hf
  cases hr:allP (labelP st.f n) 0 e.kids with
  | ok l=>
    rw [hr] at PA
    clear hr
    go_enter Tryz.func21,Tryz.ntmps21
    go_wp2_with (go_at_call 49;refine (PA _).mono ?_;rintro ed w1 ⟨hb2,rfl⟩)
    go_returns
    exact LabR.on (r:=.ok l) ⟨hb2,rfl⟩ (hb1 _)
  | error y=>
    rw [hr] at PA
    clear hr
    go_enter Tryz.func21,Tryz.ntmps21
    go_wp2_with (go_at_call 49;refine (PA _).mono ?_;rintro ed w1 ⟨hb2,fb,rfl,hfb,hz⟩)
    go_returns
    exact LabR.on (r:=.error y) ⟨hb2,fb,rfl,hfb,hz⟩ (hb1 _)
theorem label_all:∀ n,LabelC n
  | 0=>fun _ _ _ _ _ _ _ _ _ h _=>h.elim
  | n+1=>label_succ (label_all n)
@[reducible] def sval (s:Stm) (ea:Option Addr) (ec:Nat) (ba:Option Addr) (bc:Nat) (la:Option Addr) (lc:Nat):Value:=.agg #[.int .i64 s.kind,.string s.name,.slice ea s.exprs.length ec,.int .i64 s.count,.slice ba s.body.length bc,.slice la s.els.length lc,.int .i64 s.at_]
@[reducible] def sobj (s:Stm) (ea:Option Addr) (ec:Nat) (ba:Option Addr) (bc:Nat) (la:Option Addr) (lc:Nat):Obj:=.cells #[.int .i64 s.kind,.string s.name,.slice ea s.exprs.length ec,.int .i64 s.count,.slice ba s.body.length bc,.slice la s.els.length lc,.int .i64 s.at_] 45
def Laid (w:World) (n a:Int) (ed:Ending) (w':World):Prop:=Below w.heap.size w w'/\∃ fb,ed=.returned (faultV fb)/\FaultAt w' n a fb/\w.heap.size<=fb
theorem Laid.on {w w1:World} {n a:Int} {ed:Ending} {w':World} (h:Laid w1 n a ed w') (hb:Below w.heap.size w w1):Laid w n a ed w':=by
  obtain ⟨h1,fb,h2,h3,h4⟩:=h
  exact ⟨hb.trans (h1.mono hb.size),fb,h2,h3,Nat.le_trans hb.size h4⟩
theorem leak_any (s:Stm) (ea:Option Addr) (ec:Nat) (ba:Option Addr) (bc:Nat) (la:Option Addr) (lc:Nat) (w:World):Calls Tryz.prog 108 #[sval s ea ec ba bc la lc] w (Laid w 4 s.at_):=by
  have hb1:∀ o,Below w.heap.size w (w.alloc o):=fun o=>(Below.refl _ _).alloc (Nat.le_refl _) o
  go_enter Tryz.func108,Tryz.ntmps108
  go_wp2_with (go_at_call 42;refine (Lx.wrap_any _ _ _).mono ?_;rintro ed w2 ⟨rfl,rfl⟩)
  go_ret
  have hb3:=hb1 (sobj s ea ec ba bc la lc)
  refine ⟨hb3.alloc hb3.size _,_,rfl,?_,?_⟩
  · show _=_
    rw [alloc_at,alloc_size,if_pos rfl]
  · exact Nat.le_succ _
theorem mistake_any (s:Stm) (ea:Option Addr) (ec:Nat) (ba:Option Addr) (bc:Nat) (la:Option Addr) (lc:Nat) (w:World):Calls Tryz.prog 131 #[sval s ea ec ba bc la lc] w (Laid w 3 s.at_):=by
  have hb1:∀ o,Below w.heap.size w (w.alloc o):=fun o=>(Below.refl _ _).alloc (Nat.le_refl _) o
  go_enter Tryz.func131,Tryz.ntmps131
  go_wp2_with (go_at_call 42;refine (Lx.wrap_any _ _ _).mono ?_;rintro ed w2 ⟨rfl,rfl⟩)
  go_ret
  have hb3:=hb1 (sobj s ea ec ba bc la lc)
  refine ⟨hb3.alloc hb3.size _,_,rfl,?_,?_⟩
  · show _=_
    rw [alloc_at,alloc_size,if_pos rfl]
  · exact Nat.le_succ _
theorem into_yes (s:Stm) (ea:Option Addr) (ec:Nat) (ba:Option Addr) (bc:Nat) (la:Option Addr) (lc:Nat) (l to:Int) (h:l=0\/to≠0) (w:World):Calls Tryz.prog 132 #[sval s ea ec ba bc la lc,.int .i64 l,.int .i64 to] w fun ed w'=>ed=.returned .nilIface/\Below w.heap.size w w':=by
  have H:=flows_yes l to h
  clear h
  go_enter Tryz.func132,Tryz.ntmps132
  go_wp2_with (go_at_call 124;refine (H _).mono ?_;rintro ed w2 ⟨rfl,rfl⟩)
  go_ret
  exact ⟨rfl,(Below.refl _ _).alloc (Nat.le_refl _) _⟩
theorem into_no (s:Stm) (ea:Option Addr) (ec:Nat) (ba:Option Addr) (bc:Nat) (la:Option Addr) (lc:Nat) (l:Int) (h:l≠0) (w:World):Calls Tryz.prog 132 #[sval s ea ec ba bc la lc,.int .i64 l,.int .i64 0] w (Laid w 4 s.at_):=by
  have hb1:∀ o,Below w.heap.size w (w.alloc o):=fun o=>(Below.refl _ _).alloc (Nat.le_refl _) o
  have H:=flows_no l h
  have HL:=fun w=>leak_any s ea ec ba bc la lc w
  unfold sval at HL
  clear h
  go_enter Tryz.func132,Tryz.ntmps132
  go_wp2_with (first | (go_at_call 108;refine (HL _).mono ?_;rintro ed w2 hLd;obtain ⟨_,fb,rfl,_,_⟩:=id hLd) | (go_at_call 124;refine (H _).mono ?_;rintro ed w2 ⟨rfl,rfl⟩))
  go_ret
  exact hLd.on (hb1 _)
theorem value_none {m:Nat} {f:ByteArray->Mng} {s:Stm} (h:s.exprs=[]):valueP m f s=.error (3,s.at_):=by simp [valueP,h]
theorem value_some {m:Nat} {f:ByteArray->Mng} {s:Stm} {e:Tree} (h:s.exprs[0]?=some e):valueP m f s=labelP f m e:=by
  unfold valueP
  match hx:s.exprs,h with
  | y :: ys,h=>simp at h;subst h;rfl
theorem value_any {m:Nat} {B bs k:Nat} {st:St} {s:Stm} {ea ba la:Option Addr} {ec bc lc:Nat} {w:World} (hS:ScAt (· < B) bs k st.f st.ls w) (hf:okF st.f) (hK:Kids 0 w.heap.size w (fun v' t'=>ERep 0 w.heap.size w m v' t') (.slice ea s.exprs.length ec) s.exprs) (hn:∀ e ∈ s.exprs,nmE m e):
    Calls Tryz.prog 130 #[.agg #[.pointer (some ⟨bs,0,none⟩)],sval s ea ec ba bc la lc] w (LabR w (valueP m st.f s)):=by
  have hb2:∀ o o',Below w.heap.size w ((w.alloc o).alloc o'):=fun o o'=>((Below.refl _ _).alloc (Nat.le_refl _) _).alloc (by rw [alloc_size];omega) _
  by_cases h0:s.exprs.length=0
  · have h00:s.exprs=[]:=List.length_eq_zero_iff.1 h0
    rw [value_none h00]
    have HM:=fun w=>mistake_any s ea ec ba bc la lc w
    unfold sval at HM ⊢
    rw [h0] at HM ⊢
    clear hS hf hK hn h0 h00
    go_enter Tryz.func130,Tryz.ntmps130
    go_wp2_with (go_at_call 131;refine (HM _).mono ?_;rintro ed w2 ⟨hbl,fb,rfl,hfb,hzf⟩)
    go_returns
    exact LabR.on (r:=.error (3,s.at_)) ⟨hbl,fb,rfl,hfb,hzf⟩ (hb2 _ _)
  · have hlen:0<s.exprs.length:=by omega
    have h0I:¬ (s.exprs.length:Int)=0:=by omega
    obtain ⟨y,hy⟩:∃ y,s.exprs[0]?=some y:=⟨s.exprs[0],by simp [hlen]⟩
    rw [value_some hy]
    have hyn:=hn y (List.mem_of_getElem? hy)
    obtain ⟨_,_,er,_,hKr⟩:=hK
    cases er
    obtain ⟨g,off,c0,c1,c2,c3,c4,c5,rfl,_,hg,_,i0,i1,i2,i3,i4,i5,hr⟩:=hKr 0 y hy
    simp only [Nat.zero_mul,Nat.add_zero] at i0 i1 i2 i3 i4 i5
    have hRp:=Lib.hid hr
    cases m with
    | zero=>exact hr.elim
    | succ m=>
    obtain ⟨_,kvy,hv,ky,cy,rfl,_,_⟩:=hr
    simp only [Value.agg.injEq,Array.mk.injEq,List.cons.injEq,and_true] at hv
    obtain ⟨rfl,rfl,rfl,rfl,rfl,rfl⟩:=hv
    have PL0:=fun w1 (hb:Below w.heap.size w w1)=>label_all (m+1) B bs k st _ y w1 (hS.below hb) hf (hRp.out.mono hb.size hb) hyn
    obtain ⟨R,hR⟩:∃ R,labelP st.f (m+1) y=R:=⟨_,rfl⟩
    rw [hR] at PL0 ⊢
    clear hS hf hKr hn hRp hyn hy hR
    unfold sval
    go_enter Tryz.func130,Tryz.ntmps130
    go_wp2
    obtain ⟨W,hW⟩:∃ W,W=(w.alloc (.cells #[.pointer (some ⟨bs,0,none⟩)] 106)).alloc (.cells #[.int .i64 s.kind,.string s.name,.slice (some ⟨g,off,none⟩) s.exprs.length ec,.int .i64 s.count,.slice ba s.body.length bc,.slice la s.els.length lc,.int .i64 s.at_] 45):=⟨_,rfl⟩
    have hA:W.heap[w.heap.size]?=some (.cells #[.pointer (some ⟨bs,0,none⟩)] 106 (0,0)):=by rw [hW];exact alloc_keep (heap_alloc_new _ _) _
    have hB2:W.heap[w.heap.size+1]?=some (.cells #[.int .i64 s.kind,.string s.name,.slice (some ⟨g,off,none⟩) s.exprs.length ec,.int .i64 s.count,.slice ba s.body.length bc,.slice la s.els.length lc,.int .i64 s.at_] 45 (0,0)):=by
     rw [hW,alloc_at,alloc_size,if_pos rfl]
    have hbW:Below w.heap.size w W:=by rw [hW];exact hb2 _ _
    rw [<- hW]
    clear hW
    have hgW:g<W.heap.size:=by have:=hbW.size;omega
    have ii:=fun {o:Nat} {u:Value} (h:w.cell? ⟨g,o,none⟩=some u)=>(hbW.cell (p:=⟨g,o,none⟩) hg).trans h
    replace i0:=ii i0
    replace i1:=ii i1
    replace i2:=ii i2
    replace i3:=ii i3
    replace i4:=ii i4
    replace i5:=ii i5
    have PL:=fun wr (hb:Below W.heap.size W wr)=>PL0 wr (hbW.trans (hb.mono hbW.size))
    clear PL0 ii
    cases R with
    | ok l=>
      refine wp_region_mono (by kernel_rfl) (by kernel_rfl) (by kernel_rfl) (by kernel_rfl) (by kernel_rfl) (fun (i:Nat) (v:Value) (wv:World)=>match i with | 0=>v=.pointer (some ⟨w.heap.size,0,none⟩) | 1=>v=.pointer (some ⟨bs,0,none⟩) | 2=>v=.pointer (some ⟨w.heap.size+1,2,none⟩) | 3=>v=.slice (some ⟨g,off,none⟩) s.exprs.length ec | 4=>v=.pointer (some ⟨g,off,none⟩) | 5=>v=.agg #[.int .i64 y.kind,.int .i64 y.op,.string y.name,.int .u64 y.value,.slice ky y.kids.length cy,.int .i64 y.at_] | 6=>v=.tuple #[.int .i64 l,.nilIface] | 7=>v=.int .i64 l | 8=>v=.nilIface | 9=>v=.int .i64 l | 10=>v=.nilIface | _=>True) ?_ [] (by kernel_rfl) ?_ ?_ ?_
      · intro i v w w' hb h
        match i with
        | 0=>exact h
        | 1=>exact h
        | 2=>exact h
        | 3=>exact h
        | 4=>exact h
        | 5=>exact h
        | 6=>exact h
        | 7=>exact h
        | 8=>exact h
        | 9=>exact h
        | 10=>exact h
        | _+11=>trivial
      · intro p hp v w h
        cases hp
      · intro a wr i op hop hb hF hP K hK
        have s2:a.tmps[2]?.getD undef=.pointer (some ⟨w.heap.size,0,none⟩):=(hF 2 (by kernel_rfl)).trans rfl
        have s3:a.tmps[3]?.getD undef=.pointer (some ⟨w.heap.size+1,0,none⟩):=(hF 3 (by kernel_rfl)).trans rfl
        have k0:=keep hb hA
        have k1:wr.cell? ⟨w.heap.size,0,none⟩=some (.pointer (some ⟨bs,0,none⟩)):=by rw [Lib.cell_of_heap k0];rfl
        obtain ⟨q0,q1,q2,q3,q4,q5,q6⟩:=stmt_cells (keep hb hB2)
        have a0:=(hb.cell (p:=⟨g,off,none⟩) hgW).trans i0
        have a1:=(hb.cell (p:=⟨g,off+1,none⟩) hgW).trans i1
        have a2:=(hb.cell (p:=⟨g,off+2,none⟩) hgW).trans i2
        have a3:=(hb.cell (p:=⟨g,off+3,none⟩) hgW).trans i3
        have a4:=(hb.cell (p:=⟨g,off+4,none⟩) hgW).trans i4
        have a5:=(hb.cell (p:=⟨g,off+5,none⟩) hgW).trans i5
        match i with
        | 0=>
          obtain rfl:=Option.some.inj hop
          go_simp
          exact hK _ _ (Below.refl _ _) fun _=>by first | rfl | exact wrap_val (by omega)
        | 1=>
          obtain rfl:=Option.some.inj hop
          have n0:a.tmps[12]?.getD undef=.pointer (some ⟨w.heap.size,0,none⟩):=hP 0 12 (by kernel_rfl) (by kernel_rfl)
          go_simp
          exact hK _ _ (Below.refl _ _) fun _=>by first | rfl | exact wrap_val (by omega)
        | 2=>
          obtain rfl:=Option.some.inj hop
          go_simp
          exact hK _ _ (Below.refl _ _) fun _=>by first | rfl | exact wrap_val (by omega)
        | 3=>
          obtain rfl:=Option.some.inj hop
          have n2:a.tmps[14]?.getD undef=.pointer (some ⟨w.heap.size+1,2,none⟩):=hP 2 14 (by kernel_rfl) (by kernel_rfl)
          go_simp
          exact hK _ _ (Below.refl _ _) fun _=>by first | rfl | exact wrap_val (by omega)
        | 4=>
          obtain rfl:=Option.some.inj hop
          have n3:a.tmps[15]?.getD undef=.slice (some ⟨g,off,none⟩) s.exprs.length ec:=hP 3 15 (by kernel_rfl) (by kernel_rfl)
          go_simp
          exact hK _ _ (Below.refl _ _) fun _=>by first | rfl | exact wrap_val (by omega)
        | 5=>
          obtain rfl:=Option.some.inj hop
          have n4:a.tmps[16]?.getD undef=.pointer (some ⟨g,off,none⟩):=hP 4 16 (by kernel_rfl) (by kernel_rfl)
          go_simp
          exact hK _ _ (Below.refl _ _) fun _=>by first | rfl | exact wrap_val (by omega)
        | 6=>
          obtain rfl:=Option.some.inj hop
          have n1:a.tmps[13]?.getD undef=.pointer (some ⟨bs,0,none⟩):=hP 1 13 (by kernel_rfl) (by kernel_rfl)
          have n5:a.tmps[17]?.getD undef=.agg #[.int .i64 y.kind,.int .i64 y.op,.string y.name,.int .u64 y.value,.slice ky y.kids.length cy,.int .i64 y.at_]:=hP 5 17 (by kernel_rfl) (by kernel_rfl)
          go_simp
          go_at_call 21
          refine (PL wr hb).mono ?_
          rintro ed w1 ⟨hb1,rfl⟩
          go_simp
          exact hK _ _ hb1 fun _=>rfl
        | 7=>
          obtain rfl:=Option.some.inj hop
          have n6:a.tmps[18]?.getD undef=.tuple #[.int .i64 l,.nilIface]:=hP 6 18 (by kernel_rfl) (by kernel_rfl)
          go_simp
          exact hK _ _ (Below.refl _ _) fun _=>by first | rfl | exact wrap_val (by omega)
        | 8=>
          obtain rfl:=Option.some.inj hop
          have n6:a.tmps[18]?.getD undef=.tuple #[.int .i64 l,.nilIface]:=hP 6 18 (by kernel_rfl) (by kernel_rfl)
          go_simp
          exact hK _ _ (Below.refl _ _) fun _=>by first | rfl | exact wrap_val (by omega)
        | 9=>
          obtain rfl:=Option.some.inj hop
          have n7:a.tmps[19]?.getD undef=.int .i64 l:=hP 7 19 (by kernel_rfl) (by kernel_rfl)
          go_simp
          exact hK _ _ (Below.refl _ _) fun _=>by first | rfl | exact wrap_val (by omega)
        | 10=>
          obtain rfl:=Option.some.inj hop
          have n8:a.tmps[20]?.getD undef=.nilIface:=hP 8 20 (by kernel_rfl) (by kernel_rfl)
          go_simp
          exact hK _ _ (Below.refl _ _) fun _=>by first | rfl | exact wrap_val (by omega)
        | _+11=>simp at hop
      · intro V wz hbz hR
        have e9:V 9=.int .i64 l:=hR 9 (by kernel_rfl)
        have e10:V 10=.nilIface:=hR 10 (by kernel_rfl)
        clear hR PL
        refine at_all (prs [12,13,14,15,16,17,18,19,20,4,5] V) (fun t=>by kernel_rfl) ?_
        simp only [prs,List.zipIdx,List.map,List.foldl,Nat.zero_add,Nat.reduceAdd,List.setIfInBounds_toArray,List.set_cons_zero,List.set_cons_succ,e9,e10]
        go_wp2
        go_returns
        exact ⟨hbW.trans (hbz.mono hbW.size),rfl⟩
    | error x=>
      refine wp_region_mono (by kernel_rfl) (by kernel_rfl) (by kernel_rfl) (by kernel_rfl) (by kernel_rfl) (fun (i:Nat) (v:Value) (wv:World)=>match i with | 0=>v=.pointer (some ⟨w.heap.size,0,none⟩) | 1=>v=.pointer (some ⟨bs,0,none⟩) | 2=>v=.pointer (some ⟨w.heap.size+1,2,none⟩) | 3=>v=.slice (some ⟨g,off,none⟩) s.exprs.length ec | 4=>v=.pointer (some ⟨g,off,none⟩) | 5=>v=.agg #[.int .i64 y.kind,.int .i64 y.op,.string y.name,.int .u64 y.value,.slice ky y.kids.length cy,.int .i64 y.at_] | 6=>∃ fb,v=.tuple #[.int .i64 0,faultV fb]/\FaultAt wv x.1 x.2 fb/\W.heap.size<=fb | 7=>v=.int .i64 0 | 8=>∃ fb,v=faultV fb/\FaultAt wv x.1 x.2 fb/\W.heap.size<=fb | 9=>v=.int .i64 0 | 10=>∃ fb,v=faultV fb/\FaultAt wv x.1 x.2 fb/\W.heap.size<=fb | _=>True) ?_ [] (by kernel_rfl) ?_ ?_ ?_
      · intro i v w w' hb h
        match i with
        | 0=>exact h
        | 1=>exact h
        | 2=>exact h
        | 3=>exact h
        | 4=>exact h
        | 5=>exact h
        | 6=>exact ⟨h.choose,h.choose_spec.1,h.choose_spec.2.1.on hb,h.choose_spec.2.2⟩
        | 7=>exact h
        | 8=>exact ⟨h.choose,h.choose_spec.1,h.choose_spec.2.1.on hb,h.choose_spec.2.2⟩
        | 9=>exact h
        | 10=>exact ⟨h.choose,h.choose_spec.1,h.choose_spec.2.1.on hb,h.choose_spec.2.2⟩
        | _+11=>trivial
      · intro p hp v w h
        cases hp
      · intro a wr i op hop hb hF hP K hK
        have s2:a.tmps[2]?.getD undef=.pointer (some ⟨w.heap.size,0,none⟩):=(hF 2 (by kernel_rfl)).trans rfl
        have s3:a.tmps[3]?.getD undef=.pointer (some ⟨w.heap.size+1,0,none⟩):=(hF 3 (by kernel_rfl)).trans rfl
        have k0:=keep hb hA
        have k1:wr.cell? ⟨w.heap.size,0,none⟩=some (.pointer (some ⟨bs,0,none⟩)):=by rw [Lib.cell_of_heap k0];rfl
        obtain ⟨q0,q1,q2,q3,q4,q5,q6⟩:=stmt_cells (keep hb hB2)
        have a0:=(hb.cell (p:=⟨g,off,none⟩) hgW).trans i0
        have a1:=(hb.cell (p:=⟨g,off+1,none⟩) hgW).trans i1
        have a2:=(hb.cell (p:=⟨g,off+2,none⟩) hgW).trans i2
        have a3:=(hb.cell (p:=⟨g,off+3,none⟩) hgW).trans i3
        have a4:=(hb.cell (p:=⟨g,off+4,none⟩) hgW).trans i4
        have a5:=(hb.cell (p:=⟨g,off+5,none⟩) hgW).trans i5
        match i with
        | 0=>
          obtain rfl:=Option.some.inj hop
          go_simp
          exact hK _ _ (Below.refl _ _) fun _=>by first | rfl | exact wrap_val (by omega)
        | 1=>
          obtain rfl:=Option.some.inj hop
          have n0:a.tmps[12]?.getD undef=.pointer (some ⟨w.heap.size,0,none⟩):=hP 0 12 (by kernel_rfl) (by kernel_rfl)
          go_simp
          exact hK _ _ (Below.refl _ _) fun _=>by first | rfl | exact wrap_val (by omega)
        | 2=>
          obtain rfl:=Option.some.inj hop
          go_simp
          exact hK _ _ (Below.refl _ _) fun _=>by first | rfl | exact wrap_val (by omega)
        | 3=>
          obtain rfl:=Option.some.inj hop
          have n2:a.tmps[14]?.getD undef=.pointer (some ⟨w.heap.size+1,2,none⟩):=hP 2 14 (by kernel_rfl) (by kernel_rfl)
          go_simp
          exact hK _ _ (Below.refl _ _) fun _=>by first | rfl | exact wrap_val (by omega)
        | 4=>
          obtain rfl:=Option.some.inj hop
          have n3:a.tmps[15]?.getD undef=.slice (some ⟨g,off,none⟩) s.exprs.length ec:=hP 3 15 (by kernel_rfl) (by kernel_rfl)
          go_simp
          exact hK _ _ (Below.refl _ _) fun _=>by first | rfl | exact wrap_val (by omega)
        | 5=>
          obtain rfl:=Option.some.inj hop
          have n4:a.tmps[16]?.getD undef=.pointer (some ⟨g,off,none⟩):=hP 4 16 (by kernel_rfl) (by kernel_rfl)
          go_simp
          exact hK _ _ (Below.refl _ _) fun _=>by first | rfl | exact wrap_val (by omega)
        | 6=>
          obtain rfl:=Option.some.inj hop
          have n1:a.tmps[13]?.getD undef=.pointer (some ⟨bs,0,none⟩):=hP 1 13 (by kernel_rfl) (by kernel_rfl)
          have n5:a.tmps[17]?.getD undef=.agg #[.int .i64 y.kind,.int .i64 y.op,.string y.name,.int .u64 y.value,.slice ky y.kids.length cy,.int .i64 y.at_]:=hP 5 17 (by kernel_rfl) (by kernel_rfl)
          go_simp
          go_at_call 21
          refine (PL wr hb).mono ?_
          rintro ed w1 ⟨hb1,fb,rfl,hfb,hzf⟩
          go_simp
          exact hK _ _ hb1 fun _=>⟨fb,rfl,hfb,Nat.le_trans hb.size hzf⟩
        | 7=>
          obtain rfl:=Option.some.inj hop
          obtain ⟨fb,n6,hfb,hzf⟩:∃ fb,a.tmps[18]?.getD undef=.tuple #[.int .i64 0,faultV fb]/\FaultAt wr x.1 x.2 fb/\W.heap.size<=fb:=(hP 6 18 (by kernel_rfl) (by kernel_rfl))
          go_simp
          exact hK _ _ (Below.refl _ _) fun _=>by first | rfl | exact wrap_val (by omega)
        | 8=>
          obtain rfl:=Option.some.inj hop
          obtain ⟨fb,n6,hfb,hzf⟩:∃ fb,a.tmps[18]?.getD undef=.tuple #[.int .i64 0,faultV fb]/\FaultAt wr x.1 x.2 fb/\W.heap.size<=fb:=(hP 6 18 (by kernel_rfl) (by kernel_rfl))
          go_simp
          exact hK _ _ (Below.refl _ _) fun _=>⟨fb,rfl,hfb,hzf⟩
        | 9=>
          obtain rfl:=Option.some.inj hop
          have n7:a.tmps[19]?.getD undef=.int .i64 0:=hP 7 19 (by kernel_rfl) (by kernel_rfl)
          go_simp
          exact hK _ _ (Below.refl _ _) fun _=>by first | rfl | exact wrap_val (by omega)
        | 10=>
          obtain rfl:=Option.some.inj hop
          obtain ⟨fb,n8,hfb,hzf⟩:∃ fb,a.tmps[20]?.getD undef=faultV fb/\FaultAt wr x.1 x.2 fb/\W.heap.size<=fb:=(hP 8 20 (by kernel_rfl) (by kernel_rfl))
          go_simp
          exact hK _ _ (Below.refl _ _) fun _=>⟨fb,rfl,hfb,hzf⟩
        | _+11=>simp at hop
      · intro V wz hbz hR
        have e9:V 9=.int .i64 0:=hR 9 (by kernel_rfl)
        obtain ⟨fb,e10,hfb,hzf⟩:∃ fb,V 10=faultV fb/\FaultAt wz x.1 x.2 fb/\W.heap.size<=fb:=hR 10 (by kernel_rfl)
        clear hR PL
        refine at_all (prs [12,13,14,15,16,17,18,19,20,4,5] V) (fun t=>by kernel_rfl) ?_
        simp only [prs,List.zipIdx,List.map,List.foldl,Nat.zero_add,Nat.reduceAdd,List.setIfInBounds_toArray,List.set_cons_zero,List.set_cons_succ,e9,e10]
        go_wp2
        go_returns
        exact ⟨hbW.trans (hbz.mono hbW.size),fb,rfl,hfb,Nat.le_trans hbW.size hzf⟩
end Go.Proofs.YtlepckjmdjjolaaGreatDoor.Fl
