/- Own texts laid together: RegInv, RegPos, RegMono. Conditions: as each theorem says. -/
import Derived.Orders
import Derived.WalkKit
import Derived.Below
set_option linter.unusedVariables false
set_option linter.unusedSimpArgs false
namespace Go.Proofs.YtlepckjmdjjolaaGreatDoor
open Go
def leftN:List Bool->Nat
 | []=>0
 | b :: r=>(if b then 0 else 1)+leftN r
theorem leftN_set:∀ (l:List Bool) (i:Nat),l[i]?=some false->leftN (l.set i true)+1=leftN l
 | [],i,h=>by simp at h
 | b :: r,0,h=>by simp at h;subst h;simp [leftN];omega
 | b :: r,i+1,h=>by
   have:=leftN_set r i (by simpa using h)
   simp only [List.set_cons_succ,leftN]
   omega
theorem leftN_mem:∀ (l:List Bool) (i:Nat),l[i]?=some false->1<=leftN l:=fun l i h=>by have:=leftN_set l i h;omega
theorem leftN_rep:∀ n,leftN (List.replicate n false)=n
 | 0=>rfl
 | n+1=>by simp only [List.replicate_succ,leftN,leftN_rep n];simp;omega
theorem getD_true {L:Array Bool} {j:Nat} (h:L.getD j true=false):L.toList[j]?=some false:=by
 rw [Array.getElem?_toList]
 cases hj:L[j]? with
 | none=>simp [Array.getD_eq_getD_getElem?,hj] at h
 | some b=>simp [Array.getD_eq_getD_getElem?,hj] at h;rw [h]
theorem wpAny_inv {P:Program} {ops:Array Oper} {Q:Exit->Act->World->Prop} {md:Region.Mode} (I:Array Bool->Act->World->Prop)
    (hstep:∀ L a w i,i ∈ Region.ready md ops L->I L a w->wpOp P ops Q i (I (L.setIfInBounds i true)) a w)
    (hend:∀ L a w,Region.ready md ops L=[]->I L a w->Q .normal a w):
    ∀ (n:Nat) (L:Array Bool) (a:Act) (w:World),leftN L.toList<=n->I L a w->wpAny P md ops Q n L a w
 | 0,L,a,w,hn,hI=>by
   have hr:Region.ready md ops L=[]:=by
    rw [List.eq_nil_iff_forall_not_mem]
    intro j hj
    have:=leftN_mem _ _ (getD_true (mem_ready.1 hj).1)
    omega
   exact ⟨hr,hend L a w hr hI⟩
 | n+1,L,a,w,hn,hI=>by
   refine ⟨fun hr=>hend L a w hr hI,fun i hi=>?_⟩
   refine wpOp_mono (fun a' w' h'=>wpAny_inv I hstep hend n _ a' w' ?_ h') (hstep L a w i hi hI)
   have h1:=getD_true (mem_ready.1 hi).1
   have:=leftN_set _ _ h1
   simp only [Array.toList_setIfInBounds]
   omega
def lexOK (ops:Array Oper):Bool:=(List.range ops.size).all fun i=>((ops[i]?).map fun o=>o.after.all fun e => !Region.binds .any e || decide (e.on<i)).getD true
theorem lexOK_at {ops:Array Oper} (h:lexOK ops=true) {i:Nat} {o:Oper} (ho:ops[i]?=some o) {e:Edge} (he:e ∈ o.after) (hb:Region.binds .any e=true):e.on<i:=by
 have hlt:i<ops.size:=(Array.getElem?_eq_some_iff.1 ho).1
 have:=List.all_eq_true.1 h i (List.mem_range.2 hlt)
 rw [ho] at this
 simp only [Option.map_some,Option.getD_some,Array.all_eq_true_iff_forall_mem] at this
 have:=this e he
 simpa [hb] using this
theorem wp_region_inv {P:Program} {ops:Array Oper} {Q:Exit->Act->World->Prop} {id:Nat} {a:Act} {w:World} (hm:P.follows .mixedOrders=true) (hl:lexOK ops=true) (I:(Nat->Bool)->Act->World->Prop)
    (h0:I (fun _=>false) a w.drew)
    (hstep:∀ (L:Nat->Bool) a w i o,ops[i]?=some o->L i=false->(∀ e ∈ o.after,Region.binds .any e=true->L e.on=true)->I L a w->wpOp P ops Q i (I (fun j=>if j=i then true else L j)) a w)
    (hend:∀ (L:Nat->Bool) a w,(∀ j,j<ops.size->L j=true)->I L a w->Q .normal a w):(Code.region id ops true).wp P Q a w:=by
 refine wp_region_any hm (wpAny_inv (fun L a w=>L.size=ops.size/\I (fun j=>L.getD j false) a w) ?_ ?_ ops.size _ a _ (by simp [leftN_rep]) ⟨by simp,?_⟩)
 · rintro L a w i hi ⟨hs,hI⟩
   obtain ⟨hi0,o,ho,hpre⟩:=mem_ready.1 hi
   have hlt:i<ops.size:=(Array.getElem?_eq_some_iff.1 ho).1
   have hi1:L.getD i false=false:=by
    rw [Array.getD_eq_getD_getElem?] at hi0 ⊢
    rw [Array.getElem?_eq_getElem (by omega)] at hi0 ⊢
    simpa using hi0
   refine wpOp_mono (fun a' w' h'=>⟨by simpa using hs,?_⟩) (hstep (fun j=>L.getD j false) a w i o ho hi1 hpre hI)
   have e:(fun j=>(L.setIfInBounds i true).getD j false)=fun j=>if j=i then true else L.getD j false:=by
    funext j
    by_cases hj:j=i
    · subst hj
      rw [if_pos rfl,Array.getD_eq_getD_getElem?,Array.getElem?_setIfInBounds_self_of_lt (by omega)]
      rfl
    · rw [if_neg hj,getD_set_ne _ (fun e=>hj e.symm)]
   rw [e]
   exact h'
 · rintro L a w hr ⟨hs,hI⟩
   refine hend (fun j=>L.getD j false) a w ?_ hI
   intro j
   induction j using Nat.strongRecOn with
   | ind j ih=>
     intro hj
     show L.getD j false=true
     cases hv:L.getD j false with
     | true=>rfl
     | false=>
       exfalso
       have ho:ops[j]?=some ops[j]:=by simp [hj]
       have hm':j ∈ Region.ready .any ops L:=by
         refine mem_ready.2 ⟨?_,ops[j],ho,fun e he hb=>ih e.on (lexOK_at hl ho he hb) (by have:=lexOK_at hl ho he hb;omega)⟩
         rw [Array.getD_eq_getD_getElem?] at hv ⊢
         rw [Array.getElem?_eq_getElem (by omega)] at hv ⊢
         simpa using hv
       rw [hr] at hm'
       cases hm'
 · have e:(fun j=>(Array.replicate ops.size false).getD j false)=fun _=>false:=by
    funext j
    rw [Array.getD_eq_getD_getElem?]
    by_cases hj:j<ops.size <;> simp [hj]
   rw [e]
   exact h0
def Slots (ops:Array Oper) (a0:Act) (L:Nat->Bool) (V:Nat->Value) (a:Act):Prop:=
 a.defers=a0.defers/\a.tmps.size=a0.tmps.size/\(∀ (i:Nat) (o:Oper) (s:Nat),ops[i]?=some o->o.dst=some s->L i=true->s<a0.tmps.size->a.tmps.getD s undef=V i)/\(∀ (s:Nat),(∀ (i:Nat) (o:Oper),ops[i]?=some o->o.dst≠some s)->a.tmps.getD s undef=a0.tmps.getD s undef)
def dstOK (ops:Array Oper):Bool:=(List.range ops.size).all fun i=>(List.range ops.size).all fun j=>i == j || ((ops[i]?).bind (·.dst)).isNone || ((ops[i]?).bind (·.dst)) != ((ops[j]?).bind (·.dst))
theorem dstOK_at {ops:Array Oper} (h:dstOK ops=true) {i j s:Nat} {o p:Oper} (ho:ops[i]?=some o) (hp:ops[j]?=some p) (hs:o.dst=some s) (ht:p.dst=some s):i=j:=by
 have hi:i<ops.size:=(Array.getElem?_eq_some_iff.1 ho).1
 have hj:j<ops.size:=(Array.getElem?_eq_some_iff.1 hp).1
 have:=List.all_eq_true.1 (List.all_eq_true.1 h i (List.mem_range.2 hi)) j (List.mem_range.2 hj)
 rw [ho,hp] at this
 simpa [hs,ht] using this
theorem slots_put {ops:Array Oper} {a0 a:Act} {L:Nat->Bool} {V V':Nat->Value} (hd:dstOK ops=true) (h:Slots ops a0 L V a) {i:Nat} {o:Oper} (ho:ops[i]?=some o) {v:Value} (hv:o.dst≠none->v=V' i) (hV:∀ j,j≠i->L j=true->V' j=V j):Slots ops a0 (fun j=>if j=i then true else L j) V' (a.put o.dst v):=by
 obtain ⟨h1,h2,h3,h4⟩:=h
 cases hs:o.dst with
 | none=>
   refine ⟨h1,h2,fun j p s hp hps hL hlt=>?_,h4⟩
   by_cases hji:j=i
   · subst hji;rw [ho] at hp;cases hp;rw [hs] at hps;cases hps
   · replace hL:L j=true:=by simpa [hji] using hL
     exact (h3 j p s hp hps hL hlt).trans (hV j hji hL).symm
 | some t=>
   refine ⟨h1,by simpa [Act.put] using h2,fun j p s hp hps hL hlt=>?_,fun s hn=>?_⟩
   · by_cases hji:j=i
     · subst hji
       rw [ho] at hp;cases hp
       rw [hs] at hps;cases hps
       show (a.tmps.setIfInBounds t v).getD t undef=_
       rw [Array.getD_eq_getD_getElem?,Array.getElem?_setIfInBounds_self_of_lt (by omega)]
       exact hv (by simp [hs])
     · replace hL:L j=true:=by simpa [hji] using hL
       have hne:t≠s:=fun e=>by subst e;exact hji (dstOK_at hd hp ho hps hs)
       show (a.tmps.setIfInBounds t v).getD s undef=_
       rw [Array.getD_eq_getD_getElem?,Array.getElem?_setIfInBounds_ne hne,<- Array.getD_eq_getD_getElem?]
       exact (h3 j p s hp hps hL hlt).trans (hV j hji hL).symm
   · have hne:t≠s:=fun e=>hn i o ho (by rw [hs,e])
     show (a.tmps.setIfInBounds t v).getD s undef=_
     rw [Array.getD_eq_getD_getElem?,Array.getElem?_setIfInBounds_ne hne,<- Array.getD_eq_getD_getElem?]
     exact h4 s hn
theorem Slots.old {ops:Array Oper} {a0 a:Act} {L:Nat->Bool} {V:Nat->Value} (h:Slots ops a0 L V a) (s:Nat) (hn:(ops.all fun o=>o.dst != some s)=true):a.tmps.getD s undef=a0.tmps.getD s undef:=by
 refine h.2.2.2 s fun i o ho e=>?_
 have:=(Array.all_eq_true_iff_forall_mem.1 hn) o (Array.mem_of_getElem? ho)
 simp [e] at this
theorem Slots.new {ops:Array Oper} {a0 a:Act} {L:Nat->Bool} {V:Nat->Value} (h:Slots ops a0 L V a) (i s:Nat) (hs:(ops[i]?).bind (·.dst)=some s) (hL:L i=true) (hlt:s<a0.tmps.size):a.tmps.getD s undef=V i:=by
 cases ho:ops[i]? with
 | none=>rw [ho] at hs;cases hs
 | some o=>rw [ho] at hs;exact h.2.2.1 i o s ho hs hL hlt
theorem Slots.old2 {ops:Array Oper} {a0 a:Act} {L:Nat->Bool} {V:Nat->Value} (h:Slots ops a0 L V a) (s:Nat) (hn:(ops.all fun o=>o.dst != some s)=true):a.tmps[s]?.getD undef=a0.tmps.getD s undef:=by
 rw [<- Array.getD_eq_getD_getElem?];exact h.old s hn
theorem Slots.new2 {ops:Array Oper} {a0 a:Act} {L:Nat->Bool} {V:Nat->Value} (h:Slots ops a0 L V a) (i s:Nat) (hs:(ops[i]?).bind (·.dst)=some s) (hL:L i=true) (hlt:s<a0.tmps.size):a.tmps[s]?.getD undef=V i:=by
 rw [<- Array.getD_eq_getD_getElem?];exact h.new i s hs hL hlt
def putDst (ops:Array Oper) (V:Nat->Value) (t:Array Value) (i:Nat):Array Value:=match (ops[i]?).bind (·.dst) with | some s=>t.setIfInBounds s (V i) | none=>t
def writeAll (ops:Array Oper) (V:Nat->Value) (t:Array Value):Array Value:=(List.range ops.size).foldl (putDst ops V) t
theorem writeAll_step {ops:Array Oper} (hd:dstOK ops=true) (V:Nat->Value) (t0:Array Value):∀ (l:List Nat) (t:Array Value),(∀ i ∈ l,i<ops.size)->t.size=t0.size ->
    (l.foldl (putDst ops V) t).size=t0.size /\
    ∀ s,s<t0.size->(l.foldl (putDst ops V) t)[s]?=if h:∃ i,i ∈ l/\(ops[i]?).bind (·.dst)=some s then some (V h.choose) else t[s]?
 | [],t,_,hs=>⟨hs,fun s _=>by simp⟩
 | i :: l,t,hl,hs=>by
   have hsz:(putDst ops V t i).size=t0.size:=by unfold putDst;split <;> simp [hs]
   have ih:=writeAll_step hd V t0 l _ (fun j hj=>hl j (List.mem_cons_of_mem _ hj)) hsz
   refine ⟨ih.1,fun s hlt=>?_⟩
   rw [List.foldl_cons,ih.2 s hlt]
   have uniq:∀ {x y:Nat},(ops[x]?).bind (·.dst)=some s->(ops[y]?).bind (·.dst)=some s->x=y:=fun {x y} hx hy=>by
     cases hx':ops[x]? with
     | none=>rw [hx'] at hx;cases hx
     | some o=>cases hy':ops[y]? with
       | none=>rw [hy'] at hy;cases hy
       | some p=>rw [hx'] at hx;rw [hy'] at hy;exact dstOK_at hd hx' hy' hx hy
   by_cases h1:∃ j,j ∈ l/\(ops[j]?).bind (·.dst)=some s
   · have h2:∃ j,j ∈ i :: l/\(ops[j]?).bind (·.dst)=some s:=⟨_,List.mem_cons_of_mem _ h1.choose_spec.1,h1.choose_spec.2⟩
     rw [dif_pos h1,dif_pos h2,uniq h1.choose_spec.2 h2.choose_spec.2]
   · rw [dif_neg h1]
     by_cases hi:(ops[i]?).bind (·.dst)=some s
     · have h2:∃ j,j ∈ i :: l/\(ops[j]?).bind (·.dst)=some s:=⟨i,List.mem_cons_self,hi⟩
       rw [dif_pos h2,uniq h2.choose_spec.2 hi,putDst,hi]
       exact Array.getElem?_setIfInBounds_self_of_lt (by omega)
     · have h2:¬ ∃ j,j ∈ i :: l/\(ops[j]?).bind (·.dst)=some s:=fun ⟨j,hj,hjs⟩=>by
         rcases List.mem_cons.1 hj with rfl | hj
         · exact hi hjs
         · exact h1 ⟨j,hj,hjs⟩
       rw [dif_neg h2,putDst]
       split
       · next u hu=>exact Array.getElem?_setIfInBounds_ne (fun e=>hi (by rw [hu,e]))
       · rfl
theorem Slots.all {ops:Array Oper} {a0 a:Act} {L:Nat->Bool} {V:Nat->Value} (hd:dstOK ops=true) (h:Slots ops a0 L V a) (hL:∀ j,j<ops.size->L j=true):a=⟨writeAll ops V a0.tmps,a0.defers⟩:=by
 obtain ⟨tm,df⟩:=a
 obtain ⟨h1,h2,h3,h4⟩:=h
 simp only at h1 h2 h3 h4
 subst h1
 congr 1
 have W:=writeAll_step hd V a0.tmps (List.range ops.size) a0.tmps (fun i hi=>List.mem_range.1 hi) rfl
 apply Array.ext_getElem?
 intro s
 by_cases hlt:s<a0.tmps.size
 · show _=(writeAll ops V a0.tmps)[s]?
   unfold writeAll
   rw [W.2 s hlt]
   by_cases hx:∃ i,i ∈ List.range ops.size/\(ops[i]?).bind (·.dst)=some s
   · rw [dif_pos hx]
     obtain ⟨hm,hb⟩:=hx.choose_spec
     generalize hx.choose=i at hm hb
     cases ho:ops[i]? with
     | none=>rw [ho] at hb;cases hb
     | some o=>
       rw [ho] at hb
       have:=h3 i o s ho hb (hL i (List.mem_range.1 hm)) hlt
       rw [<- this,Array.getD_eq_getD_getElem?,Array.getElem?_eq_getElem (by omega)]
       rfl
   · rw [dif_neg hx]
     have:=h4 s fun i o ho e=>hx ⟨i,List.mem_range.2 (Array.getElem?_eq_some_iff.1 ho).1,by rw [ho];exact e⟩
     rw [Array.getD_eq_getD_getElem?,Array.getD_eq_getD_getElem?,Array.getElem?_eq_getElem (by omega),Array.getElem?_eq_getElem hlt] at this
     rw [Array.getElem?_eq_getElem (by omega),Array.getElem?_eq_getElem hlt]
     exact congrArg some this
 · rw [Array.getElem?_eq_none (by omega),Array.getElem?_eq_none (by unfold writeAll;rw [W.1];omega)]
def Closed (ops:Array Oper) (L:Nat->Bool):Prop:=∀ (j:Nat) (p:Oper) (e:Edge),ops[j]?=some p->L j=true->e ∈ p.after->Region.binds .any e=true->L e.on=true
theorem Closed.at {ops:Array Oper} {L:Nat->Bool} (h:Closed ops L) (j k:Nat) (hw:((ops[j]?).map fun p=>p.after.any fun e=>Region.binds .any e && e.on == k).getD false=true) (hj:L j=true):L k=true:=by
 cases ho:ops[j]? with
 | none=>rw [ho] at hw;cases hw
 | some p=>
   rw [ho] at hw
   simp only [Option.map_some,Option.getD_some,Array.any_eq_true'] at hw
   obtain ⟨e,he,hb⟩:=hw
   simp only [Bool.and_eq_true,beq_iff_eq] at hb
   exact hb.2 ▸ h j p e ho hj he hb.1
theorem pre_at {o:Oper} {L:Nat->Bool} (h:∀ e ∈ o.after,Region.binds .any e=true->L e.on=true) (k:Nat) (hw:(o.after.any fun e=>Region.binds .any e && e.on == k)=true):L k=true:=by
 simp only [Array.any_eq_true'] at hw
 obtain ⟨e,he,hb⟩:=hw
 simp only [Bool.and_eq_true,beq_iff_eq] at hb
 exact hb.2 ▸ h e he hb.1
theorem wp_region_slots {P:Program} {ops:Array Oper} {Q:Exit->Act->World->Prop} {id:Nat} {a0:Act} {w:World} (hm:P.follows .mixedOrders=true) (hl:lexOK ops=true) (hd:dstOK ops=true) (hg:(ops.all fun o=>o.guard.isNone)=true)
    {G:Type} (V:G->Nat->Value) (Inv:(Nat->Bool)->G->World->Prop) (g0:G) (h0:Inv (fun _=>false) g0 w.drew)
    (hstep:∀ (L:Nat->Bool) (g:G) a w i o,ops[i]?=some o->L i=false->(∀ e ∈ o.after,Region.binds .any e=true->L e.on=true)->Closed ops L->Inv L g w->Slots ops a0 L (V g) a ->
     ∀ K:Act->World->Prop,(∀ v w',(∃ g',(o.dst≠none->v=V g' i)/\(∀ j,j≠i->L j=true->V g' j=V g j)/\Inv (fun j=>if j=i then true else L j) g' w')->K (a.put o.dst v) w')->o.wp P a w K Q)
    (hend:∀ (L:Nat->Bool) (g:G) w,(∀ j,j<ops.size->L j=true)->Inv L g w->Q .normal ⟨writeAll ops (V g) a0.tmps,a0.defers⟩ w):(Code.region id ops true).wp P Q a0 w:=by
 refine wp_region_inv hm hl (fun L a w=>Closed ops L/\∃ g,Inv L g w/\Slots ops a0 L (V g) a) ⟨fun _ _ _ _ h=>(by cases h),g0,h0,rfl,rfl,(fun _ _ _ _ _ h=>by cases h),fun _ _=>rfl⟩ ?_ ?_
 · rintro L a w i o ho hi hpre ⟨hC,g,hI,hS⟩
   have hgi:o.guard=none:=by
    have:=(Array.all_eq_true_iff_forall_mem.1 hg) o (Array.mem_of_getElem? ho)
    simpa using this
   unfold wpOp
   rw [ho]
   show if Region.wanted o (yielded ops a.tmps) then _ else _
   have hwant:Region.wanted o (yielded ops a.tmps)=true:=by simp [Region.wanted,hgi]
   rw [if_pos hwant]
   refine .inl (hstep L g a w i o ho hi hpre hC hI hS _ ?_)
   rintro v w' ⟨g',hv,hV,hI'⟩
   refine ⟨fun j p e hp hL he hb=>?_,g',hI',slots_put hd hS ho hv hV⟩
   by_cases hji:j=i
   · subst hji
     rw [ho] at hp;cases hp
     have:=hpre e he hb
     simp [this]
   · have hL':L j=true:=by simpa [hji] using hL
     have:=hC j p e hp hL' he hb
     simp [this]
 · rintro L a w hL ⟨_,g,hI,hS⟩
   rw [hS.all hd hL]
   exact hend L g w hL hI
end Go.Proofs.YtlepckjmdjjolaaGreatDoor
namespace Go.Proofs.YtlepckjmdjjolaaGreatDoor
open Go Go.RowKit
theorem wrap_val {a:Int} (h : -9223372036854775808<=a/\a<=9223372036854775807):Value.int .i64 (IntKind.i64.wrap a)=.int .i64 a:=by
 rw [IntKind.wrap_i64]
 congr 1
 omega
def guardsIn (ops:Array Oper):Bool:=(List.range ops.size).all fun i=>match (ops[i]?).bind (·.guard) with
 | none=>true
 | some (j,_)=>(ops[i]?).any fun o=>(o.after.any fun e=>Region.binds .any e && e.on == j) && ((ops[j]?).bind (·.dst)).isSome
def slotsIn (ops:Array Oper) (n:Nat):Bool:=ops.all fun o=>match o.dst with | none=>true | some s=>decide (s<n)
theorem guardsIn_at {ops:Array Oper} (h:guardsIn ops=true) {i:Nat} {o:Oper} (ho:ops[i]?=some o) {j:Nat} {b:Bool} (hg:o.guard=some (j,b)):(o.after.any fun e=>Region.binds .any e && e.on == j)=true/\∃ p s,ops[j]?=some p/\p.dst=some s:=by
 have hi:i<ops.size:=(Array.getElem?_eq_some_iff.1 ho).1
 have:=List.all_eq_true.1 h i (List.mem_range.2 hi)
 rw [ho] at this
 simp only [Option.bind_some,hg,Option.any_some,Bool.and_eq_true] at this
 refine ⟨this.1,?_⟩
 cases hp:ops[j]? with
 | none=>rw [hp] at this;simp at this
 | some p=>
   rw [hp] at this
   simp only [Option.bind_some] at this
   cases hs:p.dst with
   | none=>rw [hs] at this;simp at this
   | some s=>exact ⟨p,s,rfl,hs⟩
theorem slotsIn_at {ops:Array Oper} {n:Nat} (h:slotsIn ops n=true) {i:Nat} {o:Oper} (ho:ops[i]?=some o) {s:Nat} (hs:o.dst=some s):s<n:=by
 have:=(Array.all_eq_true_iff_forall_mem.1 h) o (Array.mem_of_getElem? ho)
 simpa [hs] using this
def Pre (ops:Array Oper) (R:Nat->Value->World->Prop) (o:Oper) (a:Act) (w:World):Prop:=
 ∀ (j s:Nat),(o.after.any fun e=>Region.binds .any e && e.on == j)=true->(ops[j]?).bind (·.dst)=some s->R j (a.tmps[s]?.getD undef) w
theorem wp_region_mono {P:Program} {ops:Array Oper} {Q:Exit->Act->World->Prop} {id:Nat} {a0:Act} {w0:World} (hm:P.follows .mixedOrders=true) (hl:lexOK ops=true) (hd:dstOK ops=true) (hgi:guardsIn ops=true) (hsl:slotsIn ops a0.tmps.size=true)
    (R:Nat->Value->World->Prop) (hmono:∀ i v w w',Below w.heap.size w w'->R i v w->R i v w')
    (gs:List (Nat × Bool)) (hgs:(ops.all fun o=>match o.guard with | none=>true | some p=>gs.contains p)=true) (hguard:∀ p ∈ gs,∀ (v:Value) (w:World),R p.1 v w->v=.bool p.2)
    (hstep:∀ (a:Act) (w:World) (i:Nat) (o:Oper),ops[i]?=some o->Below w0.heap.size w0 w->(∀ s,(ops.all fun o=>o.dst != some s)=true->a.tmps[s]?.getD undef=a0.tmps.getD s undef)->Pre ops R o a w ->
     ∀ K:Act->World->Prop,(∀ v w',Below w.heap.size w w'->(o.dst≠none->R i v w')->K (a.put o.dst v) w')->o.wp P a w K Q)
    (hend:∀ (V:Nat->Value) w,Below w0.heap.size w0 w->(∀ j,((ops[j]?).bind (·.dst)).isSome=true->R j (V j) w)->Q .normal ⟨writeAll ops V a0.tmps,a0.defers⟩ w):(Code.region id ops true).wp P Q a0 w0:=by
 have hdrew:Below w0.heap.size w0 w0.drew:=⟨rfl,rfl,rfl,Nat.le_refl _,fun _ _=>rfl⟩
 refine wp_region_inv hm hl (fun L a w=>Below w0.heap.size w0 w/\a.defers=a0.defers/\a.tmps.size=a0.tmps.size/\(∀ s,(∀ (i:Nat) (o:Oper),ops[i]?=some o->o.dst≠some s)->a.tmps.getD s undef=a0.tmps.getD s undef)/\∀ (i s:Nat),(ops[i]?).bind (·.dst)=some s->L i=true->R i (a.tmps[s]?.getD undef) w) ⟨hdrew,rfl,rfl,fun _ _=>rfl,fun _ _ _ h=>by cases h⟩ ?_ ?_
 · rintro L a w i o ho hi hpre ⟨hb,h1,h2,h3,h4⟩
   have hP:Pre ops R o a w:=fun j s hw hs=>h4 j s hs (pre_at hpre j hw)
   unfold wpOp
   rw [ho]
   show if Region.wanted o (yielded ops a.tmps) then _ else _
   have hwant:Region.wanted o (yielded ops a.tmps)=true:=by
    cases hg:o.guard with
    | none=>simp [Region.wanted,hg]
    | some jb=>
      obtain ⟨j,b⟩:=jb
      obtain ⟨hw,p,s,hp,hs⟩:=guardsIn_at hgi ho hg
      have hmem:(j,b) ∈ gs:=by
          have:=(Array.all_eq_true_iff_forall_mem.1 hgs) o (Array.mem_of_getElem? ho)
          simpa [hg] using this
      have hv:=hguard (j,b) hmem _ _ (hP j s hw (by rw [hp];exact hs))
      have hlt:s<a.tmps.size:=by rw [h2];exact slotsIn_at hsl hp hs
      have he:a.tmps[s]?=some (.bool b):=by
          rw [Array.getElem?_eq_getElem hlt] at hv ⊢
          simpa using hv
      simp [Region.wanted,hg,yielded,hp,hs,he]
   rw [if_pos hwant]
   refine .inl (hstep a w i o ho hb (fun s hn=>?_) hP _ ?_)
   · rw [<- Array.getD_eq_getD_getElem?]
     refine h3 s fun k p hk e=>?_
     have:=(Array.all_eq_true_iff_forall_mem.1 hn) p (Array.mem_of_getElem? hk)
     simp [e] at this
   · intro v w' hbw hR
     have hbw0:Below w0.heap.size w0 w':=hb.trans (hbw.mono hb.size)
     cases hs:o.dst with
     | none=>
       refine ⟨hbw0,h1,h2,h3,fun j s hj hL=>?_⟩
       by_cases hji:j=i
       · subst hji;rw [ho] at hj;simp [hs] at hj
       · exact hmono _ _ _ _ hbw (h4 j s hj (by simpa [hji] using hL))
     | some t=>
       have htl:t<a.tmps.size:=by rw [h2];exact slotsIn_at hsl ho hs
       refine ⟨hbw0,h1,by simpa [Act.put] using h2,fun s hn=>?_,fun j s hj hL=>?_⟩
       · have hne:t≠s:=fun e=>hn i o ho (by rw [hs,e])
         show (a.tmps.setIfInBounds t v).getD s undef=_
         rw [Array.getD_eq_getD_getElem?,Array.getElem?_setIfInBounds_ne hne,<- Array.getD_eq_getD_getElem?]
         exact h3 s hn
       · show R j ((a.tmps.setIfInBounds t v)[s]?.getD undef) w'
         by_cases hji:j=i
         · subst hji
           rw [ho] at hj
           obtain rfl:t=s:=by simpa [hs] using hj
           rw [Array.getElem?_setIfInBounds_self_of_lt htl]
           exact hR (by simp [hs])
         · have hne:t≠s:=fun e=>by
             subst e
             cases hp:ops[j]? with
             | none=>rw [hp] at hj;cases hj
             | some p=>rw [hp] at hj;exact hji (dstOK_at hd hp ho hj hs)
           rw [Array.getElem?_setIfInBounds_ne hne]
           exact hmono _ _ _ _ hbw (h4 j s hj (by simpa [hji] using hL))
 · rintro L a w hL ⟨hb,h1,h2,h3,h4⟩
   have hS:Slots ops a0 L (fun j=>a.tmps[((ops[j]?).bind (·.dst)).getD 0]?.getD undef) a:=by
    refine ⟨h1,h2,fun i o s ho hs hLi hlt=>?_,h3⟩
    simp only [ho,Option.bind_some,hs,Option.getD_some]
    rw [Array.getD_eq_getD_getElem?]
   rw [hS.all hd hL]
   refine hend _ w hb fun j hj=>?_
   cases hs:(ops[j]?).bind (·.dst) with
   | none=>rw [hs] at hj;cases hj
   | some s=>
     simp only [hs,Option.getD_some]
     have hjl:j<ops.size:=by
        rcases Nat.lt_or_ge j ops.size with h | h
        · exact h
        · rw [Array.getElem?_eq_none h] at hs;cases hs
     exact h4 j s hs (hL j hjl)
def prs (ss:List Nat) (V:Nat->Value):List (Nat × Value):=ss.zipIdx.map fun p=>(p.1,V p.2)
theorem at_all {ops:Array Oper} {V:Nat->Value} {t:Array Value} {Q:Exit->Act->World->Prop} {d:List Deferred} {w:World} (l:List (Nat × Value)) (e:∀ t,writeAll ops V t=l.foldl (fun t p=>t.setIfInBounds p.1 p.2) t) (h:Q .normal ⟨l.foldl (fun t p=>t.setIfInBounds p.1 p.2) t,d⟩ w):Q .normal ⟨writeAll ops V t,d⟩ w:=by
 rw [e];exact h
end Go.Proofs.YtlepckjmdjjolaaGreatDoor
