/- Own texts laid together: ScMng, ScRep, ScCalls, ScEnter, ScOf, ScOfAll, ScLeave, ScLeaveD. Conditions: as each theorem says. -/
import Derived.Test.YtlepckjmdjjolaaGreatDoorRows
import Derived.WalkKit
import Derived.ProofKit
import Derived.OpenShut
import Derived.RegionTactic
import Derived.Laws.Externs
import Derived.Maps.OwnSet
import Derived.Maps.AppendAt
import Derived.BigCall
import Derived.BigQuiet
import Derived.BigRegion
import Derived.BigGuard
import Derived.Lib.ConvBytes
import Derived.RegionCalls
import Derived.Handy
import Derived.Deep.RegionWith
import Derived.Lib.Hide
import Derived.Lib.Builder
import Derived.Test.YtlepckjmdjjolaaGreatDoorShelf
import Derived.Defers
set_option maxHeartbeats 4000000
set_option maxRecDepth 100000
set_option linter.unusedVariables false
set_option linter.unusedSimpArgs false
namespace Go.Proofs.YtlepckjmdjjolaaGreatDoor.Sc
structure Mng where
 kind:Int
 label:Int
 count:Int
 by_:ByteArray
def mnone:Mng:=⟨0,0,0,⟨#[]⟩⟩
def put (f:ByteArray->Mng) (s:ByteArray) (m:Mng):ByteArray->Mng:=fun t=>if t=s then m else f t
theorem put_same (f:ByteArray->Mng) (s:ByteArray) (m:Mng):put f s m s=m:=by simp [put]
theorem put_ne (f:ByteArray->Mng) (s t:ByteArray) (m:Mng) (h:t≠s):put f s m t=f t:=by simp [put,h]
def localM (l c:Int):Mng:=if 0<c then ⟨5,l,c,⟨#[]⟩⟩ else ⟨4,l,0,⟨#[]⟩⟩
structure Dc where
 lock:Bool
 label:Int
 name:ByteArray
 size:Int
 by_:ByteArray
 at_:Int
def declM (d:Dc):Mng:=if d.lock=true then ⟨1,0,0,⟨#[]⟩⟩ else if 0<d.size then ⟨3,d.label,d.size,d.by_⟩ else ⟨2,d.label,0,d.by_⟩
def bad (f:ByteArray->Mng) (d:Dc):Bool:=(f d.name).kind != 0 || (!d.by_.data.toList.isEmpty && (f d.by_).kind != 1)
def meansOf (f:ByteArray->Mng) (ds:List Dc):ByteArray->Mng:=ds.foldl (fun g d=>put g d.name (declM d)) f
def firstBad:(ByteArray->Mng)->List Dc->Option Dc
 | _,[]=>none
 | f,d :: ds=>if bad f d=true then some d else firstBad (put f d.name (declM d)) ds
def none0:ByteArray->Mng:=fun _=>mnone
theorem firstBad_append (f:ByteArray->Mng):∀ (a b:List Dc),firstBad f a=none->firstBad f (a++b)=firstBad (meansOf f a) b:=by
 intro a
 induction a generalizing f with
 | nil=>intro b _;rfl
 | cons d a ih=>
   intro b h
   simp only [firstBad] at h
   by_cases hb:bad f d=true
   · rw [if_pos hb] at h;cases h
   · rw [if_neg hb] at h
     simp only [List.cons_append,firstBad,if_neg hb]
     exact ih _ b h
theorem firstBad_at {f:ByteArray->Mng} {ds:List Dc} {k:Nat} {d:Dc} (h:firstBad f (ds.take k)=none) (hd:ds[k]?=some d) (hb:bad (meansOf f (ds.take k)) d=true):firstBad f ds=some d:=by
 have hs:ds=ds.take k++(d :: ds.drop (k+1)):=by
    have hlt:k<ds.length:=(List.getElem?_eq_some_iff.1 hd).1
    have e:ds[k]=d:=(List.getElem?_eq_some_iff.1 hd).2
    rw [<- e,<- List.drop_eq_getElem_cons hlt,List.take_append_drop]
 rw [hs,firstBad_append f _ _ h]
 simp only [firstBad,hb,if_true]
theorem firstBad_step {f:ByteArray->Mng} {ds:List Dc} {k:Nat} {d:Dc} (h:firstBad f (ds.take k)=none) (hd:ds[k]?=some d) (hb:bad (meansOf f (ds.take k)) d=false):firstBad f (ds.take (k+1))=none/\meansOf f (ds.take (k+1))=put (meansOf f (ds.take k)) d.name (declM d):=by
 have e:ds.take (k+1)=ds.take k++[d]:=by rw [List.take_add_one,hd];rfl
 rw [e]
 refine ⟨?_,by simp [meansOf]⟩
 rw [firstBad_append f _ _ h]
 simp [firstBad,hb]
def putAll (f:ByteArray->Mng) (ss:List ByteArray):ByteArray->Mng:=ss.foldl (fun g s=>put g s mnone) f
theorem putAll_snoc (f:ByteArray->Mng) (ss:List ByteArray) (s:ByteArray):putAll f (ss++[s])=put (putAll f ss) s mnone:=by simp [putAll]
end Go.Proofs.YtlepckjmdjjolaaGreatDoor.Sc
namespace Go.Proofs.YtlepckjmdjjolaaGreatDoor.Sc
open Go.ChangeShapes Go.WideShapes Go.RowKit Go.Maps
@[reducible] def mval (m:Mng):Value:=.agg #[.int .i64 m.kind,.int .i64 m.label,.int .i64 m.count,.string m.by_]
def mread:Value->Option (DataW Mng × List MemPlace)
  | .agg cs=>match cs.toList with | [.int .i64 k,.int .i64 l,.int .i64 c,.string s]=>some (.held ⟨k,l,c,s⟩,[]) | _=>none
  | _=>none
theorem mread_mk (m:Mng):mread (mval m)=some (.held m,[]):=rfl
theorem mread_inv {v:Value} {m:Mng} {ps:List MemPlace} (h:mread v=some (.held m,ps)):v=mval m:=by
  unfold mread at h
  split at h
  · rename_i cs
    split at h
    · rename_i k l c s e
      simp only [Option.some.injEq,Prod.mk.injEq,DataW.held.injEq] at h
      obtain ⟨rfl,_⟩:=h
      have:cs = #[.int .i64 k,.int .i64 l,.int .i64 c,.string s]:=by rw [<- Array.toList_inj,e]
      rw [this]
    · cases h
  · cases h
theorem law:Keyed Tryz.prog 9:=string_keyed Tryz.underlying9
theorem zeroM (w:World):(zeroValue 113).run Tryz.prog w=.ok (mval mnone) w:=by kernel_rfl
def klit (s:ByteArray):Lit:=.string s.data.toList
theorem klit_key (s:ByteArray) (h:s.size<=maxLen):keyOf Tryz.prog 9 (.string s)=some (klit s):=WideMaps.keyOf_string_mk Tryz.underlying9 h
theorem klit_is (s:ByteArray):WideAt.IsKeyLit (klit s):=by simp [klit,WideAt.IsKeyLit]
theorem klit_ne {s t:ByteArray} (h:s≠t):klit s≠klit t:=fun e=>h (by
  unfold klit at e
  have e1:s.data.toList=t.data.toList:=by injection e
  have e2:s.data=t.data:=by rw [<- Array.toList_inj];exact e1
  exact ByteArray.ext e2)
def Says (D:DataW Mng) (f:ByteArray->Mng):Prop:=∀ s,D.atKey (klit s) (.held mnone)=.held (f s)
theorem Says.put {D:DataW Mng} {f:ByteArray->Mng} (h:Says D f) (hD:IsMap D) (s:ByteArray) (m:Mng):Says (D.put (klit s) (.held m)) (put f s m):=fun t=>by
  by_cases e:t=s
  · subst e;rw [put_same];exact atKey_put_same hD (klit_is _) _ _
  · rw [put_ne _ _ _ _ e,atKey_put_other (klit_ne e)];exact h t
theorem Says.del {D:DataW Mng} {f:ByteArray->Mng} (h:Says D f) (s:ByteArray):Says (D.del (klit s)) (YtlepckjmdjjolaaGreatDoor.Sc.put f s mnone):=fun t=>by
  by_cases e:t=s
  · subst e;rw [put_same];exact atKey_del_same _
  · rw [put_ne _ _ _ _ e,atKey_del_other (klit_ne e)];exact h t
structure KeepX (X:Nat->Prop) (w w':World):Prop where
  os:w'.os=w.os
  tape:w'.tape=w.tape
  output:w'.output=w.output
  size:w.heap.size<=w'.heap.size
  block:∀ k,X k->k<w.heap.size->w'.heap[k]?=w.heap[k]?
theorem KeepX.refl (X:Nat->Prop) (w:World):KeepX X w w:=⟨rfl,rfl,rfl,Nat.le_refl _,fun _ _ _=>rfl⟩
theorem KeepX.trans {X:Nat->Prop} {a b c:World} (h:KeepX X a b) (k:KeepX X b c):KeepX X a c:=
  ⟨k.os.trans h.os,k.tape.trans h.tape,k.output.trans h.output,Nat.le_trans h.size k.size,fun i hi hl=>(k.block i hi (Nat.lt_of_lt_of_le hl h.size)).trans (h.block i hi hl)⟩
theorem KeepX.mono {X Y:Nat->Prop} {a b:World} (h:KeepX X a b) (hs:∀ k,k<a.heap.size->Y k->X k):KeepX Y a b:=⟨h.os,h.tape,h.output,h.size,fun k hk hl=>h.block k (hs k hl hk) hl⟩
theorem KeepX.of_below {X:Nat->Prop} {w w':World} (h:Below w.heap.size w w'):KeepX X w w':=⟨h.os,h.tape,h.output,h.size,fun k _ hl=>h.block k hl⟩
theorem KeepX.below {B:Nat} {w w':World} (h:KeepX (· < B) w w') (hB:B<=w.heap.size):Below B w w':=⟨h.os,h.tape,h.output,h.size,fun k hk=>h.block k hk (Nat.lt_of_lt_of_le hk hB)⟩
theorem KeepX.grown {X:Nat->Prop} {w w':World} {row:Option Nat} (h:w.grownBy w' row) (hx:∀ k,row=some k->¬ X k):KeepX X w w':=
  ⟨h.os,h.tape,h.output,h.size,fun k hk hl=>h.block k hl (fun e=>hx k e.symm hk)⟩
theorem KeepX.setCell {X:Nat->Prop} {w w':World} (h:KeepX X w w') {g o:Nat} (hg:¬ X g\/w.heap.size<=g) (v:Value):KeepX X w (w'.setCell ⟨g,o,none⟩ v):=
  ⟨h.os,h.tape,h.output,by rw [show (w'.setCell ⟨g,o,none⟩ v).heap.size=w'.heap.size by simp [World.setCell]];exact h.size,fun k hk hl=>(Below.heap_setCell _ _ _ _ (show k≠g from fun e=>by subst e;exact hg.elim (fun hg=>hg hk) (fun hg=>by omega))).trans (h.block k hk hl)⟩
def ScAt (X:Nat->Prop) (bs n:Nat) (f:ByteArray->Mng) (ls:List ByteArray) (w:World):Prop:=
  ¬ X bs/\∃ bm D lv,¬ X bm/\w.heap[bs]?=some (.cells #[.map (some bm),lv] 110 (0,0))/\w.ownsMap Tryz.prog 9 mread bm n D/\Says D f /\
    w.ownsRow 0 9 1 lv ls.length (ls.map Value.string)/\(∀ g,lv.ownBlock=some g->¬ X g)/\∀ s ∈ ls,s.size<=maxLen
theorem heap_lt {w:World} {k:Nat} {o:Obj} (h:w.heap[k]?=some o):k<w.heap.size:=(Array.getElem?_eq_some_iff.1 h).1
theorem own_keep {w w':World} {e:TypeId} {sz n:Nat} {v:Value} {xs:List Value} (h:w.ownsRow 0 e sz v n xs) (hb:∀ g,v.ownBlock=some g->w'.heap[g]?=w.heap[g]?):w'.ownsRow 0 e sz v n xs:=by
  refine ⟨h.1,?_⟩
  rcases h.2 with hn | ⟨g,cap,cur,rfl,h0,hgg,rest⟩
  · exact .inl hn
  · exact .inr ⟨g,cap,cur,rfl,h0,(hb g rfl).trans hgg,rest⟩
theorem own_lt {w:World} {e:TypeId} {sz n:Nat} {v:Value} {xs:List Value} (h:w.ownsRow 0 e sz v n xs) {g:Nat} (hg:v.ownBlock=some g):∃ cur,w.heap[g]?=some (.cells cur e (0,0)):=by
  rcases h.2 with ⟨rfl,_⟩ | ⟨g',cap,cur,rfl,h0,hgg,rest⟩
  · cases hg
  · cases hg;exact ⟨_,hgg⟩
theorem ScAt.below {X:Nat->Prop} {bs n:Nat} {f:ByteArray->Mng} {ls:List ByteArray} {w w':World} (h:ScAt X bs n f ls w) (hb:Below w.heap.size w w'):ScAt X bs n f ls w':=by
  obtain ⟨hX,bm,D,lv,hm,hs,ho,hS,hr,hg,hl⟩:=h
  refine ⟨hX,bm,D,lv,hm,(hb.block _ (heap_lt hs)).trans hs,ho.kept (row:=none) ⟨hb.os,hb.tape,hb.output,hb.size,fun k hk _=>hb.block k hk⟩ (by simp),hS,own_keep hr fun g e=>?_,hg,hl⟩
  obtain ⟨cur,hc⟩:=own_lt hr e
  exact hb.block _ (heap_lt hc)
theorem ScAt.more {X Y:Nat->Prop} {bs n:Nat} {f:ByteArray->Mng} {ls:List ByteArray} {w:World} (h:ScAt X bs n f ls w) (hs:∀ k,k<w.heap.size->Y k->X k):ScAt Y bs n f ls w:=by
  obtain ⟨hX,bm,D,lv,hm,hb,ho,hS,hr,hg,hl⟩:=h
  refine ⟨fun y=>hX (hs _ (heap_lt hb) y),bm,D,lv,fun y=>hm (hs _ ho.lt y),hb,ho,hS,hr,fun g e y=>hg g e (hs _ ?_ y),hl⟩
  obtain ⟨cur,hc⟩:=own_lt hr e
  exact heap_lt hc
theorem ScAt.lt {X:Nat->Prop} {bs n:Nat} {f:ByteArray->Mng} {ls:List ByteArray} {w:World} (h:ScAt X bs n f ls w):bs<w.heap.size:=by
  obtain ⟨hX,bm,D,lv,hm,hb,_⟩:=h
  exact heap_lt hb
theorem ScAt.drew {X:Nat->Prop} {bs n:Nat} {f:ByteArray->Mng} {ls:List ByteArray} {w:World} (h:ScAt X bs n f ls w):ScAt X bs n f ls w.drew:=h
theorem ScAt.mono {X:Nat->Prop} {bs n m:Nat} {f:ByteArray->Mng} {ls:List ByteArray} {w:World} (h:ScAt X bs n f ls w) (hn:n<=m):ScAt X bs m f ls w:=by
  obtain ⟨hX,bm,D,lv,hm,hb,ho,r⟩:=h
  exact ⟨hX,bm,D,lv,hm,hb,ho.mono hn,r⟩
theorem wpList_lookup_sc (w:World) {ops:Array Oper} {rest:List Oper} {o:Oper} {a:Act} {Q:Exit->Act->World->Prop}
    (hg:o.guard=none) (m x:Operand) (hop:o.op=Op.lookup 108 m x false) (b n:Nat) (D:DataW Mng) (f:ByteArray->Mng)
    (hm:a.eval m=.map (some b)) (hown:w.ownsMap Tryz.prog 9 mread b n D) (hS:Says D f) (s:ByteArray) (hx:a.eval x=.string s) (hs:s.size<=maxLen)
    (hK:wpList Tryz.prog ops Q rest (a.put o.dst (.agg #[.int .i64 (f s).kind,.int .i64 (f s).label,.int .i64 (f s).count,.string (f s).by_])) w):
    wpList Tryz.prog ops Q (o :: rest) a w:=by
  refine wpList_plain hg fun K' hK'=>?_
  obtain ⟨v,ps,hrun,hv⟩:=hown.lookup law Tryz.underlying108 (zeroM w) (mread_mk mnone) (klit_key s hs)
  rw [hS s] at hv
  obtain rfl:=mread_inv hv
  unfold Oper.wp
  simp [execOp,hop,hm,hx,hrun,Result.andThen]
  exact hK' _ _ hK
theorem look_run {w:World} {b n:Nat} {D:DataW Mng} {f:ByteArray->Mng} (hown:w.ownsMap Tryz.prog 9 mread b n D) (hS:Says D f) (s:ByteArray) (hs:s.size<=maxLen):
    (Instr.lookup 108 (.map (some b)) (.string s) false).run Tryz.prog w=.ok (.agg #[.int .i64 (f s).kind,.int .i64 (f s).label,.int .i64 (f s).count,.string (f s).by_]) w:=by
  obtain ⟨v,ps,hrun,hv⟩:=hown.lookup law Tryz.underlying108 (zeroM w) (mread_mk mnone) (klit_key s hs)
  rw [hS s] at hv
  obtain rfl:=mread_inv hv
  exact hrun
theorem field_kind (k l c:Int) (s:ByteArray) (w:World):(Instr.field 113 (.agg #[.int .i64 k,.int .i64 l,.int .i64 c,.string s]) 0).run Tryz.prog w=.ok (.int .i64 k) w:=by kernel_rfl
theorem sc_cells {w:World} {bs:Nat} {x y:Value} (h:w.heap[bs]?=some (.cells #[x,y] 110 (0,0))):w.cell? ⟨bs,0,none⟩=some x/\w.cell? ⟨bs,1,none⟩=some y/\w.frozen? ⟨bs,0,none⟩=false/\w.frozen? ⟨bs,1,none⟩=false:=by
  refine ⟨by simp [World.cell?,h],by simp [World.cell?,h],?_,?_⟩ <;> simp [World.frozen?,h]
theorem below_drewq {B:Nat} {a w:World} (h:Below B a w) (q:Nat):Below B a (w.drewN q):=⟨h.os,h.tape,h.output,h.size,h.block⟩
theorem has_any {X:Nat->Prop} {bs n:Nat} {f:ByteArray->Mng} {ls:List ByteArray} {w:World} (h:ScAt X bs n f ls w) (s:ByteArray) (hs:s.size<=maxLen):
    Calls Tryz.prog 41 #[.pointer (some ⟨bs,0,none⟩),.string s] w fun e w'=>e=.returned (.bool ((f s).kind != 0))/\w'=w:=by
  obtain ⟨hX,bm,D,lv,hm,hb,ho,hS,hr,hg,hl⟩:=h
  obtain ⟨c0,c1,_,_⟩:=sc_cells hb
  have hlk:=look_run ho hS s hs
  have hfk:=field_kind
  clear hr hg hl hb ho
  go_enter Tryz.func41,Tryz.ntmps41
  go_wp2
  go_ret
  simp
theorem mark_any {X:Nat->Prop} {bs n:Nat} {f:ByteArray->Mng} {ls:List ByteArray} {w:World} (h:ScAt X bs n f ls w):
    Calls Tryz.prog 70 #[.pointer (some ⟨bs,0,none⟩)] w fun e w'=>e=.returned (.int .i64 ls.length)/\w'=w:=by
  obtain ⟨hX,bm,D,lv,hm,hb,ho,hS,hr,hg,hl⟩:=h
  obtain ⟨c0,c1,_,_⟩:=sc_cells hb
  obtain ⟨ao,cap,rfl⟩:∃ ao cap,lv=.slice ao ls.length cap:=by
    rcases hr.2 with ⟨rfl,h0⟩ | ⟨g,cap,cur,rfl,_⟩
    · exact ⟨none,0,by rw [h0]⟩
    · exact ⟨_,_,rfl⟩
  clear hr hg hl hb ho
  go_enter Tryz.func70,Tryz.ntmps70
  go_wp2
  go_ret
  simp
theorem find_any {X:Nat->Prop} {bs n:Nat} {f:ByteArray->Mng} {ls:List ByteArray} {w:World} (h:ScAt X bs n f ls w) (s:ByteArray) (hs:s.size<=maxLen):
    Calls Tryz.prog 45 #[.pointer (some ⟨bs,0,none⟩),.string s] w fun e w'=>e=.returned (.tuple #[.int .i64 (f s).kind,.int .i64 (f s).label,.int .i64 (f s).count,.string (f s).by_])/\Below w.heap.size w w':=by
  obtain ⟨hX,bm,D,lv,hm,hb,ho,hS,hr,hg,hl⟩:=h
  obtain ⟨c0,c1,_,_⟩:=sc_cells hb
  have hlk:=look_run ho hS s hs
  clear hr hg hl hb ho
  go_enter Tryz.func45,Tryz.ntmps45
  go_wp2_with fail
  go_quiet (fail)
  go_wp2
  go_returns
  refine ⟨rfl,?_⟩
  exact below_drewq ((Below.refl _ _).alloc (Nat.le_refl _) _) _
theorem local_any (l c:Int) (w:World):
    Calls Tryz.prog 44 #[.int .i64 l,.int .i64 c] w fun e w'=>e=.returned (mval (localM l c))/\Below w.heap.size w w':=by
  by_cases hc:0<c
  · have hd:decide (0<c)=true:=by simpa using hc
    go_enter Tryz.func44,Tryz.ntmps44
    go_wp2
    go_returns
    refine ⟨by unfold localM;first | rw [if_pos (by omega)] | rw [if_neg (by omega)],?_⟩
    exact (Below.refl _ _).alloc (Nat.le_refl _) _
  · have hd:decide (0<c)=false:=by simpa using hc
    go_enter Tryz.func44,Tryz.ntmps44
    go_wp2
    go_returns
    refine ⟨by unfold localM;first | rw [if_pos (by omega)] | rw [if_neg (by omega)],?_⟩
    exact (Below.refl _ _).alloc (Nat.le_refl _) _
theorem Tryz.infoS:(Tryz.prog.info? 9).map (fun i=>(i.zero,i.size,i.bytes))=some (some (.string ⟨#[]⟩),1,16):=by kernel_rfl
theorem alloc_at (w:World) (o:Obj) (k:Nat):(w.alloc o).heap[k]?=if k=w.heap.size then some o else w.heap[k]?:=by
  show (w.heap.push o)[k]?=_
  rw [Array.getElem?_push]
theorem alloc_size (w:World) (o:Obj):(w.alloc o).heap.size=w.heap.size+1:=by simp
theorem set_heap {w:World} {b:Nat} {cs:Array Value} {t:TypeId} {fr:Nat × Nat} (h:w.heap[b]?=some (.cells cs t fr)) (j:Nat) (u:Value):(w.setCell ⟨b,j,none⟩ u).heap[b]?=some (.cells (cs.setIfInBounds j u) t fr):=by
  simp [World.setCell,Array.getElem?_modify,h]
theorem owns_below {w w':World} {b n:Nat} {D:DataW Mng} (h:w.ownsMap Tryz.prog 9 mread b n D) (hb:Below w.heap.size w w'):w'.ownsMap Tryz.prog 9 mread b n D:=h.kept (row:=none) ⟨hb.os,hb.tape,hb.output,hb.size,fun k hk _=>hb.block k hk⟩ (by simp)
theorem undrew_below {w w1:World} (h:Below w.drew.heap.size w.drew w1):Below w.heap.size w w1:=⟨h.os,h.tape,h.output,h.size,h.block⟩
theorem map_not_nil (b:Nat) (w:World):(binOp BinOp.eql 108 (.map (some b)) (.map none)).run Tryz.prog w=.ok (.bool false) w:=by kernel_rfl
theorem own_pos {w:World} {e:TypeId} {sz n:Nat} {v:Value} {xs:List Value} (h:w.ownsRow 0 e sz v n xs) (hn:0<n):∃ g cap,v=.slice (some ⟨g,0,none⟩) n cap:=by
  rcases h.2 with ⟨rfl,h0⟩ | ⟨g,cap,cur,rfl,_⟩
  · omega
  · exact ⟨g,cap,rfl⟩
theorem enter_no {X:Nat->Prop} {bs n:Nat} {f:ByteArray->Mng} {ls:List ByteArray} {w:World} (h:ScAt X bs n f ls w) (s:ByteArray) (hs:s.size<=maxLen) (l c:Int) (hf:(f s).kind≠0):
    Calls Tryz.prog 18 #[.pointer (some ⟨bs,0,none⟩),.string s,.int .i64 l,.int .i64 c] w fun e w'=>e=.returned (.bool false)/\w'=w:=by
  have hc:=has_any h s hs
  have hd:((f s).kind != 0)=true:=by simpa using hf
  rw [hd] at hc
  clear h hd
  go_enter Tryz.func18,Tryz.ntmps18
  go_wp2_with (go_at_call 41;refine hc.mono ?_;rintro e w' ⟨rfl,rfl⟩)
  go_ret
  simp
theorem enter_yes {X:Nat->Prop} {bs n:Nat} {f:ByteArray->Mng} {ls:List ByteArray} {w:World} (h:ScAt X bs n f ls w) (hXn:∀ k,X k->k<w.heap.size) (hn:n<maxLen) (hlen:ls.length<1000000) (s:ByteArray) (hs:s.size<=maxLen) (l c:Int) (hf:(f s).kind=0):
    Calls Tryz.prog 18 #[.pointer (some ⟨bs,0,none⟩),.string s,.int .i64 l,.int .i64 c] w fun e w'=>e=.returned (.bool true)/\ScAt X bs (n+1) (put f s (localM l c)) (ls++[s]) w'/\KeepX X w w':=by
  have hc:=has_any h s hs
  have hd:((f s).kind != 0)=false:=by simpa using hf
  rw [hd] at hc
  have H:=Lib.hid h
  obtain ⟨hX,bm,D,lv,hm,hb,ho,hS,hr,hg,hl⟩:=h
  obtain ⟨c0,c1,z0,z1⟩:=sc_cells hb
  have hlt:=heap_lt hb
  have hmn:=map_not_nil
  have HB:=Lib.hid hb
  have HO:=Lib.hid ho
  have HR:=Lib.hid hr
  clear hd hb ho hr
  go_enter Tryz.func18,Tryz.ntmps18
  go_wp2_with (go_at_call 41;refine hc.mono ?_;rintro e w' ⟨rfl,rfl⟩)
  go_region_with (go_at_call 44;refine (local_any l c _).mono ?_;rintro e w1 ⟨rfl,hb1⟩;replace hb1:=undrew_below hb1;have d0:w1.cell? ⟨bs,0,none⟩=some (.map (some bm)):=(World.cell?_of_block (hb1.block bs hlt)).trans c0;obtain ⟨w2,hrun,ho2,hg2⟩:=(owns_below HO.out hb1).update law Tryz.underlying108 hn (klit_key s hs) (mread_mk (localM l c)))
  all_goals
    have hbm:bs≠bm:=fun e=>by
     obtain ⟨es,ck,hq,_⟩:=HO.out
     rw [<- e,HB.out] at hq;cases hq
    have k2:w2.heap[bs]?=some (.cells #[.map (some bm),lv] 110 (0,0)):=(hg2.block bs (Nat.lt_of_lt_of_le hlt hb1.size) (by simpa using hbm)).trans ((hb1.block bs hlt).trans HB.out)
    have hrow:∀ g,lv.ownBlock=some g->∃ cur,w2.heap[g]?=some (.cells cur 9 (0,0))/\w'.heap[g]?=some (.cells cur 9 (0,0)):=fun g e=>by
     obtain ⟨cur,hc⟩:=own_lt HR.out e
     refine ⟨cur,?_,hc⟩
     refine (hg2.block g (Nat.lt_of_lt_of_le (heap_lt hc) hb1.size) ?_).trans ((hb1.block g (heap_lt hc)).trans hc)
     intro e2
     obtain ⟨es,ck,hq,_⟩:=HO.out
     simp only [Option.some.injEq] at e2
     rw [<- e2,hc] at hq;cases hq
    have hr2:w2.ownsRow 0 9 1 lv ls.length (ls.map Value.string):=own_keep HR.out fun g e=>by
     obtain ⟨cur,h1,h2⟩:=hrow g e
     rw [h1,h2]
    obtain ⟨e0,e1,y0,y1⟩:=sc_cells k2
    obtain ⟨i0,hi,hz0,hz1,hz2⟩:=info_parts Tryz.infoS
    have hne:∀ g,lv.ownBlock=some g->g≠bs:=fun g e e2=>by
     obtain ⟨cur,h1,h2⟩:=hrow g e
     rw [e2,k2] at h1;cases h1
    have hlt2:=heap_lt k2
    have H2:=Lib.hid hr2
    have K2:=Lib.hid k2
    have O2:=Lib.hid ho2
    clear hr2 k2 ho2 hrun
    go_wp2_with (at_builtin;refine wpList_append_own_at _ rfl _ _ 83 rfl 0 9 i0 (.string ⟨#[]⟩) 1 16 Tryz.underlying83 hi hz0 hz1 hz2 rfl (by decide) _ _ _ rfl (H2.out.alloc _) ⟨w2.heap.size,0,none⟩ 1 1 [.string s] rfl rfl (cell_one_new _ _ _) (by simp [Value.oneCell']) (by unfold maxLen;omega) (by omega) (Nat.zero_le _) ?_;intro v3 w3 hown3 hgrow hnil hloc;obtain ⟨g3,cap3,rfl⟩:=own_pos hown3 (by omega);have k3:=(sc_cells ((hgrow.block bs (by simp;omega) (fun e=>hne bs e.symm rfl)).trans ((Lib.alloc_old w2 _ bs (heap_lt K2.out)).trans K2.out)));obtain ⟨q0,q1,q2,q3⟩:=k3)
    go_ret
    have hg3:w2.grownBy w3 lv.ownBlock:=(World.grownBy_alloc w2 _ _).trans hgrow
    have k3:w3.heap[bs]?=some (.cells #[.map (some bm),lv] 110 (0,0)):=(hg3.block bs hlt2 (fun e=>hne bs e.symm rfl)).trans K2.out
    have hv3:∀ g,(Value.slice (some ⟨g3,0,none⟩) (ls.length+1) cap3).ownBlock=some g->¬ X g:=fun g e hx=>by
     rcases hloc with h | h
     · exact hg g (h ▸ e) hx
     · rw [h] at e;simp only [Option.some.injEq,alloc_size] at e;have:=hXn g hx;have:=hg2.size;have:=hb1.size;omega
    have k4:=set_heap k3 1 (.slice (some ⟨g3,0,none⟩) (ls.length+1) cap3)
    have hsz:w'.heap.size<=w3.heap.size:=Nat.le_trans hb1.size (Nat.le_trans hg2.size hg3.size)
    have kx:KeepX X w' w3:=((KeepX.of_below hb1).trans (KeepX.grown hg2 (fun k e=>by cases e;exact hm))).trans (KeepX.grown hg3 hg)
    have hbm3:bm≠bs:=fun e=>hbm e.symm
    refine ⟨rfl,⟨hX,bm,_,_,hm,k4,?_,hS.put HO.out.isMap s (localM l c),?_,hv3,?_⟩,kx.setCell (.inl hX) _⟩
    · refine (O2.out.kept hg3 ?_).setCell hbm3 _
      intro e
      obtain ⟨cur,h1,h2⟩:=hrow bm e.symm
      obtain ⟨es,ck,hq,_⟩:=O2.out
      rw [hq] at h1;cases h1
    · have e1:(ls++[s]).length=ls.length+1:=by simp
      have e2:(ls++[s]).map Value.string=ls.map Value.string++[Value.string s]:=by simp
      rw [e1,e2]
      refine own_keep hown3 fun g e=>Below.heap_setCell _ _ _ _ ?_
      intro e3
      obtain ⟨cur,h1⟩:=own_lt hown3 e
      rw [e3,k3] at h1;cases h1
    · intro t ht
      rcases List.mem_append.1 ht with ht | ht
      · exact hl t ht
      · simp at ht;subst ht;exact hs
@[reducible] def dval (d:Dc):Value:=.agg #[.bool d.lock,.int .i64 d.label,.string d.name,.int .i64 d.size,.string d.by_,.int .i64 d.at_]
@[reducible] def dobj (d:Dc):Obj:=.cells #[.bool d.lock,.int .i64 d.label,.string d.name,.int .i64 d.size,.string d.by_,.int .i64 d.at_] 39
theorem ScAt.store {X:Nat->Prop} {bs n:Nat} {f:ByteArray->Mng} {ls:List ByteArray} {w:World} (h:ScAt X bs n f ls w) (hn:n<maxLen) (s:ByteArray) (hs:s.size<=maxLen) (m:Mng) (bm:Nat) (hc:w.cell? ⟨bs,0,none⟩=some (.map (some bm))):
    ∃ w2,(Instr.mapUpdate 108 (.map (some bm)) (.string s) (mval m)).run Tryz.prog w=.ok () w2/\ScAt X bs (n+1) (put f s m) ls w2/\KeepX X w w2:=by
  obtain ⟨hX,bm',D,lv,hm,hb,ho,hS,hr,hg,hl⟩:=h
  obtain ⟨c0,_,_,_⟩:=sc_cells hb
  rw [c0] at hc
  cases hc
  obtain ⟨w2,hrun,ho2,hg2⟩:=ho.update law Tryz.underlying108 hn (klit_key s hs) (mread_mk m)
  have hne:bs≠bm:=fun e=>by
    obtain ⟨es,ck,hq,_⟩:=ho
    rw [<- e,hb] at hq;cases hq
  refine ⟨w2,hrun,⟨hX,bm,_,lv,hm,(hg2.block bs (heap_lt hb) (by simpa using hne)).trans hb,ho2,hS.put ho.isMap s m,own_keep hr fun g e=>?_,hg,hl⟩,KeepX.grown hg2 (fun k e=>by cases e;exact hm)⟩
  obtain ⟨cur,hcu⟩:=own_lt hr e
  refine hg2.block g (heap_lt hcu) ?_
  intro e2
  obtain ⟨es,ck,hq,_⟩:=ho
  simp only [Option.some.injEq] at e2
  rw [<- e2,hcu] at hq;cases hq
def DsAt (w:World) (v:Value) (ds:List Dc):Prop:=
  ∃ ao cap,v=.slice ao ds.length cap/\ds.length<=70368744177664/\∀ i d,ds[i]?=some d->d.name.size<=maxLen/\d.by_.size<=maxLen/\∃ g off,ao=some ⟨g,off,none⟩/\g<w.heap.size /\
    w.cell? ⟨g,off+i*6,none⟩=some (.bool d.lock)/\w.cell? ⟨g,off+i*6+1,none⟩=some (.int .i64 d.label)/\w.cell? ⟨g,off+i*6+2,none⟩=some (.string d.name)/\w.cell? ⟨g,off+i*6+3,none⟩=some (.int .i64 d.size)/\w.cell? ⟨g,off+i*6+4,none⟩=some (.string d.by_)/\w.cell? ⟨g,off+i*6+5,none⟩=some (.int .i64 d.at_)
theorem DsAt.below {w w':World} {v:Value} {ds:List Dc} (h:DsAt w v ds) (hb:Below w.heap.size w w'):DsAt w' v ds:=by
  obtain ⟨ao,cap,hv,hl,hr⟩:=h
  refine ⟨ao,cap,hv,hl,fun i d hd=>?_⟩
  obtain ⟨n1,n2,g,off,e,hg,h0,h1,h2,h3,h4,h5⟩:=hr i d hd
  have key:∀ k u,w.cell? ⟨g,k,none⟩=some u->w'.cell? ⟨g,k,none⟩=some u:=fun k u hu=>(World.cell?_of_block (hb.block g hg)).trans hu
  exact ⟨n1,n2,g,off,e,Nat.lt_of_lt_of_le hg hb.size,key _ _ h0,key _ _ h1,key _ _ h2,key _ _ h3,key _ _ h4,key _ _ h5⟩
theorem DsAt.nil (w:World):DsAt w (.slice none 0 0) []:=⟨none,0,rfl,by simp,fun i d hd=>by simp at hd⟩
theorem declared_any (d:Dc) (w:World):
    Calls Tryz.prog 43 #[dval d] w fun e w'=>e=.returned (mval (declM d))/\Below w.heap.size w w':=by
  obtain ⟨lock,label,name,size,by_,at_⟩:=d
  cases lock with
  | true=>
    go_enter Tryz.func43,Tryz.ntmps43
    go_wp2
    go_returns
    refine ⟨rfl,?_⟩
    exact ((Below.refl _ _).alloc (Nat.le_refl _) _).alloc (by simp) _
  | false=>
    by_cases hs:0<size
    · have hd:decide (0<size)=true:=by simpa using hs
      go_enter Tryz.func43,Tryz.ntmps43
      go_wp2
      go_returns
      refine ⟨by simp [declM,hs],?_⟩
      exact ((Below.refl _ _).alloc (Nat.le_refl _) _).alloc (by simp) _
    · have hd:decide (0<size)=false:=by simpa using hs
      go_enter Tryz.func43,Tryz.ntmps43
      go_wp2
      go_returns
      refine ⟨by unfold declM;rw [if_neg (by simp),if_neg (show ¬ 0<size by omega)],?_⟩
      exact ((Below.refl _ _).alloc (Nat.le_refl _) _).alloc (by simp) _
theorem wrap_any (ev:Value) (p:Int) (w:World) (hev:∃ t x,ev=.iface t x):
    Calls Tryz.prog 42 #[ev,.int .i64 p] w fun e w'=>e=.returned (.iface 124 (.pointer (some ⟨w.heap.size,0,none⟩)))/\w'=w.alloc (.cells #[.int .i64 p,ev] 127):=by
  obtain ⟨t,x,rfl⟩:=hev
  go_enter Tryz.func42,Tryz.ntmps42
  go_wp2
  go_returns
  exact ⟨rfl,rfl⟩
def OfPost (ds:List Dc) (w:World) (e:Ending) (w':World):Prop:=
  Below w.heap.size w w'/\((firstBad none0 ds=none/\∃ bs,e=.returned (.tuple #[.pointer (some ⟨bs,0,none⟩),.nilIface])/\ScAt (· < w.heap.size) bs ds.length (meansOf none0 ds) [] w') \/
    ∃ d b,firstBad none0 ds=some d/\e=.returned (.tuple #[.pointer none,.iface 124 (.pointer (some ⟨b,0,none⟩))])/\w.heap.size<=b/\w'.heap[b]?=some (.cells #[.int .i64 d.at_,.iface 65 (.int .i64 3)] 127 (0,0)))
theorem says0:Says (.map []) none0:=fun s=>rfl
theorem sc_new (w:World):ScAt (· < w.heap.size) (w.heap.size+1) 0 none0 [] ((w.alloc (.map #[] 0)).alloc (.cells #[.map (some w.heap.size),.slice none 0 0] 110)):=by
  refine ⟨by omega,w.heap.size,.map [],.slice none 0 0,by omega,?_,(World.ownsMap_made w _ _ _).alloc _,says0,World.ownsRow_nil _ _ _ _,fun g e=>(by cases e),fun s hs=>(by cases hs)⟩
  rw [alloc_at,if_pos (by simp)]
theorem dobj_name (w:World) (d:Dc):(w.alloc (dobj d)).cell? ⟨w.heap.size,2,none⟩=some (.string d.name):=by
  rw [Lib.cell_of_heap (w:=w.alloc (dobj d)) (by rw [alloc_at,if_pos rfl])];rfl
theorem of_any (ds:List Dc) (v:Value) (w:World) (hds:DsAt w v ds) (hlen:ds.length<70368744177664):Calls Tryz.prog 17 #[v] w (OfPost ds w):=by
  obtain ⟨ao,cap,rfl,_,hr⟩:=hds
  have HR:=Lib.hid hr
  clear hr
  have hmm:=@run_makeMap Tryz.prog
  go_enter Tryz.func17,Tryz.ntmps17
  go_wp2
  go_loopw [12] (fun i wr=>∃ k:Nat,k<=ds.length/\i=.int .i64 k/\ScAt (· < w.heap.size) (w.heap.size+1) k (meansOf none0 (ds.take k)) [] wr/\Below w.heap.size w wr/\firstBad none0 (ds.take k)=none) (fun i _=>ds.length-(intOf i).toNat)
  case atStart=>exact ⟨0,Nat.zero_le _,rfl,sc_new w,((Below.refl _ _).alloc (Nat.le_refl _) _).alloc (by simp) _,rfl⟩
  case round=>
    obtain ⟨k,hk,rfl,hSr,hBr,hFr⟩:=hrel
    by_cases hlt:k<ds.length
    · obtain ⟨d,hd⟩:∃ d,ds[k]?=some d:=⟨ds[k],by simp [hlt]⟩
      obtain ⟨n1,n2,g,off,rfl,hg,p0,p1,p2,p3,p4,p5⟩:=HR.out k d hd
      have key:∀ j u,w.cell? ⟨g,j,none⟩=some u->wr.cell? ⟨g,j,none⟩=some u:=fun j u hu=>(World.cell?_of_block (hBr.block g hg)).trans hu
      replace p0:=key _ _ p0
      replace p1:=key _ _ p1
      replace p2:=key _ _ p2
      replace p3:=key _ _ p3
      replace p4:=key _ _ p4
      replace p5:=key _ _ p5
      clear key
      obtain ⟨f,hf⟩:∃ f,f=meansOf none0 (ds.take k):=⟨_,rfl⟩
      rw [<- hf] at hSr
      have hbelow:Below wr.heap.size wr (wr.alloc (dobj d)):=(Below.refl _ _).alloc (Nat.le_refl _) _
      have hS1:ScAt (· < w.heap.size) (w.heap.size+1) k f [] (wr.alloc (dobj d)):=hSr.below hbelow
      have hhas:∀ q,Calls Tryz.prog 41 #[.pointer (some ⟨w.heap.size+1,0,none⟩),.string d.name] ((wr.alloc (dobj d)).drewN q) fun e w'=>e=.returned (.bool ((f d.name).kind != 0))/\w'=(wr.alloc (dobj d)).drewN q:=fun q=>has_any (show ScAt (· < w.heap.size) (w.heap.size+1) k f [] ((wr.alloc (dobj d)).drewN q) from hS1) d.name n1
      have hfk:=field_kind
      have HS1:=Lib.hid hS1
      have HFr:=Lib.hid hFr
      have HF:=Lib.hid hf
      have Hd:=Lib.hid hd
      obtain ⟨_,bm,D,lv,hbm,hbs,hown,hSays,_⟩:=hS1
      have d0:=(sc_cells hbs).1
      have hlook:∀ q,(Instr.lookup 108 (.map (some bm)) (.string d.by_) false).run Tryz.prog ((wr.alloc (dobj d)).drewN q)=.ok (.agg #[.int .i64 (f d.by_).kind,.int .i64 (f d.by_).label,.int .i64 (f d.by_).count,.string (f d.by_).by_]) ((wr.alloc (dobj d)).drewN q):=fun q=>look_run (show ((wr.alloc (dobj d)).drewN q).ownsMap Tryz.prog 9 mread bm k D from hown) hSays d.by_ n2
      have HO:=Lib.hid hown
      have HB:=Lib.hid hbs
      have hltr:w.heap.size+1<wr.heap.size:=hSr.lt
      have hmaxk:k<maxLen:=by unfold maxLen;omega
      have hl1:w.heap.size+1<(wr.alloc (dobj d)).heap.size:=by rw [alloc_size];omega
      have hl2:wr.heap.size<(wr.alloc (dobj d)).heap.size:=by rw [alloc_size];omega
      clear hFr hf hd hown hbs hSr
      cases hA:((f d.name).kind != 0) with
      | true=>
        rw [hA] at hhas
        have hbad:bad f d=true:=by simp [bad,hA]
        go_wp2_with fail
        go_quiet ((go_at_call 41;exact Calls.quiet_of_same (hhas _)))
        go_wp2_with (go_at_call 42;refine (wrap_any _ _ _ ⟨_,_,rfl⟩).mono ?_;rintro e w1 ⟨rfl,rfl⟩)
        go_returns
        refine ⟨?_,.inr ⟨d,_,firstBad_at HFr.out Hd.out (by rw [<- HF.out];exact hbad),rfl,?_,?_⟩⟩
        · exact (below_drewq (hBr.alloc hBr.size _) _).alloc (by simp;have:=hBr.size;omega) _
        · have:=hBr.size;first | omega | (simp;omega)
        · rw [alloc_at,if_pos (by simp)]
      | false=>
        rw [hA] at hhas
        cases hE:d.by_.data.toList.isEmpty with
        | true=>
          have hE':d.by_.toList.isEmpty=true:=by rw [ByteArray.toList_eq];exact hE
          have hbad:bad f d=false:=by simp [bad,hA,hE]
          go_wp2_with fail
          go_quiet ((go_at_call 41;exact Calls.quiet_of_same (hhas _)))
          go_wp2_with fail
          go_region_with (go_at_call 43;refine (declared_any d _).mono ?_;rintro e w1 ⟨rfl,hb1⟩;have hb2:Below (wr.alloc (dobj d)).heap.size (wr.alloc (dobj d)) w1:=⟨hb1.os,hb1.tape,hb1.output,hb1.size,hb1.block⟩;have e0:w1.cell? ⟨w.heap.size+1,0,none⟩=some (.map (some bm)):=(World.cell?_of_block (hb2.block _ hl1)).trans d0;have e2:w1.cell? ⟨wr.heap.size,2,none⟩=some (.string d.name):=(World.cell?_of_block (hb2.block _ hl2)).trans (dobj_name wr d);obtain ⟨w2,hrun,hS2,hK2⟩:=(HS1.out.below hb2).store hmaxk d.name n1 (declM d) bm e0)
          all_goals
            go_wp2
            go_roundw
            case rel=>
             obtain ⟨st1,st2⟩:=firstBad_step HFr.out Hd.out (by rw [<- HF.out];exact hbad)
             refine ⟨k+1,by omega,by go_num,by rw [st2,<- HF.out];exact hS2,?_,st1⟩
             have hbr2:Below w.heap.size w (wr.alloc (dobj d)):=hBr.alloc hBr.size _
             exact (hbr2.trans (hb2.mono (by rw [alloc_size];have:=hBr.size;omega))).trans (hK2.below (by have:=hBr.size;have:=hb2.size;rw [alloc_size] at this;omega))
            case measure=>simp [intOf];omega
        | false=>
          have hE':d.by_.toList.isEmpty=false:=by rw [ByteArray.toList_eq];exact hE
          cases hC:((f d.by_).kind != 1) with
          | true=>
            have hbad:bad f d=true:=by simp [bad,hA,hE,hC]
            go_wp2_with fail
            go_quiet ((go_at_call 41;exact Calls.quiet_of_same (hhas _)))
            go_wp2_with (go_at_call 42;refine (wrap_any _ _ _ ⟨_,_,rfl⟩).mono ?_;rintro e w1 ⟨rfl,rfl⟩)
            go_returns
            refine ⟨?_,.inr ⟨d,_,firstBad_at HFr.out Hd.out (by rw [<- HF.out];exact hbad),rfl,?_,?_⟩⟩
            · exact (below_drewq (hBr.alloc hBr.size _) _).alloc (by simp;have:=hBr.size;omega) _
            · have:=hBr.size;first | omega | (simp;omega)
            · rw [alloc_at,if_pos (by simp)]
          | false=>
            have hbad:bad f d=false:=by simp [bad,hA,hE,hC]
            go_wp2_with fail
            go_quiet ((go_at_call 41;exact Calls.quiet_of_same (hhas _)))
            go_wp2_with fail
            go_region_with (go_at_call 43;refine (declared_any d _).mono ?_;rintro e w1 ⟨rfl,hb1⟩;have hb2:Below (wr.alloc (dobj d)).heap.size (wr.alloc (dobj d)) w1:=⟨hb1.os,hb1.tape,hb1.output,hb1.size,hb1.block⟩;have e0:w1.cell? ⟨w.heap.size+1,0,none⟩=some (.map (some bm)):=(World.cell?_of_block (hb2.block _ hl1)).trans d0;have e2:w1.cell? ⟨wr.heap.size,2,none⟩=some (.string d.name):=(World.cell?_of_block (hb2.block _ hl2)).trans (dobj_name wr d);obtain ⟨w2,hrun,hS2,hK2⟩:=(HS1.out.below hb2).store hmaxk d.name n1 (declM d) bm e0)
            all_goals
             go_wp2
             go_roundw
             case rel=>
               obtain ⟨st1,st2⟩:=firstBad_step HFr.out Hd.out (by rw [<- HF.out];exact hbad)
               refine ⟨k+1,by omega,by go_num,by rw [st2,<- HF.out];exact hS2,?_,st1⟩
               have hbr2:Below w.heap.size w (wr.alloc (dobj d)):=hBr.alloc hBr.size _
               exact (hbr2.trans (hb2.mono (by rw [alloc_size];have:=hBr.size;omega))).trans (hK2.below (by have:=hBr.size;have:=hb2.size;rw [alloc_size] at this;omega))
             case measure=>simp [intOf];omega
    · obtain rfl:k=ds.length:=by omega
      rw [List.take_length] at hSr hFr
      go_wp2
      go_returns
      exact ⟨hBr,.inl ⟨hFr,_,rfl,hSr⟩⟩
end Go.Proofs.YtlepckjmdjjolaaGreatDoor.Sc
namespace Go.Proofs.YtlepckjmdjjolaaGreatDoor.Sc
open Go.ChangeShapes Go.WideShapes Go.RowKit Go.Maps Go.Lib Go.Sort
def delAll (D:DataW Mng) (ss:List ByteArray):DataW Mng:=ss.foldl (fun E s=>E.del (klit s)) D
theorem Says.delAll {ss:List ByteArray} : ∀ {D:DataW Mng} {f:ByteArray->Mng},Says D f->Says (delAll D ss) (putAll f ss):=by
  induction ss with
  | nil=>exact fun h=>h
  | cons s ss ih=>exact fun h=>ih (h.del s)
theorem delAll_snoc (D:DataW Mng) (ss:List ByteArray) (s:ByteArray):delAll D (ss++[s])=(delAll D ss).del (klit s):=by simp [delAll]
theorem put_row {w:World} {g q:Nat} {cur:Array Value} {t:TypeId} {d:Array (List UInt8)} (h:w.heap[g]?=some (.cells cur t (0,0))):
    (putRow encStr (Sort.ahead w q) g 0 d).heap[g]?=some (.cells (putCells encStr 0 d cur) t (0,0))/\(∀ k,k≠g->(putRow encStr (Sort.ahead w q) g 0 d).heap[k]?=w.heap[k]?)/\(putRow encStr (Sort.ahead w q) g 0 d).heap.size=w.heap.size /\
    (putRow encStr (Sort.ahead w q) g 0 d).os=w.os/\(putRow encStr (Sort.ahead w q) g 0 d).tape=w.tape/\(putRow encStr (Sort.ahead w q) g 0 d).output=w.output:=by
  refine ⟨?_,fun k hk=>?_,?_,rfl,rfl,rfl⟩
  · show (w.heap.modify g _)[g]?=_
    rw [Array.getElem?_modify,if_pos rfl,h];rfl
  · show (w.heap.modify g _)[k]?=_
    rw [Array.getElem?_modify,if_neg (fun e=>hk e.symm)]
  · show (w.heap.modify g _).size=_
    simp
theorem put_cells_size (d:Array (List UInt8)) (cur:Array Value):(putCells encStr 0 d cur).size=cur.size:=by simp [putCells]
theorem put_cells_take (zs:List (List UInt8)) (m k:Nat) (cur:Array Value) (hm:m<=zs.length) (hc:m<=cur.size):(putCells encStr 0 (zs.take m++List.replicate k []).toArray cur).toList.take m=(zs.take m).map encStr:=by
  apply List.ext_getElem?
  intro i
  by_cases hi:i<m
  · rw [List.getElem?_take,if_pos hi]
    simp only [putCells,Array.getElem?_toList,Array.getElem?_mapIdx]
    rw [Array.getElem?_eq_getElem (show i<cur.size by omega)]
    simp only [Option.map_some,List.getElem?_map]
    have hz:(zs.take m)[i]?=some zs[i]:=by rw [List.getElem?_take,if_pos hi];simp
    rw [hz,Option.map_some,if_pos ⟨Nat.zero_le _,by simp;omega⟩]
    congr 2
    have:(zs.take m++List.replicate k [])[i]?=some zs[i]:=by rw [List.getElem?_append_left (by simp;omega)];exact hz
    simp [this]
  · rw [List.getElem?_take,if_neg hi,List.getElem?_map,List.getElem?_eq_none (by simp;omega)];rfl
theorem delete_tail {w:World} {g cap mark:Nat} {cur:Array Value} {ls:List ByteArray} (hgg:w.heap[g]?=some (.cells cur 9 (0,0))) (hcap:ls.length<=cap) (hcm:cap<=maxLen) (hcs:cur.size=cap*1) (hxs:cur.toList.take (ls.length*1)=ls.map Value.string) (hm:mark<ls.length):
    Calls Tryz.prog 102 #[.slice (some ⟨g,0,none⟩) ls.length cap,.int .i64 mark,.int .i64 ls.length] w fun e w'=>e=.returned (.slice (some ⟨g,0,none⟩) mark cap)/\w.grownBy w' (some g)/\w'.ownsRow 0 9 1 (.slice (some ⟨g,0,none⟩) mark cap) mark ((ls.take mark).map Value.string):=by
  have hcell:∀ i,i<ls.length->w.cell? ⟨g,i,none⟩=some (.string (ls.getD i ⟨#[]⟩)):=fun i hi=>by
    have e1:cur.toList[i]?=some (.string (ls.getD i ⟨#[]⟩)):=by
     have:(cur.toList.take (ls.length*1))[i]?=some (.string (ls.getD i ⟨#[]⟩)):=by
        rw [hxs,List.getElem?_map]
        simp [List.getD,hi]
     rwa [List.getElem?_take,if_pos (by omega)] at this
    rw [Lib.cell_of_heap hgg]
    simpa using e1
  have hH:Holds encStr w g 0 (ls.map (·.data.toList)).toArray:=fun j hj=>by
    have hj':j<ls.length:=by simpa using hj
    refine ⟨?_,?_⟩
    · rw [Nat.zero_add,hcell j hj']
      simp [List.getD,hj',encStr]
    · rw [Lib.frozen_of_heap hgg]
  have hdel:=Tryz.slices_Delete_string g 0 cap mark ls.length (ls.map (·.data.toList)) w hH (by simpa using hcap) (by unfold maxLen at hcm;omega) (by omega) (by simp)
  simp only [List.length_map] at hdel
  refine hdel.mono ?_
  rintro e w' ⟨rfl,q,rfl⟩
  have hd0:List.drop ls.length (List.map (fun x=>x.data.toList) ls)=[]:=by rw [List.drop_eq_nil_iff];simp
  rw [hd0,List.append_nil]
  obtain ⟨p1,p2,p3,p4,p5,p6⟩:=put_row (q:=q) (d:=(List.take mark (List.map (fun x:ByteArray=>x.data.toList) ls)++List.replicate (ls.length-mark) []).toArray) hgg
  refine ⟨by rw [show ls.length-(ls.length-mark)=mark by omega],⟨p4,p5,p6,by rw [p3];exact Nat.le_refl _,fun k _ hk=>p2 k (fun e=>hk (by rw [e]))⟩,?_,.inr ⟨g,cap,_,rfl,Nat.zero_le _,p1,by omega,hcm,by rw [put_cells_size];exact hcs,?_⟩⟩
  · simp [List.length_take];omega
  · rw [Nat.mul_one,put_cells_take _ _ _ _ (by simp;omega) (by omega),<- List.map_take,List.map_map]
    apply List.map_congr_left
    intro x _
    rfl
theorem leave_no {X:Nat->Prop} {bs n:Nat} {f:ByteArray->Mng} {ls:List ByteArray} {w:World} (h:ScAt X bs n f ls w) (mark:Int) (hm:mark<0\/(ls.length:Int)<=mark):
    Calls Tryz.prog 69 #[.pointer (some ⟨bs,0,none⟩),.int .i64 mark] w fun e w'=>e=.returned (.tuple #[])/\w'=w:=by
  obtain ⟨hX,bm,D,lv,hm',hb,ho,hS,hr,hg,hl⟩:=h
  obtain ⟨c0,c1,_,_⟩:=sc_cells hb
  obtain ⟨ao,cap,rfl⟩:∃ ao cap,lv=.slice ao ls.length cap:=by
    rcases hr.2 with ⟨rfl,h0⟩ | ⟨g,cap,cur,rfl,_⟩
    · exact ⟨none,0,by rw [h0]⟩
    · exact ⟨_,_,rfl⟩
  clear hr hg hl hb ho
  by_cases h0:mark<0
  · have hd:decide (mark<0)=true:=by simpa using h0
    clear hm
    go_enter Tryz.func69,Tryz.ntmps69
    go_wp2
    go_returns
    exact ⟨rfl,rfl⟩
  · have hd:decide (mark<0)=false:=by simpa using h0
    have hd2:decide ((ls.length:Int)<=mark)=true:=hm.elim (fun h=>absurd h h0) (fun h=>by simpa using h)
    clear hm
    go_enter Tryz.func69,Tryz.ntmps69
    go_wp2
    go_returns
    exact ⟨rfl,rfl⟩
theorem leave_yes {X:Nat->Prop} {bs n:Nat} {f:ByteArray->Mng} {ls:List ByteArray} {w:World} (h:ScAt X bs n f ls w) (hlen:ls.length<1000000) (mark:Nat) (hm:mark<ls.length):
    Calls Tryz.prog 69 #[.pointer (some ⟨bs,0,none⟩),.int .i64 mark] w fun e w'=>e=.returned (.tuple #[])/\ScAt X bs n (putAll f (ls.drop mark)) (ls.take mark) w'/\KeepX X w w':=by
  obtain ⟨hX,bm,D,lv,hmX,hb,ho,hS,hr,hg,hl⟩:=h
  obtain ⟨c0,c1,z0,z1⟩:=sc_cells hb
  obtain ⟨hr1,hr2⟩:=hr
  rcases hr2 with ⟨rfl,h0⟩ | ⟨g,cap,cur,rfl,_,hgg,hcap,hcm,hcs,hxs⟩
  · omega
  have hXg:¬ X g:=hg g rfl
  have hne:bs≠bm:=fun e=>by
    obtain ⟨es,ck,hq,_⟩:=ho
    rw [<- e,hb] at hq;cases hq
  have hgm:g≠bm:=fun e=>by
    obtain ⟨es,ck,hq,_⟩:=ho
    rw [<- e,hgg] at hq;cases hq
  have hgs:g≠bs:=fun e=>by rw [e,hb] at hgg;cases hgg
  have hd:decide ((mark:Int)<0)=false:=by simp
  have hd2:decide (ls.length<=mark)=false:=by simpa using hm
  have hcell:∀ i,i<ls.length->w.cell? ⟨g,i,none⟩=some (.string (ls.getD i ⟨#[]⟩)):=fun i hi=>by
    have e1:cur.toList[i]?=some (.string (ls.getD i ⟨#[]⟩)):=by
     have:(cur.toList.take (ls.length*1))[i]?=some (.string (ls.getD i ⟨#[]⟩)):=by
        rw [hxs,List.getElem?_map]
        simp [List.getD,hi]
     rwa [List.getElem?_take,if_pos (by omega)] at this
    rw [Lib.cell_of_heap hgg]
    simpa using e1
  have hic:mark<=cap:=by omega
  have hnc:¬ cap=mark:=by omega
  have hmaxc:(cap:Int)<=9223372036854775807:=by unfold maxLen at hcm;omega
  have HC:=Lib.hid hcell
  have HG:=Lib.hid hgg
  have HO:=Lib.hid ho
  have HB:=Lib.hid hb
  have hltb:=heap_lt hb
  have hltg:=heap_lt hgg
  have HX:=Lib.hid hxs
  clear hcell hgg ho hb hxs
  go_enter Tryz.func69,Tryz.ntmps69
  go_wp2
  have hdl:(ls.drop mark).length=ls.length-mark:=by simp
  go_loopw [24] (fun i wr=>∃ k:Nat,k<=ls.length-mark/\i=.int .i64 k/\wr.ownsMap Tryz.prog 9 mread bm n (delAll D ((ls.drop mark).take k))/\w.grownBy wr (some bm)) (fun i _=>ls.length-mark-(RowKit.intOf i).toNat)
  case atStart=>exact ⟨0,Nat.zero_le _,rfl,by simpa [delAll] using HO.out,⟨rfl,rfl,rfl,Nat.le_refl _,fun _ _ _=>rfl⟩⟩
  case round=>
    obtain ⟨k,hk,rfl,hor,hgr⟩:=hrel
    have hgb:wr.heap[bs]?=w.heap[bs]?:=hgr.block bs hltb (by simpa using hne)
    have hgg2:wr.heap[g]?=w.heap[g]?:=hgr.block g hltg (by simpa using hgm)
    have r0:wr.cell? ⟨bs,0,none⟩=some (.map (some bm)):=(World.cell?_of_block hgb).trans c0
    have r1:=(World.cell?_of_block hgb).trans c1
    by_cases hlt:k<ls.length-mark
    · have hcl:wr.cell? ⟨g,mark+k,none⟩=some (.string (ls.getD (mark+k) ⟨#[]⟩)):=(World.cell?_of_block hgg2).trans (HC.out (mark+k) (by omega))
      obtain ⟨s,hs⟩:∃ s,s=ls.getD (mark+k) ⟨#[]⟩:=⟨_,rfl⟩
      have hsl:s.size<=maxLen:=hl s (by rw [hs];simp [List.getD,show mark+k<ls.length by omega])
      have hstep:(ls.drop mark).take (k+1)=(ls.drop mark).take k++[s]:=by
        rw [List.take_add_one,List.getElem?_drop,hs]
        simp [List.getD,show mark+k<ls.length by omega]
      rw [<- hs] at hcl
      have HSt:=Lib.hid hstep
      have HS:=Lib.hid hs
      clear hs hstep
      go_wp2_with (at_delete;refine wpList_delete_own _ rfl _ _ 108 9 rfl 113 law Tryz.underlying108 mread bm n _ rfl hor _ _ rfl (klit_key s hsl) ?_;intro w1 hown1 hturn1)
      go_roundw
      case rel=>exact ⟨k+1,by omega,by go_num,by rw [HSt.out,delAll_snoc];exact hown1,hgr.trans hturn1.grown⟩
      case measure=>simp [RowKit.intOf];omega
    · obtain rfl:k=ls.length-mark:=by omega
      have hall:(ls.drop mark).take (ls.length-mark)=ls.drop mark:=by rw [<- hdl,List.take_length]
      rw [hall] at hor
      have hz1:wr.frozen? ⟨bs,1,none⟩=false:=(World.frozen?_of_block hgb).trans z1
      have hdel:=delete_tail (w:=wr.drew) (mark:=mark) (hgg2.trans HG.out) hcap hcm hcs HX.out hm
      have HGr:=Lib.hid (hgg2.trans HG.out)
      have HBr:=Lib.hid (hgb.trans HB.out)
      have HOr:=Lib.hid hor
      clear hor hgg2
      go_wp2_with fail
      go_region_with (go_at_call 102;refine hdel.mono ?_;rintro e w4 ⟨rfl,hg4,ho4⟩;have h4:w4.heap[bs]?=_:=(hg4.block bs (Nat.lt_of_lt_of_le hltb hgr.size) (by simpa using fun e=>hgs e.symm)).trans HBr.out;have hz4:=(sc_cells h4).2.2.2;have hc4:=(sc_cells h4).2.1;have H4:=Lib.hid h4;clear h4)
      all_goals
        go_wp2
        go_returns
        have hgm':bm≠g:=fun e=>hgm e.symm
        have k4:=set_heap H4.out 1 (.slice (some ⟨g,0,none⟩) mark cap)
        refine ⟨rfl,⟨hX,bm,_,_,hmX,k4,((HOr.out.drew).kept hg4 (by simpa using hgm')).setCell (fun e=>hne e.symm) _,hS.delAll,?_,fun k e=>by cases e;exact hXg,fun t ht=>hl t (List.mem_of_mem_take ht)⟩,?_⟩
        · have e1:(ls.take mark).length=mark:=by simp;omega
          rw [e1]
          exact own_keep ho4 fun k e=>by cases e;exact Below.heap_setCell _ _ _ _ hgs
        · refine KeepX.setCell ?_ (.inl hX) _
          have k1:KeepX X w wr:=KeepX.grown hgr (fun k e=>by cases e;exact hmX)
          have k2:KeepX X wr.drew w4:=KeepX.grown hg4 (fun k e=>by cases e;exact hXg)
          exact k1.trans ⟨k2.os,k2.tape,k2.output,k2.size,k2.block⟩
theorem leave_no_d (u:FrameMode) {X:Nat->Prop} {bs n:Nat} {f:ByteArray->Mng} {ls:List ByteArray} {w:World} (h:ScAt X bs n f ls w) (mark:Int) (hm:mark<0\/(ls.length:Int)<=mark):
    CallsD Tryz.prog 69 #[.pointer (some ⟨bs,0,none⟩),.int .i64 mark] u w fun e u' w'=>u'=u/\(e=.returned (.tuple #[])/\w'=w):=by
  obtain ⟨hX,bm,D,lv,hm',hb,ho,hS,hr,hg,hl⟩:=h
  obtain ⟨c0,c1,_,_⟩:=sc_cells hb
  obtain ⟨ao,cap,rfl⟩:∃ ao cap,lv=.slice ao ls.length cap:=by
    rcases hr.2 with ⟨rfl,h0⟩ | ⟨g,cap,cur,rfl,_⟩
    · exact ⟨none,0,by rw [h0]⟩
    · exact ⟨_,_,rfl⟩
  clear hr hg hl hb ho
  by_cases h0:mark<0
  · have hd:decide (mark<0)=true:=by simpa using h0
    clear hm
    go_enter_d Tryz.func69,Tryz.ntmps69
    go_wp2
    go_returns
    exact ⟨rfl,rfl⟩
  · have hd:decide (mark<0)=false:=by simpa using h0
    have hd2:decide ((ls.length:Int)<=mark)=true:=hm.elim (fun h=>absurd h h0) (fun h=>by simpa using h)
    clear hm
    go_enter_d Tryz.func69,Tryz.ntmps69
    go_wp2
    go_returns
    exact ⟨rfl,rfl⟩
theorem leave_yes_d (u:FrameMode) {X:Nat->Prop} {bs n:Nat} {f:ByteArray->Mng} {ls:List ByteArray} {w:World} (h:ScAt X bs n f ls w) (hlen:ls.length<1000000) (mark:Nat) (hm:mark<ls.length):
    CallsD Tryz.prog 69 #[.pointer (some ⟨bs,0,none⟩),.int .i64 mark] u w fun e u' w'=>u'=u/\(e=.returned (.tuple #[])/\ScAt X bs n (putAll f (ls.drop mark)) (ls.take mark) w'/\KeepX X w w'):=by
  obtain ⟨hX,bm,D,lv,hmX,hb,ho,hS,hr,hg,hl⟩:=h
  obtain ⟨c0,c1,z0,z1⟩:=sc_cells hb
  obtain ⟨hr1,hr2⟩:=hr
  rcases hr2 with ⟨rfl,h0⟩ | ⟨g,cap,cur,rfl,_,hgg,hcap,hcm,hcs,hxs⟩
  · omega
  have hXg:¬ X g:=hg g rfl
  have hne:bs≠bm:=fun e=>by
    obtain ⟨es,ck,hq,_⟩:=ho
    rw [<- e,hb] at hq;cases hq
  have hgm:g≠bm:=fun e=>by
    obtain ⟨es,ck,hq,_⟩:=ho
    rw [<- e,hgg] at hq;cases hq
  have hgs:g≠bs:=fun e=>by rw [e,hb] at hgg;cases hgg
  have hd:decide ((mark:Int)<0)=false:=by simp
  have hd2:decide (ls.length<=mark)=false:=by simpa using hm
  have hcell:∀ i,i<ls.length->w.cell? ⟨g,i,none⟩=some (.string (ls.getD i ⟨#[]⟩)):=fun i hi=>by
    have e1:cur.toList[i]?=some (.string (ls.getD i ⟨#[]⟩)):=by
     have:(cur.toList.take (ls.length*1))[i]?=some (.string (ls.getD i ⟨#[]⟩)):=by
        rw [hxs,List.getElem?_map]
        simp [List.getD,hi]
     rwa [List.getElem?_take,if_pos (by omega)] at this
    rw [Lib.cell_of_heap hgg]
    simpa using e1
  have hic:mark<=cap:=by omega
  have hnc:¬ cap=mark:=by omega
  have hmaxc:(cap:Int)<=9223372036854775807:=by unfold maxLen at hcm;omega
  have HC:=Lib.hid hcell
  have HG:=Lib.hid hgg
  have HO:=Lib.hid ho
  have HB:=Lib.hid hb
  have hltb:=heap_lt hb
  have hltg:=heap_lt hgg
  have HX:=Lib.hid hxs
  clear hcell hgg ho hb hxs
  go_enter_d Tryz.func69,Tryz.ntmps69
  go_wp2
  have hdl:(ls.drop mark).length=ls.length-mark:=by simp
  go_loopw [24] (fun i wr=>∃ k:Nat,k<=ls.length-mark/\i=.int .i64 k/\wr.ownsMap Tryz.prog 9 mread bm n (delAll D ((ls.drop mark).take k))/\w.grownBy wr (some bm)) (fun i _=>ls.length-mark-(RowKit.intOf i).toNat)
  case atStart=>exact ⟨0,Nat.zero_le _,rfl,by simpa [delAll] using HO.out,⟨rfl,rfl,rfl,Nat.le_refl _,fun _ _ _=>rfl⟩⟩
  case round=>
    obtain ⟨k,hk,rfl,hor,hgr⟩:=hrel
    have hgb:wr.heap[bs]?=w.heap[bs]?:=hgr.block bs hltb (by simpa using hne)
    have hgg2:wr.heap[g]?=w.heap[g]?:=hgr.block g hltg (by simpa using hgm)
    have r0:wr.cell? ⟨bs,0,none⟩=some (.map (some bm)):=(World.cell?_of_block hgb).trans c0
    have r1:=(World.cell?_of_block hgb).trans c1
    by_cases hlt:k<ls.length-mark
    · have hcl:wr.cell? ⟨g,mark+k,none⟩=some (.string (ls.getD (mark+k) ⟨#[]⟩)):=(World.cell?_of_block hgg2).trans (HC.out (mark+k) (by omega))
      obtain ⟨s,hs⟩:∃ s,s=ls.getD (mark+k) ⟨#[]⟩:=⟨_,rfl⟩
      have hsl:s.size<=maxLen:=hl s (by rw [hs];simp [List.getD,show mark+k<ls.length by omega])
      have hstep:(ls.drop mark).take (k+1)=(ls.drop mark).take k++[s]:=by
        rw [List.take_add_one,List.getElem?_drop,hs]
        simp [List.getD,show mark+k<ls.length by omega]
      rw [<- hs] at hcl
      have HSt:=Lib.hid hstep
      have HS:=Lib.hid hs
      clear hs hstep
      go_wp2_with (at_delete;refine wpList_delete_own _ rfl _ _ 108 9 rfl 113 law Tryz.underlying108 mread bm n _ rfl hor _ _ rfl (klit_key s hsl) ?_;intro w1 hown1 hturn1)
      go_roundw
      case rel=>exact ⟨k+1,by omega,by go_num,by rw [HSt.out,delAll_snoc];exact hown1,hgr.trans hturn1.grown⟩
      case measure=>simp [RowKit.intOf];omega
    · obtain rfl:k=ls.length-mark:=by omega
      have hall:(ls.drop mark).take (ls.length-mark)=ls.drop mark:=by rw [<- hdl,List.take_length]
      rw [hall] at hor
      have hz1:wr.frozen? ⟨bs,1,none⟩=false:=(World.frozen?_of_block hgb).trans z1
      have hdel:=delete_tail (w:=wr.drew) (mark:=mark) (hgg2.trans HG.out) hcap hcm hcs HX.out hm
      have HGr:=Lib.hid (hgg2.trans HG.out)
      have HBr:=Lib.hid (hgb.trans HB.out)
      have HOr:=Lib.hid hor
      clear hor hgg2
      go_wp2_with fail
      go_region_with (go_at_call 102;refine hdel.mono ?_;rintro e w4 ⟨rfl,hg4,ho4⟩;have h4:w4.heap[bs]?=_:=(hg4.block bs (Nat.lt_of_lt_of_le hltb hgr.size) (by simpa using fun e=>hgs e.symm)).trans HBr.out;have hz4:=(sc_cells h4).2.2.2;have hc4:=(sc_cells h4).2.1;have H4:=Lib.hid h4;clear h4)
      all_goals
        go_wp2
        go_returns
        have hgm':bm≠g:=fun e=>hgm e.symm
        have k4:=set_heap H4.out 1 (.slice (some ⟨g,0,none⟩) mark cap)
        refine ⟨rfl,⟨hX,bm,_,_,hmX,k4,((HOr.out.drew).kept hg4 (by simpa using hgm')).setCell (fun e=>hne e.symm) _,hS.delAll,?_,fun k e=>by cases e;exact hXg,fun t ht=>hl t (List.mem_of_mem_take ht)⟩,?_⟩
        · have e1:(ls.take mark).length=mark:=by simp;omega
          rw [e1]
          exact own_keep ho4 fun k e=>by cases e;exact Below.heap_setCell _ _ _ _ hgs
        · refine KeepX.setCell ?_ (.inl hX) _
          have k1:KeepX X w wr:=KeepX.grown hgr (fun k e=>by cases e;exact hmX)
          have k2:KeepX X wr.drew w4:=KeepX.grown hg4 (fun k e=>by cases e;exact hXg)
          exact k1.trans ⟨k2.os,k2.tape,k2.output,k2.size,k2.block⟩
end Go.Proofs.YtlepckjmdjjolaaGreatDoor.Sc
