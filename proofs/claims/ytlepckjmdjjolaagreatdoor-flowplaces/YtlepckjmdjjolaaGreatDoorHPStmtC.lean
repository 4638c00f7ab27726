/- What the reader's stmt does. Conditions: as in PRead. -/
import Derived.Test.YtlepckjmdjjolaaGreatDoorGPValueA
set_option maxHeartbeats 4000000
set_option maxRecDepth 100000
namespace Go.Proofs.YtlepckjmdjjolaaGreatDoor.Pr
open Go.ChangeShapes Go.WideShapes Go.ChangeAt Go.RowKit
open Lx (Tok)
set_option linter.unusedVariables false
set_option linter.unusedSimpArgs false
@[reducible] def zeroS:Obj:=.cells #[.int .i64 0,.string ⟨#[]⟩,.slice none 0 0,.int .i64 0,.slice none 0 0,.slice none 0 0,.int .i64 0] 45
theorem box7_free {w:World} {k:Nat} {x0 x1 x2 x3 x4 x5 x6:Value} (h:w.heap[k]?=some (.cells #[x0,x1,x2,x3,x4,x5,x6] 45 (0,0))):
 w.frozen? ⟨k,0,none⟩=false/\w.frozen? ⟨k,1,none⟩=false/\w.frozen? ⟨k,2,none⟩=false/\w.frozen? ⟨k,3,none⟩=false/\w.frozen? ⟨k,4,none⟩=false/\w.frozen? ⟨k,5,none⟩=false/\w.frozen? ⟨k,6,none⟩=false:=
  ⟨Lib.frozen_of_heap h 0,Lib.frozen_of_heap h 1,Lib.frozen_of_heap h 2,Lib.frozen_of_heap h 3,Lib.frozen_of_heap h 4,Lib.frozen_of_heap h 5,Lib.frozen_of_heap h 6⟩
@[reducible] def put7 (w:World) (r:Nat) (u0 u1 u2 u3 u4 u5 u6:Value):World:=(put6 w r u0 u1 u2 u3 u4 u5).setCell ⟨r,6,none⟩ u6
theorem put7_heap {w:World} {r:Nat} {x0 x1 x2 x3 x4 x5 x6:Value} (h:w.heap[r]?=some (.cells #[x0,x1,x2,x3,x4,x5,x6] 45 (0,0))) (u0 u1 u2 u3 u4 u5 u6:Value):
 (put7 w r u0 u1 u2 u3 u4 u5 u6).heap[r]?=some (.cells #[u0,u1,u2,u3,u4,u5,u6] 45 (0,0)):=by
  have h1:(w.setCell ⟨r,0,none⟩ u0).heap[r]?=some (.cells #[u0,x1,x2,x3,x4,x5,x6] 45 (0,0)):=set_heap h 0 u0
  have h2:((w.setCell ⟨r,0,none⟩ u0).setCell ⟨r,1,none⟩ u1).heap[r]?=some (.cells #[u0,u1,x2,x3,x4,x5,x6] 45 (0,0)):=set_heap h1 1 u1
  have h3:(((w.setCell ⟨r,0,none⟩ u0).setCell ⟨r,1,none⟩ u1).setCell ⟨r,2,none⟩ u2).heap[r]?=some (.cells #[u0,u1,u2,x3,x4,x5,x6] 45 (0,0)):=set_heap h2 2 u2
  have h4:((((w.setCell ⟨r,0,none⟩ u0).setCell ⟨r,1,none⟩ u1).setCell ⟨r,2,none⟩ u2).setCell ⟨r,3,none⟩ u3).heap[r]?=some (.cells #[u0,u1,u2,u3,x4,x5,x6] 45 (0,0)):=set_heap h3 3 u3
  have h5:(((((w.setCell ⟨r,0,none⟩ u0).setCell ⟨r,1,none⟩ u1).setCell ⟨r,2,none⟩ u2).setCell ⟨r,3,none⟩ u3).setCell ⟨r,4,none⟩ u4).heap[r]?=some (.cells #[u0,u1,u2,u3,u4,x5,x6] 45 (0,0)):=set_heap h4 4 u4
  have h6:((((((w.setCell ⟨r,0,none⟩ u0).setCell ⟨r,1,none⟩ u1).setCell ⟨r,2,none⟩ u2).setCell ⟨r,3,none⟩ u3).setCell ⟨r,4,none⟩ u4).setCell ⟨r,5,none⟩ u5).heap[r]?=some (.cells #[u0,u1,u2,u3,u4,u5,x6] 45 (0,0)):=set_heap h5 5 u5
  exact set_heap h6 6 u6
theorem put7_other (w:World) (r:Nat) (u0 u1 u2 u3 u4 u5 u6:Value) (k:Nat) (h:k≠r):(put7 w r u0 u1 u2 u3 u4 u5 u6).heap[k]?=w.heap[k]?:=by
  rw [put7,Below.heap_setCell _ ⟨r,6,none⟩ u6 k h,put6_other _ _ _ _ _ _ _ _ k h]
theorem put7_size (w:World) (r:Nat) (u0 u1 u2 u3 u4 u5 u6:Value):(put7 w r u0 u1 u2 u3 u4 u5 u6).heap.size=w.heap.size:=by simp [put7,put6,World.setCell]
theorem put7_grown (w:World) (r:Nat) (u0 u1 u2 u3 u4 u5 u6:Value):w.grownBy (put7 w r u0 u1 u2 u3 u4 u5 u6) (some r):=grownBy_trans (put6_grown _ _ _ _ _ _ _ _) (set_grown _ _ _ _)
theorem RdAt.put7 {B br:Nat} {r:Rd} {w:World} (h:RdAt B br r w) {k:Nat} {cs:Array Value} {fr:Nat × Nat} (hr:w.heap[k]?=some (.cells cs 45 fr)) (u0 u1 u2 u3 u4 u5 u6:Value):RdAt B br r (put7 w k u0 u1 u2 u3 u4 u5 u6):=h.step (put7_grown w k u0 u1 u2 u3 u4 u5 u6) hr notRdS
theorem grown_put7 {w w5:World} {br R:Nat} (hg:w.grownBy w5 (some br)) (hR:w.heap.size<=R) (u0 u1 u2 u3 u4 u5 u6:Value):w.grownBy (put7 w5 R u0 u1 u2 u3 u4 u5 u6) (some br):=grown_set (grown_put6 hg hR _ _ _ _ _ _) hR _ _
def Sde (B br n:Nat) (w:World) (sr:Stm × Rd) (e:Ending) (w':World):Prop:=
  ∃ v,e=.returned v/\SRep w.heap.size w'.heap.size w' bigM n v sr.1/\RdAt B br sr.2 w'/\w.grownBy w' (some br)
def RStC (f:Nat):Prop:=∀ (B br deep:Nat) (r:Rd) (w:World),RdAt B br r w->deep+f=41 ->
  Calls Tryz.prog 89 #[.pointer (some ⟨br,0,none⟩),.int .i64 (deep:Int)] w (Sde B br (f+1) w (stP f deep r))
theorem srep_zero {lo B n:Nat} {w:World} : SRep lo B w bigM (n+1) (.agg #[.int .i64 0,.string ⟨#[]⟩,.slice none 0 0,.int .i64 0,.slice none 0 0,.slice none 0 0,.int .i64 0]) stm0:=
  ⟨by simp [stm0],by simp [stm0],by simp [stm0,ByteArray.size],none,0,none,0,none,0,rfl,kids0,stms0,stms0⟩
@[reducible] def ssW (w:World) (T:Tok):World:=((w.alloc zeroS).alloc (tokO T)).alloc (tokO T)
theorem ss_start {B br:Nat} {r:Rd} {w:World} (h:RdAt B br r w):RdAt B br r (ssW w r.here)/\w.grownBy (ssW w r.here) (some br)/\(ssW w r.here).heap[w.heap.size]?=some zeroS/\(ssW w r.here).heap[w.heap.size+2]?=some (tokO r.here):=
  ⟨((h.alloc _).alloc _).alloc _,grown_alloc (grown_alloc (World.grownBy_alloc w _ _) _) _,by rw [alloc_at,if_neg (by simp;omega),alloc_at,if_neg (by simp),alloc_at,if_pos rfl],by rw [alloc_at,if_pos (by simp)]⟩
def SsAt (B br:Nat) (w:World) (T:Tok) (r':Rd) (w2:World):Prop:=
  RdAt B br r' w2/\w.grownBy w2 (some br)/\w2.heap[w.heap.size]?=some zeroS/\w2.heap[w.heap.size+2]?=some (tokO T)
theorem SsAt.on {B br:Nat} {w w2 w3:World} {T:Tok} {r r':Rd} (h:SsAt B br w T r w2) (h':RdAt B br r' w3) (hg:w2.grownBy w3 (some br)):SsAt B br w T r' w3:=
  ⟨h',grownBy_trans h.2.1 hg,h.1.heap hg h.2.2.1 (by decide),h.1.heap hg h.2.2.2 (by decide)⟩
theorem ss_next {B br:Nat} {w w1:World} {T:Tok} {r:Rd} (hW:RdAt B br r (ssW w T)) (hG:w.grownBy (ssW w T) (some br)) (hz:(ssW w T).heap[w.heap.size]?=some zeroS) (hf:(ssW w T).heap[w.heap.size+2]?=some (tokO T)) (hb:Below (ssW w T).heap.size (ssW w T) w1):SsAt B br w T r w1:=
  ⟨hW.below hb,grownBy_trans hG (grownBy_below hb),(hb.block _ (heap_lt hz)).trans hz,(hb.block _ (heap_lt hf)).trans hf⟩
theorem ss_box {B br:Nat} {r:Rd} {w2:World} {k a:Int} (h:RdAt B br r w2):StV B br w2 w2.heap.size ⟨k,⟨#[]⟩,[],0,[],[],a⟩ r (w2.alloc (.cells #[.int .i64 k,.string ⟨#[]⟩,.slice none 0 0,.int .i64 0,.slice none 0 0,.slice none 0 0,.int .i64 a] 45)):=
  ⟨h.alloc _,World.grownBy_alloc _ _ _,none,0,heap_alloc_new w2 _,ExRow.nil (by rw [alloc_size];omega)⟩
def fitS1 (s:Stm):Prop:=s.name.size<=65536/\0<=s.count/\s.count<=256/\s.exprs.length<=10
theorem ss_end {B br n:Nat} {w w2 w5:World} {T:Tok} {s:Stm} {r':Rd} {y1 y3 y5:Option Addr} {y2 y4 y6:Nat} (st:StF B br w2 w2.heap.size n s r' w5) (u:SsAt B br w T r' w5) (hlb:w.heap.size<w2.heap.size)
    (hcc:w5.heap[w2.heap.size]?=some (.cells #[.int .i64 s.kind,.string s.name,.slice y1 s.exprs.length y2,.int .i64 s.count,.slice y3 s.body.length y4,.slice y5 s.els.length y6,.int .i64 s.at_] 45 (0,0))) (hf:fitS1 s):
    Sde B br (n+1) w (s,r') (.returned (.agg #[.int .i64 s.kind,.string s.name,.slice y1 s.exprs.length y2,.int .i64 s.count,.slice y3 s.body.length y4,.slice y5 s.els.length y6,.int .i64 s.at_])) (put7 w5 w.heap.size (.int .i64 s.kind) (.string s.name) (.slice y1 s.exprs.length y2) (.int .i64 s.count) (.slice y3 s.body.length y4) (.slice y5 s.els.length y6) (.int .i64 s.at_)):=by
  obtain ⟨h1,h2,a1,a2,a3,a4,a5,a6,h3,h4,h5,h6⟩:=st
  rw [hcc] at h3
  simp only [Option.some.injEq,Obj.cells.injEq,Array.mk.injEq,List.cons.injEq,Value.slice.injEq,and_true,true_and] at h3
  obtain ⟨⟨rfl,rfl⟩,⟨rfl,rfl⟩,rfl,rfl⟩:=h3
  obtain ⟨W,hW⟩:∃ W,W=put7 w5 w.heap.size (.int .i64 s.kind) (.string s.name) (.slice y1 s.exprs.length y2) (.int .i64 s.count) (.slice y3 s.body.length y4) (.slice y5 s.els.length y6) (.int .i64 s.at_):=⟨_,rfl⟩
  have hz:W.heap.size=w5.heap.size:=by rw [hW,put7_size]
  have hR:RdAt B br r' W:=hW ▸ h1.put7 u.2.2.1 _ _ _ _ _ _ _
  have hG:w.grownBy W (some br):=hW ▸ grown_put7 u.2.1 (Nat.le_refl _) _ _ _ _ _ _ _
  have hO:∀ (k:Nat) (o:Obj),k≠w.heap.size->w5.heap[k]?=some o->W.heap[k]?=some o:=fun k o hk hc=>hW ▸ (put7_other _ _ _ _ _ _ _ _ _ k hk).trans hc
  rw [<- hW]
  clear hW
  have s35:∀ lo hi,w.heap.size<lo->Same35 lo hi w5 W:=fun lo hi hlo k cs fr h1 h2 hc=>hO k _ (by omega) hc
  have s45:∀ lo hi,w.heap.size<lo->Same45 lo hi w5 W:=fun lo hi hlo k cs fr h1 h2 hc=>hO k _ (by omega) hc
  have blk:∀ {v:Value} {ss:List Stm},Blk w2.heap.size n w5 v ss->Stms w.heap.size W.heap.size W (fun v' s'=>SRep w.heap.size W.heap.size W bigM n v' s') v ss:=fun {v ss} hb=>by
    obtain ⟨a,b,q1,q2,q3⟩:=hb
    exact q3.carry (by omega) (by omega) (s45 a b (by omega)) fun _ _ hr=>hr.carry (by omega) (by omega) (s35 a b (by omega)) (s45 a b (by omega))
  obtain ⟨f1,f2,f3,f4⟩:=hf
  have kk:=(h4.kids (by omega)).carry (lo':=w.heap.size) (B':=W.heap.size) (by omega) (by omega) (s35 _ _ hlb) fun _ _ hr=>hr.carry (lo':=w.heap.size) (B':=W.heap.size) (by omega) (by omega) (s35 _ _ hlb)
  have hS:SRep w.heap.size W.heap.size W bigM (n+1) (.agg #[.int .i64 s.kind,.string s.name,.slice y1 s.exprs.length y2,.int .i64 s.count,.slice y3 s.body.length y4,.slice y5 s.els.length y6,.int .i64 s.at_]) s:=⟨by omega,by omega,by omega,y1,y2,y3,y4,y5,y6,rfl,kk,blk h5,blk h6⟩
  exact ⟨_,rfl,hS,hR,hG⟩
theorem fit_here {B br:Nat} {r:Rd} {w:World} (h:RdAt B br r w):r.here.text.length<=65536:=by
  obtain ⟨_,g2,_,g,off,cap,sg,ev,_,_,_,ht,_⟩:=h
  exact (ht.2 0 r.here (good_head g2)).1.2.1
theorem fit_all {B br:Nat} {r:Rd} {w:World} (h:RdAt B br r w):∀ t ∈ r.ts,t.text.length<=65536:=fun t ht=>by
  obtain ⟨_,g2,_,g,off,cap,sg,ev,_,_,_,hT,_⟩:=h
  obtain ⟨i,hi⟩:=List.mem_iff_getElem?.1 ht
  exact (hT.2 i t hi).1.2.1
theorem name_fit {r:Rd} (h:∀ t ∈ r.ts,t.text.length<=65536):r.name.1.length<=65536:=by
  unfold Rd.name
  split
  · unfold Rd.here
    cases e:r.ts with
    | nil=>simp [endT]
    | cons t ts=>rw [e] at h;exact h t (by simp)
  · simp
theorem fit_name_next {B br:Nat} {r:Rd} {w:World} (h:RdAt B br r w):r.next.name.1.length<=65536:=name_fit fun t ht=>fit_all h t (by
  unfold Rd.next at ht
  simp only at ht
  split at ht
  · exact List.mem_of_mem_drop ht
  · exact ht)
theorem number_le (m:Nat) (r:Rd):(r.number m).1<=m:=by
  unfold Rd.number
  split
  · split
    · simp
    · simp only;omega
  · simp
theorem simple_fit (T:Tok) (deep:Nat) (k a:Int) (r:Rd) (h1:T.text.length<=65536) (h2:r.name.1.length<=65536):fitS1 (simpleP T deep ⟨k,⟨#[]⟩,[],0,[],[],a⟩ r).1:=by
  have z:(⟨#[]⟩:ByteArray).size<=65536:=by simp [ByteArray.size]
  have z1:(bstr T.text).size<=65536:=by rw [bstr_size];exact h1
  have z2:(bstr r.name.1).size<=65536:=by rw [bstr_size];exact h2
  unfold simpleP
  simp only
  (repeat' split) <;> simp [valueP,fitS1,z,z1,z2]
theorem simple_flat (T:Tok) (deep:Nat) (s:Stm) (r:Rd) (h1:s.body=[]) (h2:s.els=[]):(simpleP T deep s r).1.body=[]/\(simpleP T deep s r).1.els=[]:=by
  unfold simpleP
  simp only
  (repeat' split) <;> simp [valueP,h1,h2]
theorem choice_fit (bl:BlP) (deep:Nat) (a:Int) (r:Rd):fitS1 (choiceOf bl deep ⟨3,⟨#[]⟩,[],0,[],[],a⟩ r).1:=by
  rw [choice_eq]
  split <;> simp [valueP,fitS1,ByteArray.size]
theorem ss_none (B br deep:Nat) (r:Rd) (w:World) (h:RdAt B br r w) (n:Nat) (hk:kindP r.here=none):
    Calls Tryz.prog 89 #[.pointer (some ⟨br,0,none⟩),.int .i64 (deep:Int)] w (Sde B br (n+1) w (stm0,r.fail 2)):=by
  obtain ⟨hW,hG,hz,hf⟩:=ss_start h
  have hh:=here_any B br r _ (h.alloc zeroS)
  have hsk:=stmtKind_any r.here (ssW w r.here)
  rw [hk] at hsk
  have HU:=fun w1 hb=>Lib.hid (ss_next hW hG hz hf (w1:=w1) hb)
  have F:=fun w' h'=>rnext_any B br r w' h'
  have FF:=fun w' h'=>fail_any B br 2 r w' h' (by omega)
  clear hW hG hz hf h hk
  generalize r.here=T at *
  go_enter Tryz.func89,Tryz.ntmps89
  go_wp2_with (first
    | (go_at_call 57;refine (FF _ u1.out.1).mono ?_;rintro e w2 ⟨rfl,h2,g2⟩;have u2:=u1.out.on h2 g2;have z2:=u2.2.2.1;have hz2:=heap_lt z2;obtain ⟨d0,d1,d2,d3,d4,d5,d6⟩:=box7_free z2;obtain ⟨x0,x1,x2,x3,x4,x5,x6⟩:=stmt_cells z2)
    | (go_at_call 121;refine hsk.mono ?_;rintro e w1 ⟨rfl,hb1⟩;have u1:=HU _ hb1)
    | (go_at_call 59;refine hh.mono ?_;rintro e w' ⟨rfl,rfl⟩))
  have hP:=put7_heap z2 (.int .i64 0) (.string ⟨#[]⟩) (.slice none 0 0) (.int .i64 0) (.slice none 0 0) (.slice none 0 0) (.int .i64 0)
  obtain ⟨q0,q1,q2,q3,q4,q5,q6⟩:=stmt_cells hP
  exact bodyPost_ret (v:=.agg #[.int .i64 0,.string ⟨#[]⟩,.slice none 0 0,.int .i64 0,.slice none 0 0,.slice none 0 0,.int .i64 0]) (by simp [results,Tryz.results89,go_sem,q0,q1,q2,q3,q4,q5,q6]) rfl
    ⟨_,rfl,srep_zero,h2.put7 z2 _ _ _ _ _ _ _,grown_put7 u2.2.1 (Nat.le_refl _) _ _ _ _ _ _ _⟩
theorem ss_deep (B br deep:Nat) (r:Rd) (w:World) (h:RdAt B br r w) (n:Nat) (k:Int) (hk:kindP r.here=some k) (hd:40<deep) (hd2:deep<=41):
    Calls Tryz.prog 89 #[.pointer (some ⟨br,0,none⟩),.int .i64 (deep:Int)] w (Sde B br (n+1) w (stm0,r.fail 6)):=by
  obtain ⟨hW,hG,hz,hf⟩:=ss_start h
  have hh:=here_any B br r _ (h.alloc zeroS)
  have hsk:=stmtKind_any r.here (ssW w r.here)
  rw [hk] at hsk
  have HU:=fun w1 hb=>Lib.hid (ss_next hW hG hz hf (w1:=w1) hb)
  have F:=fun w' h'=>rnext_any B br r w' h'
  have FF:=fun w' h'=>fail_any B br 6 r w' h' (by omega)
  clear hW hG hz hf h hk
  generalize r.here=T at *
  go_enter Tryz.func89,Tryz.ntmps89
  go_wp2_with (first
    | (go_at_call 57;refine (FF _ u1.out.1).mono ?_;rintro e w2 ⟨rfl,h2,g2⟩;have u2:=u1.out.on h2 g2;have z2:=u2.2.2.1;have hz2:=heap_lt z2;obtain ⟨d0,d1,d2,d3,d4,d5,d6⟩:=box7_free z2;obtain ⟨x0,x1,x2,x3,x4,x5,x6⟩:=stmt_cells z2)
    | (go_at_call 121;refine hsk.mono ?_;rintro e w1 ⟨rfl,hb1⟩;have u1:=HU _ hb1)
    | (go_at_call 59;refine hh.mono ?_;rintro e w' ⟨rfl,rfl⟩))
  have hP:=put7_heap z2 (.int .i64 0) (.string ⟨#[]⟩) (.slice none 0 0) (.int .i64 0) (.slice none 0 0) (.slice none 0 0) (.int .i64 0)
  obtain ⟨q0,q1,q2,q3,q4,q5,q6⟩:=stmt_cells hP
  exact bodyPost_ret (v:=.agg #[.int .i64 0,.string ⟨#[]⟩,.slice none 0 0,.int .i64 0,.slice none 0 0,.slice none 0 0,.int .i64 0]) (by simp [results,Tryz.results89,go_sem,q0,q1,q2,q3,q4,q5,q6]) rfl
    ⟨_,rfl,srep_zero,h2.put7 z2 _ _ _ _ _ _ _,grown_put7 u2.2.1 (Nat.le_refl _) _ _ _ _ _ _ _⟩
theorem ss_k0 (B br deep:Nat) (r:Rd) (w:World) (h:RdAt B br r w) (n:Nat) (hk:kindP r.here=some 0) (hd:deep<=40):
    Calls Tryz.prog 89 #[.pointer (some ⟨br,0,none⟩),.int .i64 (deep:Int)] w (Sde B br (n+1) w ((simpleP r.here deep ⟨0,⟨#[]⟩,[],0,[],[],(r.here.at_:Int)⟩ r.next).1,(simpleP r.here deep ⟨0,⟨#[]⟩,[],0,[],[],(r.here.at_:Int)⟩ r.next).2.want [59])):=by
  obtain ⟨hW,hG,hz,hf⟩:=ss_start h
  have hh:=here_any B br r _ (h.alloc zeroS)
  have hsk:=stmtKind_any r.here (ssW w r.here)
  rw [hk] at hsk
  have HU:=fun w1 hb=>Lib.hid (ss_next hW hG hz hf (w1:=w1) hb)
  have F:=fun w' h'=>rnext_any B br r w' h'
  have SS:=fun w0 sb w' h' hs'=>simple0_any B br w0 sb deep r.here (r.here.at_:Int) r.next w' h' hs' hd
  have HN:Hid (fitS1 (simpleP r.here deep ⟨0,⟨#[]⟩,[],0,[],[],(r.here.at_:Int)⟩ r.next).1):=simple_fit r.here deep 0 (r.here.at_:Int) r.next (fit_here h) (fit_name_next h)
  have hbl:(simpleP r.here deep ⟨0,⟨#[]⟩,[],0,[],[],(r.here.at_:Int)⟩ r.next).1.body=[]/\(simpleP r.here deep ⟨0,⟨#[]⟩,[],0,[],[],(r.here.at_:Int)⟩ r.next).1.els=[]:=simple_flat _ _ _ _ rfl rfl
  obtain ⟨s5,r5,e5⟩:∃ s x,simpleP r.here deep ⟨0,⟨#[]⟩,[],0,[],[],(r.here.at_:Int)⟩ r.next=(s,x):=⟨_,_,rfl⟩
  rw [e5] at SS HN hbl ⊢
  have W6:=fun w' h'=>want_any B br r5 ⟨#[59]⟩ [59] rfl w' h'
  have HBL:=Lib.hid hbl
  clear hW hG hz hf h hk e5 hbl
  simp only at SS HN ⊢
  generalize r.here=T at *
  go_enter Tryz.func89,Tryz.ntmps89
  go_wp2_with (first
    | (go_at_call 60;refine (W6 _ st5.out.1).mono ?_;rintro e w6 ⟨rfl,h6,g6⟩;have st9:=Lib.hid ((st5.out.on h6 g6).full n HBL.out.1 HBL.out.2);have u9:=u2.out.on st9.out.1 st9.out.2.1;obtain ⟨y1,y2,y3,y4,y5,y6,hcc⟩:=st9.out.cells;obtain ⟨c0,c1,c2,c3,c4,c5,c6⟩:=stmt_cells hcc;have hl9:=heap_lt hcc;have z9:=u9.2.2.1;have hz9:=heap_lt z9;obtain ⟨d0,d1,d2,d3,d4,d5,d6⟩:=box7_free z9;obtain ⟨i0,i1,i2,i3,i4,i5,i6⟩:=stmt_cells z9)
    | (go_at_call 123;refine (SS w2 w2.heap.size _ st2.out (Nat.le_refl _)).mono ?_;rintro e w5 ⟨rfl,st5'⟩;have st5:=Lib.hid st5')
    | (go_at_call 119;refine (F _ u1.out.1).mono ?_;rintro e w2 ⟨rfl,h2,g2⟩;have u2:=Lib.hid (u1.out.on h2 g2);obtain ⟨t0,t1,t2,t3⟩:=four_tok u2.out.2.2.2;have hz2:=heap_lt u2.out.2.2.1;have hz3:=heap_lt u2.out.2.2.2;have st2:=Lib.hid (ss_box (k:=0) (a:=(T.at_:Int)) u2.out.1);have hlb:Hid (w.heap.size<w2.heap.size):=hz2)
    | (go_at_call 121;refine hsk.mono ?_;rintro e w1 ⟨rfl,hb1⟩;have u1:=HU _ hb1)
    | (go_at_call 59;refine hh.mono ?_;rintro e w' ⟨rfl,rfl⟩))
  have hP:=put7_heap z9 (.int .i64 s5.kind) (.string s5.name) (.slice y1 s5.exprs.length y2) (.int .i64 s5.count) (.slice y3 s5.body.length y4) (.slice y5 s5.els.length y6) (.int .i64 s5.at_)
  obtain ⟨q0,q1,q2,q3,q4,q5,q6⟩:=stmt_cells hP
  exact bodyPost_ret (v:=.agg #[.int .i64 s5.kind,.string s5.name,.slice y1 s5.exprs.length y2,.int .i64 s5.count,.slice y3 s5.body.length y4,.slice y5 s5.els.length y6,.int .i64 s5.at_]) (by simp [results,Tryz.results89,go_sem,q0,q1,q2,q3,q4,q5,q6]) rfl
    (ss_end st9.out u9 hlb.out hcc HN.out)
theorem ss_k5 (B br deep:Nat) (r:Rd) (w:World) (h:RdAt B br r w) (n:Nat) (hk:kindP r.here=some 5) (hd:deep<=40):
    Calls Tryz.prog 89 #[.pointer (some ⟨br,0,none⟩),.int .i64 (deep:Int)] w (Sde B br (n+1) w ((simpleP r.here deep ⟨5,⟨#[]⟩,[],0,[],[],(r.here.at_:Int)⟩ r.next).1,(simpleP r.here deep ⟨5,⟨#[]⟩,[],0,[],[],(r.here.at_:Int)⟩ r.next).2.want [59])):=by
  obtain ⟨hW,hG,hz,hf⟩:=ss_start h
  have hh:=here_any B br r _ (h.alloc zeroS)
  have hsk:=stmtKind_any r.here (ssW w r.here)
  rw [hk] at hsk
  have HU:=fun w1 hb=>Lib.hid (ss_next hW hG hz hf (w1:=w1) hb)
  have F:=fun w' h'=>rnext_any B br r w' h'
  have SS:=fun w0 sb w' h' hs'=>simple5_any B br w0 sb deep r.here (r.here.at_:Int) r.next w' h' hs' hd
  have HN:Hid (fitS1 (simpleP r.here deep ⟨5,⟨#[]⟩,[],0,[],[],(r.here.at_:Int)⟩ r.next).1):=simple_fit r.here deep 5 (r.here.at_:Int) r.next (fit_here h) (fit_name_next h)
  have hbl:(simpleP r.here deep ⟨5,⟨#[]⟩,[],0,[],[],(r.here.at_:Int)⟩ r.next).1.body=[]/\(simpleP r.here deep ⟨5,⟨#[]⟩,[],0,[],[],(r.here.at_:Int)⟩ r.next).1.els=[]:=simple_flat _ _ _ _ rfl rfl
  obtain ⟨s5,r5,e5⟩:∃ s x,simpleP r.here deep ⟨5,⟨#[]⟩,[],0,[],[],(r.here.at_:Int)⟩ r.next=(s,x):=⟨_,_,rfl⟩
  rw [e5] at SS HN hbl ⊢
  have W6:=fun w' h'=>want_any B br r5 ⟨#[59]⟩ [59] rfl w' h'
  have HBL:=Lib.hid hbl
  clear hW hG hz hf h hk e5 hbl
  simp only at SS HN ⊢
  generalize r.here=T at *
  go_enter Tryz.func89,Tryz.ntmps89
  go_wp2_with (first
    | (go_at_call 60;refine (W6 _ st5.out.1).mono ?_;rintro e w6 ⟨rfl,h6,g6⟩;have st9:=Lib.hid ((st5.out.on h6 g6).full n HBL.out.1 HBL.out.2);have u9:=u2.out.on st9.out.1 st9.out.2.1;obtain ⟨y1,y2,y3,y4,y5,y6,hcc⟩:=st9.out.cells;obtain ⟨c0,c1,c2,c3,c4,c5,c6⟩:=stmt_cells hcc;have hl9:=heap_lt hcc;have z9:=u9.2.2.1;have hz9:=heap_lt z9;obtain ⟨d0,d1,d2,d3,d4,d5,d6⟩:=box7_free z9;obtain ⟨i0,i1,i2,i3,i4,i5,i6⟩:=stmt_cells z9)
    | (go_at_call 123;refine (SS w2 w2.heap.size _ st2.out (Nat.le_refl _)).mono ?_;rintro e w5 ⟨rfl,st5'⟩;have st5:=Lib.hid st5')
    | (go_at_call 119;refine (F _ u1.out.1).mono ?_;rintro e w2 ⟨rfl,h2,g2⟩;have u2:=Lib.hid (u1.out.on h2 g2);obtain ⟨t0,t1,t2,t3⟩:=four_tok u2.out.2.2.2;have hz2:=heap_lt u2.out.2.2.1;have hz3:=heap_lt u2.out.2.2.2;have st2:=Lib.hid (ss_box (k:=5) (a:=(T.at_:Int)) u2.out.1);have hlb:Hid (w.heap.size<w2.heap.size):=hz2)
    | (go_at_call 121;refine hsk.mono ?_;rintro e w1 ⟨rfl,hb1⟩;have u1:=HU _ hb1)
    | (go_at_call 59;refine hh.mono ?_;rintro e w' ⟨rfl,rfl⟩))
  have hP:=put7_heap z9 (.int .i64 s5.kind) (.string s5.name) (.slice y1 s5.exprs.length y2) (.int .i64 s5.count) (.slice y3 s5.body.length y4) (.slice y5 s5.els.length y6) (.int .i64 s5.at_)
  obtain ⟨q0,q1,q2,q3,q4,q5,q6⟩:=stmt_cells hP
  exact bodyPost_ret (v:=.agg #[.int .i64 s5.kind,.string s5.name,.slice y1 s5.exprs.length y2,.int .i64 s5.count,.slice y3 s5.body.length y4,.slice y5 s5.els.length y6,.int .i64 s5.at_]) (by simp [results,Tryz.results89,go_sem,q0,q1,q2,q3,q4,q5,q6]) rfl
    (ss_end st9.out u9 hlb.out hcc HN.out)
theorem ss_k6 (B br deep:Nat) (r:Rd) (w:World) (h:RdAt B br r w) (n:Nat) (hk:kindP r.here=some 6) (hd:deep<=40):
    Calls Tryz.prog 89 #[.pointer (some ⟨br,0,none⟩),.int .i64 (deep:Int)] w (Sde B br (n+1) w ((simpleP r.here deep ⟨6,⟨#[]⟩,[],0,[],[],(r.here.at_:Int)⟩ r.next).1,(simpleP r.here deep ⟨6,⟨#[]⟩,[],0,[],[],(r.here.at_:Int)⟩ r.next).2.want [59])):=by
  obtain ⟨hW,hG,hz,hf⟩:=ss_start h
  have hh:=here_any B br r _ (h.alloc zeroS)
  have hsk:=stmtKind_any r.here (ssW w r.here)
  rw [hk] at hsk
  have HU:=fun w1 hb=>Lib.hid (ss_next hW hG hz hf (w1:=w1) hb)
  have F:=fun w' h'=>rnext_any B br r w' h'
  have SS:=fun w0 sb w' h' hs'=>simple6_any B br w0 sb deep r.here (r.here.at_:Int) r.next w' h' hs' hd
  have HN:Hid (fitS1 (simpleP r.here deep ⟨6,⟨#[]⟩,[],0,[],[],(r.here.at_:Int)⟩ r.next).1):=simple_fit r.here deep 6 (r.here.at_:Int) r.next (fit_here h) (fit_name_next h)
  have hbl:(simpleP r.here deep ⟨6,⟨#[]⟩,[],0,[],[],(r.here.at_:Int)⟩ r.next).1.body=[]/\(simpleP r.here deep ⟨6,⟨#[]⟩,[],0,[],[],(r.here.at_:Int)⟩ r.next).1.els=[]:=simple_flat _ _ _ _ rfl rfl
  obtain ⟨s5,r5,e5⟩:∃ s x,simpleP r.here deep ⟨6,⟨#[]⟩,[],0,[],[],(r.here.at_:Int)⟩ r.next=(s,x):=⟨_,_,rfl⟩
  rw [e5] at SS HN hbl ⊢
  have W6:=fun w' h'=>want_any B br r5 ⟨#[59]⟩ [59] rfl w' h'
  have HBL:=Lib.hid hbl
  clear hW hG hz hf h hk e5 hbl
  simp only at SS HN ⊢
  generalize r.here=T at *
  go_enter Tryz.func89,Tryz.ntmps89
  go_wp2_with (first
    | (go_at_call 60;refine (W6 _ st5.out.1).mono ?_;rintro e w6 ⟨rfl,h6,g6⟩;have st9:=Lib.hid ((st5.out.on h6 g6).full n HBL.out.1 HBL.out.2);have u9:=u2.out.on st9.out.1 st9.out.2.1;obtain ⟨y1,y2,y3,y4,y5,y6,hcc⟩:=st9.out.cells;obtain ⟨c0,c1,c2,c3,c4,c5,c6⟩:=stmt_cells hcc;have hl9:=heap_lt hcc;have z9:=u9.2.2.1;have hz9:=heap_lt z9;obtain ⟨d0,d1,d2,d3,d4,d5,d6⟩:=box7_free z9;obtain ⟨i0,i1,i2,i3,i4,i5,i6⟩:=stmt_cells z9)
    | (go_at_call 123;refine (SS w2 w2.heap.size _ st2.out (Nat.le_refl _)).mono ?_;rintro e w5 ⟨rfl,st5'⟩;have st5:=Lib.hid st5')
    | (go_at_call 119;refine (F _ u1.out.1).mono ?_;rintro e w2 ⟨rfl,h2,g2⟩;have u2:=Lib.hid (u1.out.on h2 g2);obtain ⟨t0,t1,t2,t3⟩:=four_tok u2.out.2.2.2;have hz2:=heap_lt u2.out.2.2.1;have hz3:=heap_lt u2.out.2.2.2;have st2:=Lib.hid (ss_box (k:=6) (a:=(T.at_:Int)) u2.out.1);have hlb:Hid (w.heap.size<w2.heap.size):=hz2)
    | (go_at_call 121;refine hsk.mono ?_;rintro e w1 ⟨rfl,hb1⟩;have u1:=HU _ hb1)
    | (go_at_call 59;refine hh.mono ?_;rintro e w' ⟨rfl,rfl⟩))
  have hP:=put7_heap z9 (.int .i64 s5.kind) (.string s5.name) (.slice y1 s5.exprs.length y2) (.int .i64 s5.count) (.slice y3 s5.body.length y4) (.slice y5 s5.els.length y6) (.int .i64 s5.at_)
  obtain ⟨q0,q1,q2,q3,q4,q5,q6⟩:=stmt_cells hP
  exact bodyPost_ret (v:=.agg #[.int .i64 s5.kind,.string s5.name,.slice y1 s5.exprs.length y2,.int .i64 s5.count,.slice y3 s5.body.length y4,.slice y5 s5.els.length y6,.int .i64 s5.at_]) (by simp [results,Tryz.results89,go_sem,q0,q1,q2,q3,q4,q5,q6]) rfl
    (ss_end st9.out u9 hlb.out hcc HN.out)
theorem ss_k7 (B br deep:Nat) (r:Rd) (w:World) (h:RdAt B br r w) (n:Nat) (hk:kindP r.here=some 7) (hd:deep<=40):
    Calls Tryz.prog 89 #[.pointer (some ⟨br,0,none⟩),.int .i64 (deep:Int)] w (Sde B br (n+1) w ((simpleP r.here deep ⟨7,⟨#[]⟩,[],0,[],[],(r.here.at_:Int)⟩ r.next).1,(simpleP r.here deep ⟨7,⟨#[]⟩,[],0,[],[],(r.here.at_:Int)⟩ r.next).2.want [59])):=by
  obtain ⟨hW,hG,hz,hf⟩:=ss_start h
  have hh:=here_any B br r _ (h.alloc zeroS)
  have hsk:=stmtKind_any r.here (ssW w r.here)
  rw [hk] at hsk
  have HU:=fun w1 hb=>Lib.hid (ss_next hW hG hz hf (w1:=w1) hb)
  have F:=fun w' h'=>rnext_any B br r w' h'
  have SS:=fun w0 sb w' h' hs'=>simple7_any B br w0 sb deep r.here (r.here.at_:Int) r.next w' h' hs' hd
  have HN:Hid (fitS1 (simpleP r.here deep ⟨7,⟨#[]⟩,[],0,[],[],(r.here.at_:Int)⟩ r.next).1):=simple_fit r.here deep 7 (r.here.at_:Int) r.next (fit_here h) (fit_name_next h)
  have hbl:(simpleP r.here deep ⟨7,⟨#[]⟩,[],0,[],[],(r.here.at_:Int)⟩ r.next).1.body=[]/\(simpleP r.here deep ⟨7,⟨#[]⟩,[],0,[],[],(r.here.at_:Int)⟩ r.next).1.els=[]:=simple_flat _ _ _ _ rfl rfl
  obtain ⟨s5,r5,e5⟩:∃ s x,simpleP r.here deep ⟨7,⟨#[]⟩,[],0,[],[],(r.here.at_:Int)⟩ r.next=(s,x):=⟨_,_,rfl⟩
  rw [e5] at SS HN hbl ⊢
  have W6:=fun w' h'=>want_any B br r5 ⟨#[59]⟩ [59] rfl w' h'
  have HBL:=Lib.hid hbl
  clear hW hG hz hf h hk e5 hbl
  simp only at SS HN ⊢
  generalize r.here=T at *
  go_enter Tryz.func89,Tryz.ntmps89
  go_wp2_with (first
    | (go_at_call 60;refine (W6 _ st5.out.1).mono ?_;rintro e w6 ⟨rfl,h6,g6⟩;have st9:=Lib.hid ((st5.out.on h6 g6).full n HBL.out.1 HBL.out.2);have u9:=u2.out.on st9.out.1 st9.out.2.1;obtain ⟨y1,y2,y3,y4,y5,y6,hcc⟩:=st9.out.cells;obtain ⟨c0,c1,c2,c3,c4,c5,c6⟩:=stmt_cells hcc;have hl9:=heap_lt hcc;have z9:=u9.2.2.1;have hz9:=heap_lt z9;obtain ⟨d0,d1,d2,d3,d4,d5,d6⟩:=box7_free z9;obtain ⟨i0,i1,i2,i3,i4,i5,i6⟩:=stmt_cells z9)
    | (go_at_call 123;refine (SS w2 w2.heap.size _ st2.out (Nat.le_refl _)).mono ?_;rintro e w5 ⟨rfl,st5'⟩;have st5:=Lib.hid st5')
    | (go_at_call 119;refine (F _ u1.out.1).mono ?_;rintro e w2 ⟨rfl,h2,g2⟩;have u2:=Lib.hid (u1.out.on h2 g2);obtain ⟨t0,t1,t2,t3⟩:=four_tok u2.out.2.2.2;have hz2:=heap_lt u2.out.2.2.1;have hz3:=heap_lt u2.out.2.2.2;have st2:=Lib.hid (ss_box (k:=7) (a:=(T.at_:Int)) u2.out.1);have hlb:Hid (w.heap.size<w2.heap.size):=hz2)
    | (go_at_call 121;refine hsk.mono ?_;rintro e w1 ⟨rfl,hb1⟩;have u1:=HU _ hb1)
    | (go_at_call 59;refine hh.mono ?_;rintro e w' ⟨rfl,rfl⟩))
  have hP:=put7_heap z9 (.int .i64 s5.kind) (.string s5.name) (.slice y1 s5.exprs.length y2) (.int .i64 s5.count) (.slice y3 s5.body.length y4) (.slice y5 s5.els.length y6) (.int .i64 s5.at_)
  obtain ⟨q0,q1,q2,q3,q4,q5,q6⟩:=stmt_cells hP
  exact bodyPost_ret (v:=.agg #[.int .i64 s5.kind,.string s5.name,.slice y1 s5.exprs.length y2,.int .i64 s5.count,.slice y3 s5.body.length y4,.slice y5 s5.els.length y6,.int .i64 s5.at_]) (by simp [results,Tryz.results89,go_sem,q0,q1,q2,q3,q4,q5,q6]) rfl
    (ss_end st9.out u9 hlb.out hcc HN.out)
theorem ss_k8 (B br deep:Nat) (r:Rd) (w:World) (h:RdAt B br r w) (n:Nat) (hk:kindP r.here=some 8) (hd:deep<=40):
    Calls Tryz.prog 89 #[.pointer (some ⟨br,0,none⟩),.int .i64 (deep:Int)] w (Sde B br (n+1) w ((simpleP r.here deep ⟨8,⟨#[]⟩,[],0,[],[],(r.here.at_:Int)⟩ r.next).1,(simpleP r.here deep ⟨8,⟨#[]⟩,[],0,[],[],(r.here.at_:Int)⟩ r.next).2.want [59])):=by
  obtain ⟨hW,hG,hz,hf⟩:=ss_start h
  have hh:=here_any B br r _ (h.alloc zeroS)
  have hsk:=stmtKind_any r.here (ssW w r.here)
  rw [hk] at hsk
  have HU:=fun w1 hb=>Lib.hid (ss_next hW hG hz hf (w1:=w1) hb)
  have F:=fun w' h'=>rnext_any B br r w' h'
  have SS:=fun w0 sb w' h' hs'=>simple8_any B br w0 sb deep r.here (r.here.at_:Int) r.next w' h' hs' hd
  have HN:Hid (fitS1 (simpleP r.here deep ⟨8,⟨#[]⟩,[],0,[],[],(r.here.at_:Int)⟩ r.next).1):=simple_fit r.here deep 8 (r.here.at_:Int) r.next (fit_here h) (fit_name_next h)
  have hbl:(simpleP r.here deep ⟨8,⟨#[]⟩,[],0,[],[],(r.here.at_:Int)⟩ r.next).1.body=[]/\(simpleP r.here deep ⟨8,⟨#[]⟩,[],0,[],[],(r.here.at_:Int)⟩ r.next).1.els=[]:=simple_flat _ _ _ _ rfl rfl
  obtain ⟨s5,r5,e5⟩:∃ s x,simpleP r.here deep ⟨8,⟨#[]⟩,[],0,[],[],(r.here.at_:Int)⟩ r.next=(s,x):=⟨_,_,rfl⟩
  rw [e5] at SS HN hbl ⊢
  have W6:=fun w' h'=>want_any B br r5 ⟨#[59]⟩ [59] rfl w' h'
  have HBL:=Lib.hid hbl
  clear hW hG hz hf h hk e5 hbl
  simp only at SS HN ⊢
  generalize r.here=T at *
  go_enter Tryz.func89,Tryz.ntmps89
  go_wp2_with (first
    | (go_at_call 60;refine (W6 _ st5.out.1).mono ?_;rintro e w6 ⟨rfl,h6,g6⟩;have st9:=Lib.hid ((st5.out.on h6 g6).full n HBL.out.1 HBL.out.2);have u9:=u2.out.on st9.out.1 st9.out.2.1;obtain ⟨y1,y2,y3,y4,y5,y6,hcc⟩:=st9.out.cells;obtain ⟨c0,c1,c2,c3,c4,c5,c6⟩:=stmt_cells hcc;have hl9:=heap_lt hcc;have z9:=u9.2.2.1;have hz9:=heap_lt z9;obtain ⟨d0,d1,d2,d3,d4,d5,d6⟩:=box7_free z9;obtain ⟨i0,i1,i2,i3,i4,i5,i6⟩:=stmt_cells z9)
    | (go_at_call 123;refine (SS w2 w2.heap.size _ st2.out (Nat.le_refl _)).mono ?_;rintro e w5 ⟨rfl,st5'⟩;have st5:=Lib.hid st5')
    | (go_at_call 119;refine (F _ u1.out.1).mono ?_;rintro e w2 ⟨rfl,h2,g2⟩;have u2:=Lib.hid (u1.out.on h2 g2);obtain ⟨t0,t1,t2,t3⟩:=four_tok u2.out.2.2.2;have hz2:=heap_lt u2.out.2.2.1;have hz3:=heap_lt u2.out.2.2.2;have st2:=Lib.hid (ss_box (k:=8) (a:=(T.at_:Int)) u2.out.1);have hlb:Hid (w.heap.size<w2.heap.size):=hz2)
    | (go_at_call 121;refine hsk.mono ?_;rintro e w1 ⟨rfl,hb1⟩;have u1:=HU _ hb1)
    | (go_at_call 59;refine hh.mono ?_;rintro e w' ⟨rfl,rfl⟩))
  have hP:=put7_heap z9 (.int .i64 s5.kind) (.string s5.name) (.slice y1 s5.exprs.length y2) (.int .i64 s5.count) (.slice y3 s5.body.length y4) (.slice y5 s5.els.length y6) (.int .i64 s5.at_)
  obtain ⟨q0,q1,q2,q3,q4,q5,q6⟩:=stmt_cells hP
  exact bodyPost_ret (v:=.agg #[.int .i64 s5.kind,.string s5.name,.slice y1 s5.exprs.length y2,.int .i64 s5.count,.slice y3 s5.body.length y4,.slice y5 s5.els.length y6,.int .i64 s5.at_]) (by simp [results,Tryz.results89,go_sem,q0,q1,q2,q3,q4,q5,q6]) rfl
    (ss_end st9.out u9 hlb.out hcc HN.out)
theorem ss_k9 (B br deep:Nat) (r:Rd) (w:World) (h:RdAt B br r w) (n:Nat) (hk:kindP r.here=some 9) (hd:deep<=40):
    Calls Tryz.prog 89 #[.pointer (some ⟨br,0,none⟩),.int .i64 (deep:Int)] w (Sde B br (n+1) w ((simpleP r.here deep ⟨9,⟨#[]⟩,[],0,[],[],(r.here.at_:Int)⟩ r.next).1,(simpleP r.here deep ⟨9,⟨#[]⟩,[],0,[],[],(r.here.at_:Int)⟩ r.next).2.want [59])):=by
  obtain ⟨hW,hG,hz,hf⟩:=ss_start h
  have hh:=here_any B br r _ (h.alloc zeroS)
  have hsk:=stmtKind_any r.here (ssW w r.here)
  rw [hk] at hsk
  have HU:=fun w1 hb=>Lib.hid (ss_next hW hG hz hf (w1:=w1) hb)
  have F:=fun w' h'=>rnext_any B br r w' h'
  have SS:=fun w0 sb w' h' hs'=>simple9_any B br w0 sb deep r.here (r.here.at_:Int) r.next w' h' hs' hd
  have HN:Hid (fitS1 (simpleP r.here deep ⟨9,⟨#[]⟩,[],0,[],[],(r.here.at_:Int)⟩ r.next).1):=simple_fit r.here deep 9 (r.here.at_:Int) r.next (fit_here h) (fit_name_next h)
  have hbl:(simpleP r.here deep ⟨9,⟨#[]⟩,[],0,[],[],(r.here.at_:Int)⟩ r.next).1.body=[]/\(simpleP r.here deep ⟨9,⟨#[]⟩,[],0,[],[],(r.here.at_:Int)⟩ r.next).1.els=[]:=simple_flat _ _ _ _ rfl rfl
  obtain ⟨s5,r5,e5⟩:∃ s x,simpleP r.here deep ⟨9,⟨#[]⟩,[],0,[],[],(r.here.at_:Int)⟩ r.next=(s,x):=⟨_,_,rfl⟩
  rw [e5] at SS HN hbl ⊢
  have W6:=fun w' h'=>want_any B br r5 ⟨#[59]⟩ [59] rfl w' h'
  have HBL:=Lib.hid hbl
  clear hW hG hz hf h hk e5 hbl
  simp only at SS HN ⊢
  generalize r.here=T at *
  go_enter Tryz.func89,Tryz.ntmps89
  go_wp2_with (first
    | (go_at_call 60;refine (W6 _ st5.out.1).mono ?_;rintro e w6 ⟨rfl,h6,g6⟩;have st9:=Lib.hid ((st5.out.on h6 g6).full n HBL.out.1 HBL.out.2);have u9:=u2.out.on st9.out.1 st9.out.2.1;obtain ⟨y1,y2,y3,y4,y5,y6,hcc⟩:=st9.out.cells;obtain ⟨c0,c1,c2,c3,c4,c5,c6⟩:=stmt_cells hcc;have hl9:=heap_lt hcc;have z9:=u9.2.2.1;have hz9:=heap_lt z9;obtain ⟨d0,d1,d2,d3,d4,d5,d6⟩:=box7_free z9;obtain ⟨i0,i1,i2,i3,i4,i5,i6⟩:=stmt_cells z9)
    | (go_at_call 123;refine (SS w2 w2.heap.size _ st2.out (Nat.le_refl _)).mono ?_;rintro e w5 ⟨rfl,st5'⟩;have st5:=Lib.hid st5')
    | (go_at_call 119;refine (F _ u1.out.1).mono ?_;rintro e w2 ⟨rfl,h2,g2⟩;have u2:=Lib.hid (u1.out.on h2 g2);obtain ⟨t0,t1,t2,t3⟩:=four_tok u2.out.2.2.2;have hz2:=heap_lt u2.out.2.2.1;have hz3:=heap_lt u2.out.2.2.2;have st2:=Lib.hid (ss_box (k:=9) (a:=(T.at_:Int)) u2.out.1);have hlb:Hid (w.heap.size<w2.heap.size):=hz2)
    | (go_at_call 121;refine hsk.mono ?_;rintro e w1 ⟨rfl,hb1⟩;have u1:=HU _ hb1)
    | (go_at_call 59;refine hh.mono ?_;rintro e w' ⟨rfl,rfl⟩))
  have hP:=put7_heap z9 (.int .i64 s5.kind) (.string s5.name) (.slice y1 s5.exprs.length y2) (.int .i64 s5.count) (.slice y3 s5.body.length y4) (.slice y5 s5.els.length y6) (.int .i64 s5.at_)
  obtain ⟨q0,q1,q2,q3,q4,q5,q6⟩:=stmt_cells hP
  exact bodyPost_ret (v:=.agg #[.int .i64 s5.kind,.string s5.name,.slice y1 s5.exprs.length y2,.int .i64 s5.count,.slice y3 s5.body.length y4,.slice y5 s5.els.length y6,.int .i64 s5.at_]) (by simp [results,Tryz.results89,go_sem,q0,q1,q2,q3,q4,q5,q6]) rfl
    (ss_end st9.out u9 hlb.out hcc HN.out)
theorem ss_k1_no (B br deep:Nat) (r:Rd) (w:World) (h:RdAt B br r w) (n:Nat) (hk:kindP r.here=some 1) (hd:deep<=40) (hi:r.next.is [91]=false):
    Calls Tryz.prog 89 #[.pointer (some ⟨br,0,none⟩),.int .i64 (deep:Int)] w (Sde B br (n+1) w ((simpleP r.here deep ⟨1,⟨#[]⟩,[],0,[],[],(r.here.at_:Int)⟩ r.next).1,(simpleP r.here deep ⟨1,⟨#[]⟩,[],0,[],[],(r.here.at_:Int)⟩ r.next).2.want [59])):=by
  obtain ⟨hW,hG,hz,hf⟩:=ss_start h
  have hh:=here_any B br r _ (h.alloc zeroS)
  have hsk:=stmtKind_any r.here (ssW w r.here)
  rw [hk] at hsk
  have HU:=fun w1 hb=>Lib.hid (ss_next hW hG hz hf (w1:=w1) hb)
  have F:=fun w' h'=>rnext_any B br r w' h'
  have SS:=fun w0 sb w' h' hs'=>simple1_no B br w0 sb deep r.here (r.here.at_:Int) r.next w' h' hs' hd hi
  have HN:Hid (fitS1 (simpleP r.here deep ⟨1,⟨#[]⟩,[],0,[],[],(r.here.at_:Int)⟩ r.next).1):=simple_fit r.here deep 1 (r.here.at_:Int) r.next (fit_here h) (fit_name_next h)
  have hbl:(simpleP r.here deep ⟨1,⟨#[]⟩,[],0,[],[],(r.here.at_:Int)⟩ r.next).1.body=[]/\(simpleP r.here deep ⟨1,⟨#[]⟩,[],0,[],[],(r.here.at_:Int)⟩ r.next).1.els=[]:=simple_flat _ _ _ _ rfl rfl
  obtain ⟨s5,r5,e5⟩:∃ s x,simpleP r.here deep ⟨1,⟨#[]⟩,[],0,[],[],(r.here.at_:Int)⟩ r.next=(s,x):=⟨_,_,rfl⟩
  rw [e5] at SS HN hbl ⊢
  have W6:=fun w' h'=>want_any B br r5 ⟨#[59]⟩ [59] rfl w' h'
  have HBL:=Lib.hid hbl
  clear hW hG hz hf h hk e5 hbl
  simp only at SS HN ⊢
  generalize r.here=T at *
  go_enter Tryz.func89,Tryz.ntmps89
  go_wp2_with (first
    | (go_at_call 60;refine (W6 _ st5.out.1).mono ?_;rintro e w6 ⟨rfl,h6,g6⟩;have st9:=Lib.hid ((st5.out.on h6 g6).full n HBL.out.1 HBL.out.2);have u9:=u2.out.on st9.out.1 st9.out.2.1;obtain ⟨y1,y2,y3,y4,y5,y6,hcc⟩:=st9.out.cells;obtain ⟨c0,c1,c2,c3,c4,c5,c6⟩:=stmt_cells hcc;have hl9:=heap_lt hcc;have z9:=u9.2.2.1;have hz9:=heap_lt z9;obtain ⟨d0,d1,d2,d3,d4,d5,d6⟩:=box7_free z9;obtain ⟨i0,i1,i2,i3,i4,i5,i6⟩:=stmt_cells z9)
    | (go_at_call 123;refine (SS w2 w2.heap.size _ st2.out (Nat.le_refl _)).mono ?_;rintro e w5 ⟨rfl,st5'⟩;have st5:=Lib.hid st5')
    | (go_at_call 119;refine (F _ u1.out.1).mono ?_;rintro e w2 ⟨rfl,h2,g2⟩;have u2:=Lib.hid (u1.out.on h2 g2);obtain ⟨t0,t1,t2,t3⟩:=four_tok u2.out.2.2.2;have hz2:=heap_lt u2.out.2.2.1;have hz3:=heap_lt u2.out.2.2.2;have st2:=Lib.hid (ss_box (k:=1) (a:=(T.at_:Int)) u2.out.1);have hlb:Hid (w.heap.size<w2.heap.size):=hz2)
    | (go_at_call 121;refine hsk.mono ?_;rintro e w1 ⟨rfl,hb1⟩;have u1:=HU _ hb1)
    | (go_at_call 59;refine hh.mono ?_;rintro e w' ⟨rfl,rfl⟩))
  have hP:=put7_heap z9 (.int .i64 s5.kind) (.string s5.name) (.slice y1 s5.exprs.length y2) (.int .i64 s5.count) (.slice y3 s5.body.length y4) (.slice y5 s5.els.length y6) (.int .i64 s5.at_)
  obtain ⟨q0,q1,q2,q3,q4,q5,q6⟩:=stmt_cells hP
  exact bodyPost_ret (v:=.agg #[.int .i64 s5.kind,.string s5.name,.slice y1 s5.exprs.length y2,.int .i64 s5.count,.slice y3 s5.body.length y4,.slice y5 s5.els.length y6,.int .i64 s5.at_]) (by simp [results,Tryz.results89,go_sem,q0,q1,q2,q3,q4,q5,q6]) rfl
    (ss_end st9.out u9 hlb.out hcc HN.out)
theorem ss_k1_yes (B br deep:Nat) (r:Rd) (w:World) (h:RdAt B br r w) (n:Nat) (hk:kindP r.here=some 1) (hd:deep<=40) (hi:r.next.is [91]=true):
    Calls Tryz.prog 89 #[.pointer (some ⟨br,0,none⟩),.int .i64 (deep:Int)] w (Sde B br (n+1) w ((simpleP r.here deep ⟨1,⟨#[]⟩,[],0,[],[],(r.here.at_:Int)⟩ r.next).1,(simpleP r.here deep ⟨1,⟨#[]⟩,[],0,[],[],(r.here.at_:Int)⟩ r.next).2.want [59])):=by
  obtain ⟨hW,hG,hz,hf⟩:=ss_start h
  have hh:=here_any B br r _ (h.alloc zeroS)
  have hsk:=stmtKind_any r.here (ssW w r.here)
  rw [hk] at hsk
  have HU:=fun w1 hb=>Lib.hid (ss_next hW hG hz hf (w1:=w1) hb)
  have F:=fun w' h'=>rnext_any B br r w' h'
  have SS:=fun w0 sb w' h' hs'=>simple1_yes B br w0 sb deep r.here (r.here.at_:Int) r.next w' h' hs' hd hi
  have HN:Hid (fitS1 (simpleP r.here deep ⟨1,⟨#[]⟩,[],0,[],[],(r.here.at_:Int)⟩ r.next).1):=simple_fit r.here deep 1 (r.here.at_:Int) r.next (fit_here h) (fit_name_next h)
  have hbl:(simpleP r.here deep ⟨1,⟨#[]⟩,[],0,[],[],(r.here.at_:Int)⟩ r.next).1.body=[]/\(simpleP r.here deep ⟨1,⟨#[]⟩,[],0,[],[],(r.here.at_:Int)⟩ r.next).1.els=[]:=simple_flat _ _ _ _ rfl rfl
  obtain ⟨s5,r5,e5⟩:∃ s x,simpleP r.here deep ⟨1,⟨#[]⟩,[],0,[],[],(r.here.at_:Int)⟩ r.next=(s,x):=⟨_,_,rfl⟩
  rw [e5] at SS HN hbl ⊢
  have W6:=fun w' h'=>want_any B br r5 ⟨#[59]⟩ [59] rfl w' h'
  have HBL:=Lib.hid hbl
  clear hW hG hz hf h hk e5 hbl
  simp only at SS HN ⊢
  generalize r.here=T at *
  go_enter Tryz.func89,Tryz.ntmps89
  go_wp2_with (first
    | (go_at_call 60;refine (W6 _ st5.out.1).mono ?_;rintro e w6 ⟨rfl,h6,g6⟩;have st9:=Lib.hid ((st5.out.on h6 g6).full n HBL.out.1 HBL.out.2);have u9:=u2.out.on st9.out.1 st9.out.2.1;obtain ⟨y1,y2,y3,y4,y5,y6,hcc⟩:=st9.out.cells;obtain ⟨c0,c1,c2,c3,c4,c5,c6⟩:=stmt_cells hcc;have hl9:=heap_lt hcc;have z9:=u9.2.2.1;have hz9:=heap_lt z9;obtain ⟨d0,d1,d2,d3,d4,d5,d6⟩:=box7_free z9;obtain ⟨i0,i1,i2,i3,i4,i5,i6⟩:=stmt_cells z9)
    | (go_at_call 123;refine (SS w2 w2.heap.size _ st2.out (Nat.le_refl _)).mono ?_;rintro e w5 ⟨rfl,st5'⟩;have st5:=Lib.hid st5')
    | (go_at_call 119;refine (F _ u1.out.1).mono ?_;rintro e w2 ⟨rfl,h2,g2⟩;have u2:=Lib.hid (u1.out.on h2 g2);obtain ⟨t0,t1,t2,t3⟩:=four_tok u2.out.2.2.2;have hz2:=heap_lt u2.out.2.2.1;have hz3:=heap_lt u2.out.2.2.2;have st2:=Lib.hid (ss_box (k:=1) (a:=(T.at_:Int)) u2.out.1);have hlb:Hid (w.heap.size<w2.heap.size):=hz2)
    | (go_at_call 121;refine hsk.mono ?_;rintro e w1 ⟨rfl,hb1⟩;have u1:=HU _ hb1)
    | (go_at_call 59;refine hh.mono ?_;rintro e w' ⟨rfl,rfl⟩))
  have hP:=put7_heap z9 (.int .i64 s5.kind) (.string s5.name) (.slice y1 s5.exprs.length y2) (.int .i64 s5.count) (.slice y3 s5.body.length y4) (.slice y5 s5.els.length y6) (.int .i64 s5.at_)
  obtain ⟨q0,q1,q2,q3,q4,q5,q6⟩:=stmt_cells hP
  exact bodyPost_ret (v:=.agg #[.int .i64 s5.kind,.string s5.name,.slice y1 s5.exprs.length y2,.int .i64 s5.count,.slice y3 s5.body.length y4,.slice y5 s5.els.length y6,.int .i64 s5.at_]) (by simp [results,Tryz.results89,go_sem,q0,q1,q2,q3,q4,q5,q6]) rfl
    (ss_end st9.out u9 hlb.out hcc HN.out)
theorem ss_if (B br deep:Nat) (r:Rd) (w:World) (h:RdAt B br r w) {f:Nat} (ih:RBlC f) (hk:kindP r.here=some 3) (hd:deep+1+f=41):
    Calls Tryz.prog 89 #[.pointer (some ⟨br,0,none⟩),.int .i64 (deep:Int)] w (Sde B br (f+2) w (choiceOf (blockOf (stP f)) deep ⟨3,⟨#[]⟩,[],0,[],[],(r.here.at_:Int)⟩ r.next)):=by
  obtain ⟨hW,hG,hz,hf⟩:=ss_start h
  have hh:=here_any B br r _ (h.alloc zeroS)
  have hsk:=stmtKind_any r.here (ssW w r.here)
  rw [hk] at hsk
  have HU:=fun w1 hb=>Lib.hid (ss_next hW hG hz hf (w1:=w1) hb)
  have F:=fun w' h'=>rnext_any B br r w' h'
  have SS:=fun w0 sb w' h' hs'=>choice_any ih B br w0 sb deep (r.here.at_:Int) r.next w' h' hs' hd
  have HN:Hid (fitS1 (choiceOf (blockOf (stP f)) deep ⟨3,⟨#[]⟩,[],0,[],[],(r.here.at_:Int)⟩ r.next).1):=choice_fit _ _ _ _
  obtain ⟨s5,r5,e5⟩:∃ s x,choiceOf (blockOf (stP f)) deep ⟨3,⟨#[]⟩,[],0,[],[],(r.here.at_:Int)⟩ r.next=(s,x):=⟨_,_,rfl⟩
  rw [e5] at SS HN ⊢
  have hdd:deep<=40:=by omega
  clear hW hG hz hf h hk e5 hd
  simp only at SS HN ⊢
  generalize r.here=T at *
  go_enter Tryz.func89,Tryz.ntmps89
  go_wp2_with (first
    | (go_at_call 122;refine (SS w2 w2.heap.size _ st2.out (Nat.le_refl _)).mono ?_;rintro e w5 ⟨rfl,st9'⟩;have st9:=Lib.hid st9';have u9:=u2.out.on st9.out.1 st9.out.2.1;obtain ⟨y1,y2,y3,y4,y5,y6,hcc⟩:=st9.out.cells;obtain ⟨c0,c1,c2,c3,c4,c5,c6⟩:=stmt_cells hcc;have hl9:=heap_lt hcc;have z9:=u9.2.2.1;have hz9:=heap_lt z9;obtain ⟨d0,d1,d2,d3,d4,d5,d6⟩:=box7_free z9;obtain ⟨i0,i1,i2,i3,i4,i5,i6⟩:=stmt_cells z9)
    | (go_at_call 119;refine (F _ u1.out.1).mono ?_;rintro e w2 ⟨rfl,h2,g2⟩;have u2:=Lib.hid (u1.out.on h2 g2);obtain ⟨t0,t1,t2,t3⟩:=four_tok u2.out.2.2.2;have hz2:=heap_lt u2.out.2.2.1;have hz3:=heap_lt u2.out.2.2.2;have st2:=Lib.hid (ss_box (k:=3) (a:=(T.at_:Int)) u2.out.1);have hlb:Hid (w.heap.size<w2.heap.size):=hz2)
    | (go_at_call 121;refine hsk.mono ?_;rintro e w1 ⟨rfl,hb1⟩;have u1:=HU _ hb1)
    | (go_at_call 59;refine hh.mono ?_;rintro e w' ⟨rfl,rfl⟩))
  have hP:=put7_heap z9 (.int .i64 s5.kind) (.string s5.name) (.slice y1 s5.exprs.length y2) (.int .i64 s5.count) (.slice y3 s5.body.length y4) (.slice y5 s5.els.length y6) (.int .i64 s5.at_)
  obtain ⟨q0,q1,q2,q3,q4,q5,q6⟩:=stmt_cells hP
  exact bodyPost_ret (v:=.agg #[.int .i64 s5.kind,.string s5.name,.slice y1 s5.exprs.length y2,.int .i64 s5.count,.slice y3 s5.body.length y4,.slice y5 s5.els.length y6,.int .i64 s5.at_]) (by simp [results,Tryz.results89,go_sem,q0,q1,q2,q3,q4,q5,q6]) rfl
    (ss_end st9.out u9 hlb.out hcc HN.out)
theorem ss_loop (B br deep:Nat) (r:Rd) (w:World) (h:RdAt B br r w) {f:Nat} (ih:RBlC f) (hk:kindP r.here=some 4) (hd:deep+1+f=41):
    Calls Tryz.prog 89 #[.pointer (some ⟨br,0,none⟩),.int .i64 (deep:Int)] w (Sde B br (f+2) w (({ (⟨4,⟨#[]⟩,[],0,[],[],(r.here.at_:Int)⟩:Stm) with name:=bstr r.next.name.1,count:=((r.next.name.2.number 256).1:Int),body:=(blockOf (stP f) (deep+1) (r.next.name.2.number 256).2).1 }),(blockOf (stP f) (deep+1) (r.next.name.2.number 256).2).2)):=by
  obtain ⟨hW,hG,hz,hf⟩:=ss_start h
  have hh:=here_any B br r _ (h.alloc zeroS)
  have hsk:=stmtKind_any r.here (ssW w r.here)
  rw [hk] at hsk
  have HU:=fun w1 hb=>Lib.hid (ss_next hW hG hz hf (w1:=w1) hb)
  have F:=fun w' h'=>rnext_any B br r w' h'
  have hnm:r.next.name.1.length<=65536:=fit_name_next h
  have hnn:(r.next.name.2.number 256).1<=256:=number_le _ _
  obtain ⟨nm,r3,e3⟩:∃ s x,r.next.name=(s,x):=⟨_,_,rfl⟩
  have N3:=fun w' h'=>rname_any B br r.next w' h'
  rw [e3] at N3 hnm hnn ⊢
  simp only at N3 hnm hnn ⊢
  obtain ⟨ct,r4,e4⟩:∃ s x,r3.number 256=(s,x):=⟨_,_,rfl⟩
  have N4:∀ w',RdAt B br r3 w'->Calls Tryz.prog 120 #[.pointer (some ⟨br,0,none⟩),.int .u64 256] w' fun e w2=>e=.returned (.int .i64 (ct:Int))/\RdAt B br r4 w2/\w'.grownBy w2 (some br):=fun w' h'=>by
    have:=rnumber_any B br 256 (by omega) r3 w' h'
    rw [e4] at this
    exact this
  rw [e4] at hnn ⊢
  simp only at hnn ⊢
  obtain ⟨b5,r5,e5⟩:∃ s x,blockOf (stP f) (deep+1) r4=(s,x):=⟨_,_,rfl⟩
  have B5:∀ w',RdAt B br r4 w'->Calls Tryz.prog 61 #[.pointer (some ⟨br,0,none⟩),.int .i64 ((deep:Int)+1)] w' fun e w2=>∃ v,e=.returned v/\Stms w'.heap.size w2.heap.size w2 (fun v' s'=>SRep w'.heap.size w2.heap.size w2 bigM (f+1) v' s') v b5/\RdAt B br r5 w2/\w'.grownBy w2 (some br):=fun w' h'=>by
    have:=ih B br (deep+1) r4 w' h' (by omega)
    rw [e5] at this
    exact this
  rw [e5]
  simp only
  have HN:Hid (fitS1 ⟨4,bstr nm,[],(ct:Int),b5,[],(r.here.at_:Int)⟩):=⟨by show (bstr nm).size<=65536;rw [bstr_size];exact hnm,by show (0:Int)<=ct;omega,by show (ct:Int)<=256;omega,by simp⟩
  have hdd:deep<=40:=by omega
  clear hW hG hz hf h hk e3 e4 e5 hd hnm hnn
  generalize r.here=T at *
  go_enter Tryz.func89,Tryz.ntmps89
  go_wp2_with (first
    | (go_at_call 61;refine (B5 _ st4.out.1).mono ?_;rintro e w5 ⟨v5,rfl,S5,h5,g5⟩;obtain ⟨ao5,cap5,rfl⟩:=stms_slice S5;have f5:=st4.out.on h5 g5;obtain ⟨x1,x2,x3,x4,x5,x6,hc4⟩:=st4.out.cells;have hlb4:=heap_lt hc4;have st9:=Lib.hid (f5.body (Nat.le_refl _) (ss:=b5) ⟨_,_,hlb4,Nat.le_refl _,S5⟩);obtain ⟨x1,x2,x3,x4,x5,x6,hc5⟩:=f5.cells;obtain ⟨k0,k1,k2,k3,k4,k5,k6⟩:=stmt_cells hc5;have fz5:=Lib.frozen_of_heap hc5 4;have hl5:=heap_lt hc5;have u9:=u2.out.on st9.out.1 st9.out.2.1;obtain ⟨y1,y2,y3,y4,y5,y6,hcc⟩:=st9.out.cells;obtain ⟨c0,c1,c2,c3,c4,c5,c6⟩:=stmt_cells hcc;have hl9:=heap_lt hcc;have z9:=u9.2.2.1;have hz9:=heap_lt z9;obtain ⟨d0,d1,d2,d3,d4,d5,d6⟩:=box7_free z9;obtain ⟨i0,i1,i2,i3,i4,i5,i6⟩:=stmt_cells z9)
    | (go_at_call 120;refine (N4 _ st3.out.1).mono ?_;rintro e w4 ⟨rfl,h4,g4⟩;have f4:=st3.out.on h4 g4;obtain ⟨x1,x2,x3,x4,x5,x6,hc4⟩:=f4.cells;obtain ⟨k0,k1,k2,k3,k4,k5,k6⟩:=stmt_cells hc4;have fz4:=Lib.frozen_of_heap hc4 3;have hl4:=heap_lt hc4;have st4:=Lib.hid (f4.count (Nat.le_refl _) (ct:Int)))
    | (go_at_call 87;refine (N3 _ st2.out.1).mono ?_;rintro e w3 ⟨rfl,h3,g3⟩;have f3:=(st2.out.on h3 g3).full (f+1) rfl rfl;obtain ⟨x1,x2,x3,x4,x5,x6,hc3⟩:=f3.cells;obtain ⟨k0,k1,k2,k3,k4,k5,k6⟩:=stmt_cells hc3;have fz3:=Lib.frozen_of_heap hc3 1;have hl3:=heap_lt hc3;have st3:=Lib.hid (f3.name (Nat.le_refl _) (bstr nm)))
    | (go_at_call 119;refine (F _ u1.out.1).mono ?_;rintro e w2 ⟨rfl,h2,g2⟩;have u2:=Lib.hid (u1.out.on h2 g2);obtain ⟨t0,t1,t2,t3⟩:=four_tok u2.out.2.2.2;have hz2:=heap_lt u2.out.2.2.1;have hz3:=heap_lt u2.out.2.2.2;have st2:=Lib.hid (ss_box (k:=4) (a:=(T.at_:Int)) u2.out.1);have hlb:Hid (w.heap.size<w2.heap.size):=hz2)
    | (go_at_call 121;refine hsk.mono ?_;rintro e w1 ⟨rfl,hb1⟩;have u1:=HU _ hb1)
    | (go_at_call 59;refine hh.mono ?_;rintro e w' ⟨rfl,rfl⟩))
  have hP:=put7_heap z9 (.int .i64 4) (.string (bstr nm)) (.slice y1 0 y2) (.int .i64 (ct:Int)) (.slice y3 b5.length y4) (.slice y5 0 y6) (.int .i64 (T.at_:Int))
  obtain ⟨q0,q1,q2,q3,q4,q5,q6⟩:=stmt_cells hP
  exact bodyPost_ret (v:=.agg #[.int .i64 4,.string (bstr nm),.slice y1 0 y2,.int .i64 (ct:Int),.slice y3 b5.length y4,.slice y5 0 y6,.int .i64 (T.at_:Int)]) (by simp [results,Tryz.results89,go_sem,q0,q1,q2,q3,q4,q5,q6]) rfl
    (ss_end (s:=⟨4,bstr nm,[],(ct:Int),b5,[],(T.at_:Int)⟩) st9.out u9 hlb.out hcc HN.out)
theorem st_step {f:Nat} (ih:RBlC f):RStC (f+1):=by
  intro B br deep r w h hd
  show Calls Tryz.prog 89 _ w (Sde B br (f+2) w (stmtOf (blockOf (stP f)) deep r))
  unfold stmtOf
  cases hk:kindP r.here with
  | none=>exact ss_none B br deep r w h (f+1) hk
  | some k=>
    simp only
    rw [if_neg (by omega)]
    have kk:k=0\/k=1\/k=3\/k=4\/k=5\/k=6\/k=7\/k=8\/k=9:=by
     rw [kindP_some] at hk
     (repeat' split at hk) <;> simp_all
    rcases kk with rfl | rfl | rfl | rfl | rfl | rfl | rfl | rfl | rfl
    · exact ss_k0 B br deep r w h (f+1) hk (by omega)
    · cases hi:r.next.is [91] with
      | true=>exact ss_k1_yes B br deep r w h (f+1) hk (by omega) hi
      | false=>exact ss_k1_no B br deep r w h (f+1) hk (by omega) hi
    · exact ss_if B br deep r w h ih hk (by omega)
    · exact ss_loop B br deep r w h ih hk (by omega)
    · exact ss_k5 B br deep r w h (f+1) hk (by omega)
    · exact ss_k6 B br deep r w h (f+1) hk (by omega)
    · exact ss_k7 B br deep r w h (f+1) hk (by omega)
    · exact ss_k8 B br deep r w h (f+1) hk (by omega)
    · exact ss_k9 B br deep r w h (f+1) hk (by omega)
theorem st_zero:RStC 0:=by
  intro B br deep r w h hd
  show Calls Tryz.prog 89 _ w (Sde B br (0+1) w (stm0,if (kindP r.here).isNone then r.fail 2 else r.fail 6))
  cases hk:kindP r.here with
  | none=>exact ss_none B br deep r w h 0 hk
  | some k=>exact ss_deep B br deep r w h 0 k hk (by omega) (by omega)
end Go.Proofs.YtlepckjmdjjolaaGreatDoor.Pr
