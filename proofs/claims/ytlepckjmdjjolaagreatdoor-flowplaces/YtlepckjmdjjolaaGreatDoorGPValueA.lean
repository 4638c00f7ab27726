/- Own texts laid together: PRow, PValue, PStmtA, PSimple, PStmtB. Conditions: as each theorem says. -/
import Derived.Test.YtlepckjmdjjolaaGreatDoorGPUnaryA
set_option maxHeartbeats 4000000
set_option maxRecDepth 100000
set_option linter.unusedVariables false
set_option linter.unusedSimpArgs false
namespace Go.Proofs.YtlepckjmdjjolaaGreatDoor.Pr
open Go.ChangeShapes Go.WideShapes Go.ChangeAt Go.RowKit
open Lx (Tok)
def bigM:Nat:=70000
def Cells6 (xs:List Value) (i:Nat) (u:Value):Prop:=
 ∃ c0 c1 c2 c3 c4 c5,xs[i*6]?=some c0/\xs[i*6+1]?=some c1/\xs[i*6+2]?=some c2/\xs[i*6+3]?=some c3/\xs[i*6+4]?=some c4/\xs[i*6+5]?=some c5/\u=.agg #[c0,c1,c2,c3,c4,c5]
theorem cells6_left {xs ys:List Value} {i:Nat} {u:Value} (h:Cells6 xs i u):Cells6 (xs++ys) i u:=by
 obtain ⟨c0,c1,c2,c3,c4,c5,e0,e1,e2,e3,e4,e5,rfl⟩:=h
 have key:∀ {j:Nat} {c:Value},xs[j]?=some c->(xs++ys)[j]?=some c:=fun {j c} h=>by
    rw [List.getElem?_append_left (List.getElem?_eq_some_iff.1 h).1];exact h
 exact ⟨c0,c1,c2,c3,c4,c5,key e0,key e1,key e2,key e3,key e4,key e5,rfl⟩
theorem cells6_last {xs:List Value} {n:Nat} (hl:xs.length=n*6) (c0 c1 c2 c3 c4 c5:Value):Cells6 (xs++[c0,c1,c2,c3,c4,c5]) n (.agg #[c0,c1,c2,c3,c4,c5]):=by
 have key:∀ (j:Nat) (c:Value),[c0,c1,c2,c3,c4,c5][j]?=some c->(xs++[c0,c1,c2,c3,c4,c5])[n*6+j]?=some c:=fun j c h=>by
    rw [List.getElem?_append_right (by omega),show n*6+j-xs.length=j by omega];exact h
 exact ⟨c0,c1,c2,c3,c4,c5,key 0 _ rfl,key 1 _ rfl,key 2 _ rfl,key 3 _ rfl,key 4 _ rfl,key 5 _ rfl,rfl⟩
def Elems (lo:Nat) (w:World) (own:Option Nat) (xs:List Value) (es:List Tree):Prop:=
 ∀ (i:Nat) (e:Tree),es[i]?=some e->∃ p q u,Cells6 xs i u/\lo<=p/\q<=w.heap.size/\(∀ g,own=some g->g<p\/q<=g)/\ERep p q w bigM u e
def ExRow (lo:Nat) (w:World) (v:Value) (es:List Tree):Prop:=
 ∃ xs,w.ownsRow lo 50 6 v es.length xs/\lo<=w.heap.size/\Elems lo w v.ownBlock xs es
theorem ExRow.nil {lo:Nat} {w:World} (h:lo<=w.heap.size):ExRow lo w (.slice none 0 0) []:=⟨[],World.ownsRow_nil _ _ _ _,h,fun i s hs=>by simp at hs⟩
theorem Elems.same {lo:Nat} {w w':World} {own:Option Nat} {xs:List Value} {es:List Tree} (h:Elems lo w own xs es) (hz:w.heap.size<=w'.heap.size) (ht:TSame 50 w w'):Elems lo w' own xs es:=fun i e he=>by
 obtain ⟨p,q,u,a,b,c,d,E⟩:=h i e he
 exact ⟨p,q,u,a,b,by omega,d,E.carry (Nat.le_refl _) (Nat.le_refl _) (ht.s35 p q)⟩
theorem ExRow.same {lo:Nat} {w w':World} {v:Value} {es:List Tree} (h:ExRow lo w v es) (hz:w.heap.size<=w'.heap.size) (ht:TSame 50 w w'):ExRow lo w' v es:=by
 obtain ⟨xs,ho,hl,hr⟩:=h
 exact ⟨xs,own_same ho ht,by omega,hr.same hz ht⟩
theorem ExRow.kids {lo:Nat} {w:World} {v:Value} {es:List Tree} (h:ExRow lo w v es) (hlen:es.length<=4294967296):Kids lo w.heap.size w (fun v t=>ERep lo w.heap.size w bigM v t) v es:=by
 obtain ⟨xs,ho,hl,hr⟩:=h
 rcases ho.2 with ⟨rfl,h0⟩ | ⟨g,cap,cur,rfl,hb,hgg,rest⟩
 · rw [List.length_eq_zero_iff.1 h0];exact kids0
 · refine ⟨_,cap,rfl,⟨hlen,rest.1⟩,fun i s hs=>?_⟩
   obtain ⟨a,b,u,⟨c0,c1,c2,c3,c4,c5,e0,e1,e2,e3,e4,e5,rfl⟩,ha,hb',hg,hS⟩:=hr i s hs
   have key:∀ j u,xs[j]?=some u->w.cell? ⟨g,0+j,none⟩=some u:=fun j u hu=>by
    have:=World.ownsRow.cells ho (g:=g) rfl j u hu
    rw [Lib.add_plain] at this
    exact this
   have key':∀ j r u,xs[j+r]?=some u->w.cell? ⟨g,0+j+r,none⟩=some u:=fun j r u hu=>by rw [Nat.add_assoc];exact key _ _ hu
   exact ⟨g,0,c0,c1,c2,c3,c4,c5,rfl,hb,heap_lt hgg,⟨_,_,hgg⟩,key _ _ e0,key' _ _ _ e1,key' _ _ _ e2,key' _ _ _ e3,key' _ _ _ e4,key' _ _ _ e5,hS.carry ha hb' (fun _ _ _ _ _ h=>h)⟩
@[reducible] def putAt (w:World) (g o:Nat) (u0 u1 u2 u3 u4 u5:Value):World:=
  (((((w.setCell ⟨g,o,none⟩ u0).setCell ⟨g,o+1,none⟩ u1).setCell ⟨g,o+2,none⟩ u2).setCell ⟨g,o+3,none⟩ u3).setCell ⟨g,o+4,none⟩ u4).setCell ⟨g,o+5,none⟩ u5
theorem putAt_heap {w:World} {g o:Nat} {cs:Array Value} {t:TypeId} {fr:Nat × Nat} (h:w.heap[g]?=some (.cells cs t fr)) (u0 u1 u2 u3 u4 u5:Value):
    (putAt w g o u0 u1 u2 u3 u4 u5).heap[g]?=some (.cells ((((((cs.setIfInBounds o u0).setIfInBounds (o+1) u1).setIfInBounds (o+2) u2).setIfInBounds (o+3) u3).setIfInBounds (o+4) u4).setIfInBounds (o+5) u5) t fr):=
  set_heap (set_heap (set_heap (set_heap (set_heap (set_heap h _ u0) _ u1) _ u2) _ u3) _ u4) _ u5
theorem putAt_grown (w:World) (g o:Nat) (u0 u1 u2 u3 u4 u5:Value):w.grownBy (putAt w g o u0 u1 u2 u3 u4 u5) (some g):=
  grownBy_trans (grownBy_trans (grownBy_trans (grownBy_trans (grownBy_trans (set_grown _ _ _ _) (set_grown _ _ _ _)) (set_grown _ _ _ _)) (set_grown _ _ _ _)) (set_grown _ _ _ _)) (set_grown _ _ _ _)
theorem putAt_size (w:World) (g o:Nat) (u0 u1 u2 u3 u4 u5:Value):(putAt w g o u0 u1 u2 u3 u4 u5).heap.size=w.heap.size:=by simp [putAt,World.setCell]
theorem own_putAt {w:World} {lo g n cap:Nat} {e:TypeId} {xs:List Value} {o0 o1 o2 o3 o4 o5:Value} (h:w.ownsRow lo e 6 (.slice (some ⟨g,0,none⟩) (n+1) cap) (n+1) (xs++[o0,o1,o2,o3,o4,o5])) (u0 u1 u2 u3 u4 u5:Value):
    (putAt w g (n*6) u0 u1 u2 u3 u4 u5).ownsRow lo e 6 (.slice (some ⟨g,0,none⟩) (n+1) cap) (n+1) (xs++[u0,u1,u2,u3,u4,u5]):=by
  obtain ⟨hl,h2⟩:=h
  rcases h2 with ⟨h,_⟩ | ⟨g',cap',cur,hv,hb,hg,hn,hc,hs,ht⟩
  · cases h
  cases hv
  have hxl:xs.length=n*6:=by simp at hl;omega
  refine ⟨by simp at hl ⊢;omega,.inr ⟨g,cap,_,rfl,hb,putAt_heap hg _ _ _ _ _ _,hn,hc,by simp;exact hs,?_⟩⟩
  simp only [Array.toList_setIfInBounds,List.take_set,ht]
  rw [<- hxl]
  simp [List.set_append]
theorem infoExpr:(Tryz.prog.info? 50).map (fun i=>(i.zero,i.size,i.bytes))=some (some (.agg #[.int .i64 0,.int .i64 0,.string ⟨#[]⟩,.int .u64 0,.slice none 0 0,.int .i64 0]),6,72):=by kernel_rfl
theorem hown_lt {lo:Nat} {w:World} {v:Value} {es:List Tree} (h:ExRow lo w v es) {k:Nat} (hk:v.ownBlock=some k):k<w.heap.size:=by
  obtain ⟨xs,ho,_⟩:=h
  exact (ho.lt k hk).2
def StV (B br:Nat) (w0:World) (sb:Nat) (s:Stm) (rr:Rd) (w:World):Prop:=
  RdAt B br rr w/\w0.grownBy w (some br)/\∃ eao ecap,w.heap[sb]?=some (.cells #[.int .i64 s.kind,.string s.name,.slice eao s.exprs.length ecap,.int .i64 s.count,.slice none 0 0,.slice none 0 0,.int .i64 s.at_] 45 (0,0))/\ExRow w0.heap.size w (.slice eao s.exprs.length ecap) s.exprs
structure VG where
  v:Value
  q:Nat
  g:Nat
  cap:Nat
def valV (br sb deep:Nat) (eao:Option Addr) (n ecap:Nat) (g:VG):Nat->Value
  | 0=>.pointer (some ⟨sb,0,none⟩)
  | 1=>.pointer (some ⟨sb,0,none⟩)
  | 2=>.pointer (some ⟨sb,2,none⟩)
  | 3=>.slice eao n ecap
  | 4=>.pointer (some ⟨br,0,none⟩)
  | 5=>.int .i64 (deep:Int)
  | 6=>.int .i64 ((deep:Int)+1)
  | 7=>g.v
  | 8=>.int .i64 (n:Int)
  | 9=>.slice (some ⟨g.q,0,none⟩) 1 1
  | 10=>.slice (some ⟨g.g,0,none⟩) (n+1) g.cap
  | 11=>.pointer (some ⟨g.g,n*6,none⟩)
  | 13=>.pointer (some ⟨sb,0,none⟩)
  | 14=>.pointer (some ⟨sb,2,none⟩)
  | _=>undef
def stO (s:Stm) (ev:Value):Obj:=.cells #[.int .i64 s.kind,.string s.name,ev,.int .i64 s.count,.slice none 0 0,.slice none 0 0,.int .i64 s.at_] 45 (0,0)
def valInv (B br:Nat) (w0:World) (sb:Nat) (s:Stm) (eao:Option Addr) (ecap:Nat) (r0 r1:Rd) (t:Tree) (L:Nat->Bool) (g:VG) (w:World):Prop:=
  (L 10=false->(RdAt B br (if L 7=true then r1 else r0) w/\w0.grownBy w (some br)/\w.heap[sb]?=some (stO s (.slice eao s.exprs.length ecap))/\ExRow w0.heap.size w (.slice eao s.exprs.length ecap) s.exprs) /\
    (L 7=true->∃ p q,w0.heap.size<=p/\q<=w.heap.size/\ERep p q w bigM g.v t/\∀ k,(Value.slice eao s.exprs.length ecap).ownBlock=some k->k<p\/q<=k) /\
    (L 9=true->w.heap[g.q]?=some zeroE/\w0.heap.size<=g.q/\∀ k,(Value.slice eao s.exprs.length ecap).ownBlock=some k->k≠g.q)) /\
  (L 10=true->RdAt B br r1 w/\w0.grownBy w (some br)/\w.heap[sb]?=some (stO s (if L 15=true then .slice (some ⟨g.g,0,none⟩) (s.exprs.length+1) g.cap else .slice eao s.exprs.length ecap)) /\
    ∃ xs last,w.ownsRow w0.heap.size 50 6 (.slice (some ⟨g.g,0,none⟩) (s.exprs.length+1) g.cap) (s.exprs.length+1) (xs++last)/\xs.length=s.exprs.length*6/\last.length=6/\Elems w0.heap.size w (some g.g) xs s.exprs /\
      ∃ p q,w0.heap.size<=p/\q<=w.heap.size/\ERep p q w bigM g.v t/\(∀ k,some g.g=some k->k<p\/q<=k)/\(L 12=true->∃ c0 c1 c2 c3 c4 c5,last=[c0,c1,c2,c3,c4,c5]/\g.v=.agg #[c0,c1,c2,c3,c4,c5]))
theorem value_any (B br:Nat) (w0:World) (sb deep:Nat) (s:Stm) (rr:Rd) (w:World) (h:StV B br w0 sb s rr w) (hsb0:w0.heap.size<=sb) (hne:s.exprs.length<=10) (hd:deep<=40):
    Calls Tryz.prog 143 #[.pointer (some ⟨br,0,none⟩),.pointer (some ⟨sb,0,none⟩),.int .i64 (deep:Int)] w fun e w'=>e=.returned (.tuple #[])/\StV B br w0 sb (valueP deep s rr).1 (valueP deep s rr).2 w':=by
  obtain ⟨t,r1,e1⟩:∃ t x,exprP (40-deep) 0 (deep+1) rr=(t,x):=⟨_,_,rfl⟩
  have ev:valueP deep s rr=({ s with exprs:=s.exprs++[t] },r1):=by unfold valueP;rw [e1]
  rw [ev]
  have X:∀ w',RdAt B br rr w'->Calls Tryz.prog 162 #[.pointer (some ⟨br,0,none⟩),.int .i64 0,.int .i64 ((deep:Int)+1)] w' (Mde B br w' rr (t,r1)):=fun w' h'=>by
    have:=(ex_all (40-deep)).1 B br 0 (deep+1) rr w' h' (by omega) (by omega)
    rw [e1] at this
    exact this
  obtain ⟨hR,hG,eao,ecap,hb,hrow⟩:=h
  have hgap:gap rr r1<=bigM:=by have:=hR.2.2.1;unfold gap bigM;omega
  clear ev e1
  go_enter Tryz.func143,Tryz.ntmps143
  go_wp2
  refine wp_region_slots (by kernel_rfl) (by kernel_rfl) (by kernel_rfl) (by kernel_rfl) (valV br sb deep eao s.exprs.length ecap) (valInv B br w0 sb s eao ecap rr r1 t) ⟨undef,0,0,0⟩ ⟨(fun _=>⟨⟨hR.drew,grown_drew hG,hb,hrow.same (Nat.le_refl _) (fun _ _ _ h=>h)⟩,(fun e=>by cases e),(fun e=>by cases e)⟩),(fun e=>by cases e)⟩ ?_ ?_
  · intro L g a wr i op hop hLi hpre hC hI hS K hK
    have s0:a.tmps[0]?.getD undef=.pointer (some ⟨br,0,none⟩):=(hS.old2 0 (by kernel_rfl)).trans rfl
    have s1:a.tmps[1]?.getD undef=.pointer (some ⟨sb,0,none⟩):=(hS.old2 1 (by kernel_rfl)).trans rfl
    have s2:a.tmps[2]?.getD undef=.int .i64 (deep:Int):=(hS.old2 2 (by kernel_rfl)).trans rfl
    have same:valInv B br w0 sb s eao ecap rr r1 t L g wr->i≠7->i≠9->i≠10->i≠12->i≠15->valInv B br w0 sb s eao ecap rr r1 t (fun j=>if j=i then true else L j) g wr:=fun h a b c d e=>by
     unfold valInv at h ⊢
     simp only [show ¬ (7=i) from fun e=>a e.symm,show ¬ (9=i) from fun e=>b e.symm,show ¬ (10=i) from fun e=>c e.symm,show ¬ (12=i) from fun e=>d e.symm,show ¬ (15=i) from fun h=>e h.symm,if_false]
     exact h
    match i with
    | 0=>
      obtain rfl:=Option.some.inj hop
      go_simp
      exact hK _ _ ⟨g,fun _=>rfl,fun _ _ _=>rfl,same hI (by decide) (by decide) (by decide) (by decide) (by decide)⟩
    | 1=>
      obtain rfl:=Option.some.inj hop
      have n:=hS.new2 0 6 (by kernel_rfl) (pre_at hpre 0 (by kernel_rfl)) (show 6<20 by decide)
      simp only [valV] at n
      go_simp
      exact hK _ _ ⟨g,fun _=>rfl,fun _ _ _=>rfl,same hI (by decide) (by decide) (by decide) (by decide) (by decide)⟩
    | 2=>
      obtain rfl:=Option.some.inj hop
      have n:=hS.new2 1 7 (by kernel_rfl) (pre_at hpre 1 (by kernel_rfl)) (show 7<20 by decide)
      simp only [valV] at n
      go_simp
      exact hK _ _ ⟨g,fun _=>rfl,fun _ _ _=>rfl,same hI (by decide) (by decide) (by decide) (by decide) (by decide)⟩
    | 3=>
      obtain rfl:=Option.some.inj hop
      have n:=hS.new2 2 8 (by kernel_rfl) (pre_at hpre 2 (by kernel_rfl)) (show 8<20 by decide)
      simp only [valV] at n
      have no10:L 10=false:=by cases h:L 10 with | false=>rfl | true=>exact absurd (hC.at 10 3 (by kernel_rfl) h) (by simp [hLi])
      obtain ⟨⟨_,_,hsb,_⟩,_⟩:=hI.1 no10
      obtain ⟨c0,c1,c2,c3,c4,c5,c6⟩:=stmt_cells hsb
      have hlt:=heap_lt hsb
      go_simp
      exact hK _ _ ⟨g,fun _=>rfl,fun _ _ _=>rfl,same hI (by decide) (by decide) (by decide) (by decide) (by decide)⟩
    | 4=>
      obtain rfl:=Option.some.inj hop
      go_simp
      exact hK _ _ ⟨g,fun _=>rfl,fun _ _ _=>rfl,same hI (by decide) (by decide) (by decide) (by decide) (by decide)⟩
    | 5=>
      obtain rfl:=Option.some.inj hop
      go_simp
      exact hK _ _ ⟨g,fun _=>rfl,fun _ _ _=>rfl,same hI (by decide) (by decide) (by decide) (by decide) (by decide)⟩
    | 6=>
      obtain rfl:=Option.some.inj hop
      have n:=hS.new2 5 11 (by kernel_rfl) (pre_at hpre 5 (by kernel_rfl)) (show 11<20 by decide)
      simp only [valV] at n
      go_simp
      exact hK _ _ ⟨g,fun _=>by rw [wrap_deep deep hd];rfl,fun _ _ _=>rfl,same hI (by decide) (by decide) (by decide) (by decide) (by decide)⟩
    | 7=>
      obtain rfl:=Option.some.inj hop
      have n:=hS.new2 4 10 (by kernel_rfl) (pre_at hpre 4 (by kernel_rfl)) (show 10<20 by decide)
      have m:=hS.new2 6 12 (by kernel_rfl) (pre_at hpre 6 (by kernel_rfl)) (show 12<20 by decide)
      simp only [valV] at n m
      have no10:L 10=false:=by cases h:L 10 with | false=>rfl | true=>exact absurd (hC.at 10 7 (by kernel_rfl) h) (by simp [hLi])
      have no12:L 12=false:=by cases h:L 12 with | false=>rfl | true=>exact absurd (hC.at 12 7 (by kernel_rfl) h) (by simp [hLi])
      obtain ⟨hb,_,h9⟩:=hI.1 no10
      rw [hLi] at hb
      go_simp
      go_at_call 162
      refine (X wr hb.1).mono ?_
      rintro e w3 ⟨v3,rfl,E3,h3,g3⟩
      go_simp
      have hz3:=g3.size
      have hEE:=E3.up (m:=bigM) hgap
      have hkeep:∀ {k:Nat} {cs:Array Value} {t:TypeId} {fr:Nat × Nat},wr.heap[k]?=some (.cells cs t fr)->t≠85->w3.heap[k]?=some (.cells cs t fr):=fun hk ht=>hb.1.heap g3 hk ht
      have ht6:TSame 50 wr w3:=fun k cs fr hk=>hkeep hk (by decide)
      refine hK _ _ ⟨{ g with v:=v3 },fun _=>rfl,fun j hj hLj=>?_,(fun _=>⟨⟨h3,grownBy_trans hb.2.1 g3,hkeep hb.2.2.1 (by decide),hb.2.2.2.same hz3 ht6⟩,(fun _=>⟨wr.heap.size,w3.heap.size,hb.2.1.size,Nat.le_refl _,hEE,fun k hk=>.inl (hown_lt hb.2.2.2 hk)⟩),(fun e=>?_)⟩),(fun e=>by simp only [show ¬ (10=7) by decide,if_false,no10] at e;cases e)⟩
      · unfold valV
        split <;> first | rfl | exact absurd rfl hj
      · have h9':=h9 (by simpa using e)
        exact ⟨hkeep h9'.1 (by decide),h9'.2⟩
    | 8=>
      obtain rfl:=Option.some.inj hop
      have n:=hS.new2 3 9 (by kernel_rfl) (pre_at hpre 3 (by kernel_rfl)) (show 9<20 by decide)
      simp only [valV] at n
      go_simp
      exact hK _ _ ⟨g,fun _=>rfl,fun _ _ _=>rfl,same hI (by decide) (by decide) (by decide) (by decide) (by decide)⟩
    | 9=>
      obtain rfl:=Option.some.inj hop
      have no10:L 10=false:=by cases h:L 10 with | false=>rfl | true=>exact absurd (hC.at 10 9 (by kernel_rfl) h) (by simp [hLi])
      obtain ⟨hb,h7,_⟩:=hI.1 no10
      go_simp
      have ha:TSame 50 wr (wr.alloc zeroE):=TSame.alloc _ _ _
      refine hK _ _ ⟨{ g with q:=wr.heap.size },fun _=>rfl,fun j hj hLj=>?_,(fun _=>⟨⟨hb.1.alloc _,grown_alloc hb.2.1 _,alloc_keep hb.2.2.1 _,hb.2.2.2.same (by rw [alloc_size];omega) ha⟩,(fun e=>?_),(fun _=>⟨zeroE_at wr,hb.2.1.size,fun k hk=>by have:=hown_lt hb.2.2.2 hk;show k≠wr.heap.size;omega⟩)⟩),(fun e=>by simp only [show ¬ (10=9) by decide,if_false,no10] at e;cases e)⟩
      · unfold valV
        split <;> first | rfl | exact absurd rfl hj
      · obtain ⟨p,q,a1,a2,a3,a4⟩:=h7 (by simpa using e)
        exact ⟨p,q,a1,by rw [alloc_size];omega,a3.carry (Nat.le_refl _) (Nat.le_refl _) (ha.s35 p q),a4⟩
    | 10=>
      obtain rfl:=Option.some.inj hop
      have l7:=pre_at hpre 7 (by kernel_rfl)
      have l9:=pre_at hpre 9 (by kernel_rfl)
      have m3:=hS.new 3 9 (by kernel_rfl) (pre_at hpre 3 (by kernel_rfl)) (show 9<20 by decide)
      have m9:=hS.new 9 15 (by kernel_rfl) l9 (show 15<20 by decide)
      simp only [valV] at m3 m9
      have no12:L 12=false:=by cases h:L 12 with | false=>rfl | true=>exact absurd (hC.at 12 10 (by kernel_rfl) h) (by simp [hLi])
      have no15:L 15=false:=by cases h:L 15 with | false=>rfl | true=>exact absurd (hC.at 15 10 (by kernel_rfl) h) (by simp [hLi])
      have no11:L 11=false:=by cases h:L 11 with | false=>rfl | true=>exact absurd (hC.at 11 10 (by kernel_rfl) h) (by simp [hLi])
      obtain ⟨⟨hR,hG,hsb,hrow⟩,h7,h9⟩:=hI.1 hLi
      rw [l7] at hR
      obtain ⟨p,q,a1,a2,a3,a4⟩:=h7 l7
      obtain ⟨b1,b2,b3⟩:=h9 l9
      obtain ⟨xs,hown,hlo,hel⟩:=hrow
      obtain ⟨i0,hi,hz0,hz1,hz2⟩:=info_parts infoExpr
      refine wp_append_lies wr (.tmp 9) (.tmp 15) 43 (by rfl) w0.heap.size 50 i0 _ 6 72 Tryz.underlying43 hi hz0 hz1 hz2 rfl (by omega) _ s.exprs.length xs m3 hown ⟨g.q,0,none⟩ 1 1 [.int .i64 0,.int .i64 0,.string ⟨#[]⟩,.int .u64 0,.slice none 0 0,.int .i64 0] m9 (by simp) (World.news_of_block b1) (by simp [Value.oneCell']) (by omega) (by unfold maxLen;omega) (by omega) hlo _ rfl ?_
      intro gg cap w1 hown1 hgrow hat hlt
      have hz1':=hgrow.size
      have hne:∀ k,(Value.slice eao s.exprs.length ecap).ownBlock=some k->w0.heap.size<=k:=fun k hk=>(hown.lt k hk).1
      have tk:∀ t:TypeId,t≠50->TSame t wr w1:=fun t h1=>TSame.of_row hown hgrow h1
      have hfar:∀ (k:Nat) (o:Obj),(Value.slice eao s.exprs.length ecap).ownBlock≠some k->wr.heap[k]?=some o->w1.heap[k]?=some o:=fun k o hk hc=>(hgrow.block k (heap_lt hc) (fun e=>hk e.symm)).trans hc
      have nfar:∀ (p q:Nat),q<=wr.heap.size->(∀ k,(Value.slice eao s.exprs.length ecap).ownBlock=some k->k<p\/q<=k)->(∀ k,(Value.slice (some ⟨gg,0,none⟩) (s.exprs.length+1) cap).ownBlock=some k->k<p\/q<=k):=fun p q hq h k hk=>by
        have:gg=k:=by simpa [Value.ownBlock] using hk
        subst this
        rcases hat with h' | h'
        · exact h gg h'
        · right;omega
      have s35:∀ (p q:Nat),(∀ k,(Value.slice eao s.exprs.length ecap).ownBlock=some k->k<p\/q<=k)->Same35 p q wr w1:=fun p q h k cs fr h1 h2 hc=>hfar k _ (fun e=>by rcases h k e with h' | h' <;> omega) hc
      have hG1:w0.grownBy w1 (some br):=⟨hgrow.os.trans hG.os,hgrow.tape.trans hG.tape,hgrow.output.trans hG.output,by have:=hG.size;omega,fun k hk hkr=>(hgrow.block k (by have:=hG.size;omega) (fun e=>by have:=hne k e.symm;omega)).trans (hG.block k hk hkr)⟩
      refine hK _ _ ⟨{ g with g:=gg,cap:=cap },fun _=>rfl,fun j hj hLj=>?_,(fun e=>by simp only [if_true] at e;cases e),(fun _=>⟨hR.keep fun k cs t fr hk ht=>hgrow.block k (heap_lt hk) (fun e=>?_),hG1,?_,xs,[.int .i64 0,.int .i64 0,.string ⟨#[]⟩,.int .u64 0,.slice none 0 0,.int .i64 0],hown1,hown.1,rfl,fun i e he=>?_,p,q,a1,by omega,a3.carry (Nat.le_refl _) (Nat.le_refl _) (s35 p q a4),nfar p q a2 a4,(fun e=>by simp only [show ¬ (12=10) by decide,if_false,no12] at e;cases e)⟩)⟩
      · unfold valV
        split <;> first | rfl | exact absurd rfl hj | (rw [no11] at hLj;cases hLj)
      · rcases hown.2 with ⟨he,_⟩ | ⟨g',cap',cur,hv,_,hgg,_⟩
        · rw [he] at e;cases e
        · rw [hv] at e
          have:g'=k:=by simpa [Value.ownBlock] using e.symm
          subst this
          rw [hgg] at hk;cases hk;exact notRd ht
      · simp only [show ¬ (15=10) by decide,if_false,no15]
        exact tk _ (by decide) _ _ _ hsb
      · obtain ⟨p',q',u,c1,c2,c3,c4,c5⟩:=hel i e he
        exact ⟨p',q',u,c1,c2,by omega,nfar p' q' c3 c4,c5.carry (Nat.le_refl _) (Nat.le_refl _) (s35 p' q' c4)⟩
    | 11=>
      obtain rfl:=Option.some.inj hop
      have n:=hS.new2 10 16 (by kernel_rfl) (pre_at hpre 10 (by kernel_rfl)) (show 16<20 by decide)
      have m:=hS.new2 8 14 (by kernel_rfl) (pre_at hpre 8 (by kernel_rfl)) (show 14<20 by decide)
      simp only [valV] at n m
      have l10:=pre_at hpre 10 (by kernel_rfl)
      obtain ⟨_,_,_,xs,last,hown,_⟩:=hI.2 l10
      have hii:(s.exprs.length:Int)<(s.exprs.length:Int)+1:=by omega
      go_simp
      exact hK _ _ ⟨g,fun _=>rfl,fun _ _ _=>rfl,same hI (by decide) (by decide) (by decide) (by decide) (by decide)⟩
    | 12=>
      obtain rfl:=Option.some.inj hop
      have l10:=hC.at 11 10 (by kernel_rfl) (pre_at hpre 11 (by kernel_rfl))
      have n:=hS.new2 11 17 (by kernel_rfl) (pre_at hpre 11 (by kernel_rfl)) (show 17<20 by decide)
      have m:=hS.new2 7 13 (by kernel_rfl) (pre_at hpre 7 (by kernel_rfl)) (show 13<20 by decide)
      simp only [valV] at n m
      obtain ⟨hR,hG,hsb,xs,last,hown,hxl,hll,hel,p,q,a1,a2,a3,a4,_⟩:=hI.2 l10
      obtain ⟨ao,kl,cp,hv⟩:=erep_agg a3
      rw [hv] at m a3
      match last,hll with
      | [o0,o1,o2,o3,o4,o5],_=>
      obtain ⟨g',cap',cur,hvv,hbb,hgg,hn,hc,hs6,htk⟩:=(show ∃ g' cap' cur,Value.slice (some ⟨g.g,0,none⟩) (s.exprs.length+1) g.cap=.slice (some ⟨g',0,none⟩) (s.exprs.length+1) cap'/\w0.heap.size<=g'/\wr.heap[g']?=some (.cells cur 50 (0,0))/\s.exprs.length+1<=cap'/\cap'<=maxLen/\cur.size=cap'*6/\_ from by
        rcases hown.2 with ⟨h,_⟩ | h
        · cases h
        · exact h)
      cases hvv
      have hc6:∀ j,j<6->∃ c,wr.cell? ⟨g.g,s.exprs.length*6+j,none⟩=some c:=fun j hj=>by
        refine ⟨cur[s.exprs.length*6+j]'(by omega),?_⟩
        rw [Lib.cell_of_heap hgg]
        simp [show s.exprs.length*6+j<cur.size by omega]
      obtain ⟨x0,k0⟩:=hc6 0 (by omega)
      obtain ⟨x1,k1⟩:=hc6 1 (by omega)
      obtain ⟨x2,k2⟩:=hc6 2 (by omega)
      obtain ⟨x3,k3⟩:=hc6 3 (by omega)
      obtain ⟨x4,k4⟩:=hc6 4 (by omega)
      obtain ⟨x5,k5⟩:=hc6 5 (by omega)
      simp only [Nat.add_zero] at k0
      have f0:=Lib.frozen_of_heap hgg (s.exprs.length*6)
      have f1:=Lib.frozen_of_heap hgg (s.exprs.length*6+1)
      have f2:=Lib.frozen_of_heap hgg (s.exprs.length*6+2)
      have f3:=Lib.frozen_of_heap hgg (s.exprs.length*6+3)
      have f4:=Lib.frozen_of_heap hgg (s.exprs.length*6+4)
      have f5:=Lib.frozen_of_heap hgg (s.exprs.length*6+5)
      have hlt:=heap_lt hgg
      go_simp
      have hpg:=putAt_grown wr g.g (s.exprs.length*6) (.int .i64 t.kind) (.int .i64 t.op) (.string t.name) (.int .u64 t.value) (.slice ao kl cp) (.int .i64 t.at_)
      have hpz:=putAt_size wr g.g (s.exprs.length*6) (.int .i64 t.kind) (.int .i64 t.op) (.string t.name) (.int .u64 t.value) (.slice ao kl cp) (.int .i64 t.at_)
      have s35:∀ (p q:Nat),(∀ k,some g.g=some k->k<p\/q<=k)->Same35 p q wr (putAt wr g.g (s.exprs.length*6) (.int .i64 t.kind) (.int .i64 t.op) (.string t.name) (.int .u64 t.value) (.slice ao kl cp) (.int .i64 t.at_)):=fun p q h k cs fr h1 h2 hc=>(hpg.block k (heap_lt hc) (fun e=>by rcases h k e.symm with h' | h' <;> omega)).trans hc
      have hgk:∀ k,k<w0.heap.size->some k≠some g.g:=fun k hk e=>by simp only [Option.some.injEq] at e;omega
      have hG1:w0.grownBy (putAt wr g.g (s.exprs.length*6) (.int .i64 t.kind) (.int .i64 t.op) (.string t.name) (.int .u64 t.value) (.slice ao kl cp) (.int .i64 t.at_)) (some br):=⟨hpg.os.trans hG.os,hpg.tape.trans hG.tape,hpg.output.trans hG.output,by rw [hpz];exact hG.size,fun k hk hkr=>(hpg.block k (by have:=hG.size;omega) (hgk k hk)).trans (hG.block k hk hkr)⟩
      refine hK undef _ ⟨g,fun e=>absurd rfl e,fun _ _ _=>rfl,(fun e=>by simp only [show ¬ (10=12) by decide,if_false,l10] at e;cases e),(fun _=>⟨hR.step hpg hgg notRd,hG1,?_,xs,[.int .i64 t.kind,.int .i64 t.op,.string t.name,.int .u64 t.value,.slice ao kl cp,.int .i64 t.at_],own_putAt hown _ _ _ _ _ _,hxl,rfl,fun i e he=>?_,p,q,a1,by rw [hpz];exact a2,?_,a4,(fun _=>⟨_,_,_,_,_,_,rfl,hv⟩)⟩)⟩
      · simp only [show ¬ (15=12) by decide,if_false]
        exact (hpg.block sb (heap_lt hsb) (fun e=>by simp only [Option.some.injEq] at e;subst e;rw [hgg] at hsb;cases hsb)).trans hsb
      · obtain ⟨p',q',u,c1,c2,c3,c4,c5⟩:=hel i e he
        exact ⟨p',q',u,c1,c2,by rw [hpz];exact c3,c4,c5.carry (Nat.le_refl _) (Nat.le_refl _) (s35 p' q' c4)⟩
      · rw [hv];exact a3.carry (Nat.le_refl _) (Nat.le_refl _) (s35 p q a4)
    | 13=>
      obtain rfl:=Option.some.inj hop
      have n:=hS.new2 0 6 (by kernel_rfl) (pre_at hpre 0 (by kernel_rfl)) (show 6<20 by decide)
      simp only [valV] at n
      go_simp
      exact hK _ _ ⟨g,fun _=>rfl,fun _ _ _=>rfl,same hI (by decide) (by decide) (by decide) (by decide) (by decide)⟩
    | 14=>
      obtain rfl:=Option.some.inj hop
      have n:=hS.new2 13 18 (by kernel_rfl) (pre_at hpre 13 (by kernel_rfl)) (show 18<20 by decide)
      simp only [valV] at n
      go_simp
      exact hK _ _ ⟨g,fun _=>rfl,fun _ _ _=>rfl,same hI (by decide) (by decide) (by decide) (by decide) (by decide)⟩
    | 15=>
      obtain rfl:=Option.some.inj hop
      have l10:=pre_at hpre 10 (by kernel_rfl)
      have n:=hS.new2 14 19 (by kernel_rfl) (pre_at hpre 14 (by kernel_rfl)) (show 19<20 by decide)
      have m:=hS.new2 10 16 (by kernel_rfl) (pre_at hpre 10 (by kernel_rfl)) (show 16<20 by decide)
      simp only [valV] at n m
      obtain ⟨hR,hG,hsb,hrest⟩:=hI.2 l10
      rw [hLi] at hsb
      simp only [Bool.false_eq_true,if_false] at hsb
      obtain ⟨c0,c1,c2,c3,c4,c5,c6⟩:=stmt_cells hsb
      have f2:=Lib.frozen_of_heap hsb 2
      have hlt:=heap_lt hsb
      go_simp
      obtain ⟨xs,last,hown,hxl,hll,hel,p,q,a1,a2,a3,a4,a5⟩:=hrest
      have ht6:TSame 50 wr (wr.setCell ⟨sb,2,none⟩ (.slice (some ⟨g.g,0,none⟩) (s.exprs.length+1) g.cap)):=TSame.of_set hsb (by decide) _ _
      have hzz:(wr.setCell ⟨sb,2,none⟩ (.slice (some ⟨g.g,0,none⟩) (s.exprs.length+1) g.cap)).heap.size=wr.heap.size:=by simp [World.setCell]
      refine hK undef _ ⟨g,fun e=>absurd rfl e,fun _ _ _=>rfl,(fun e=>by simp only [show ¬ (10=15) by decide,if_false,l10] at e;cases e),(fun _=>⟨hR.set hsb (by unfold rdType;decide) _ _,grown_set hG hsb0 _ _,?_,xs,last,own_same hown ht6,hxl,hll,hel.same (by rw [hzz];exact Nat.le_refl _) ht6,p,q,a1,by rw [hzz];exact a2,a3.carry (Nat.le_refl _) (Nat.le_refl _) (ht6.s35 p q),a4,?_⟩)⟩
      · simp only [if_true]
        exact set_heap hsb 2 _
      · simp only [show ¬ (12=15) by decide,if_false]
        exact a5
    | k+16=>simp at hop
  · intro L g wr hL hI
    obtain ⟨hR',hG',hsb',xs,last,hown,hxl,hll,hel,p,q,a1,a2,a3,a4,a5⟩:=hI.2 (hL 10 (by decide))
    obtain ⟨c0,c1,c2,c3,c4,c5,rfl,hv⟩:=a5 (hL 12 (by decide))
    rw [hL 15 (by decide)] at hsb'
    simp only [if_true] at hsb'
    refine at_writeAll (pairs [6,7,8,9,10,11,12,13,14,15,16,17] (valV br sb deep eao s.exprs.length ecap g)++[(18,valV br sb deep eao s.exprs.length ecap g 13),(19,valV br sb deep eao s.exprs.length ecap g 14)]) (fun t=>by kernel_rfl) ?_
    simp only [pairs,List.zipIdx,List.map,List.foldl,valV,List.cons_append,List.nil_append,List.setIfInBounds_toArray,List.set_cons_zero,List.set_cons_succ]
    have el:(s.exprs++[t]).length=s.exprs.length+1:=by simp
    have res:StV B br w0 sb { s with exprs:=s.exprs++[t] } r1 wr:=by
     refine ⟨hR',hG',some ⟨g.g,0,none⟩,g.cap,?_,xs++[c0,c1,c2,c3,c4,c5],?_,by have:=hG'.size;omega,fun i e he=>?_⟩
     · show wr.heap[sb]?=some (.cells #[_,_,.slice (some ⟨g.g,0,none⟩) (s.exprs++[t]).length g.cap,_,_,_,_] _ _)
       rw [el];exact hsb'
     · show wr.ownsRow _ _ _ (.slice (some ⟨g.g,0,none⟩) (s.exprs++[t]).length g.cap) (s.exprs++[t]).length _
       rw [el];exact hown
     · by_cases hi:i<s.exprs.length
       · have he':s.exprs[i]?=some e:=by rw [<- he];exact (List.getElem?_append_left hi).symm
         obtain ⟨p',q',u,b1,b2,b3,b4,b5⟩:=hel i e he'
         exact ⟨p',q',u,cells6_left b1,b2,b3,b4,b5⟩
       · have he':(s.exprs++[t])[i]?=some e:=he
         rw [List.getElem?_append_right (by omega)] at he'
         have hi0:i=s.exprs.length:=by
            rcases Nat.eq_zero_or_pos (i-s.exprs.length) with h | h
            · omega
            · rw [List.getElem?_eq_none (by simp;omega)] at he';cases he'
         subst hi0
         simp at he'
         subst he'
         exact ⟨p,q,_,hv ▸ cells6_last hxl c0 c1 c2 c3 c4 c5,a1,a2,a4,a3⟩
    have RES:=Lib.hid res
    clear res hR' hG' hsb' hown hel a3 hI
    go_wp2
    go_end0
    exact ⟨rfl,RES.out⟩
theorem notRdS:¬ rdType 45:=by unfold rdType;decide
theorem StV.on {B br sb:Nat} {w0 w w':World} {s:Stm} {rr rr':Rd} (h:StV B br w0 sb s rr w) (h':RdAt B br rr' w') (hg:w.grownBy w' (some br)):StV B br w0 sb s rr' w':=by
  obtain ⟨h1,h2,eao,ecap,h3,h4⟩:=h
  exact ⟨h',grownBy_trans h2 hg,eao,ecap,h1.heap hg h3 (by decide),h4.same hg.size fun k cs fr hk=>h1.heap hg hk (by decide)⟩
theorem StV.alloc {B br sb:Nat} {w0 w:World} {s:Stm} {rr:Rd} (h:StV B br w0 sb s rr w) (o:Obj):StV B br w0 sb s rr (w.alloc o):=h.on (h.1.alloc o) (World.grownBy_alloc _ _ _)
theorem StV.cells {B br sb:Nat} {w0 w:World} {s:Stm} {rr:Rd} (h:StV B br w0 sb s rr w):w.cell? ⟨sb,0,none⟩=some (.int .i64 s.kind)/\w.cell? ⟨sb,1,none⟩=some (.string s.name)/\w.frozen? ⟨sb,0,none⟩=false/\w.frozen? ⟨sb,1,none⟩=false/\sb<w.heap.size:=by
  obtain ⟨h1,h2,eao,ecap,h3,h4⟩:=h
  obtain ⟨c0,c1,c2,c3,c4,c5,c6⟩:=stmt_cells h3
  exact ⟨c0,c1,Lib.frozen_of_heap h3 0,Lib.frozen_of_heap h3 1,heap_lt h3⟩
theorem StV.set {B br sb:Nat} {w0 w:World} {s:Stm} {rr:Rd} (h:StV B br w0 sb s rr w) (hsb:w0.heap.size<=sb) (j:Nat) (u:Value) {cs:Array Value} (s':Stm) (hs':s'.exprs=s.exprs) (hc:∀ eao ecap,(#[.int .i64 s.kind,.string s.name,.slice eao s.exprs.length ecap,.int .i64 s.count,.slice none 0 0,.slice none 0 0,.int .i64 s.at_]:Array Value).setIfInBounds j u = #[.int .i64 s'.kind,.string s'.name,.slice eao s'.exprs.length ecap,.int .i64 s'.count,.slice none 0 0,.slice none 0 0,.int .i64 s'.at_]):StV B br w0 sb s' rr (w.setCell ⟨sb,j,none⟩ u):=by
  obtain ⟨h1,h2,eao,ecap,h3,h4⟩:=h
  have ht6:TSame 50 w (w.setCell ⟨sb,j,none⟩ u):=TSame.of_set h3 (by decide) _ _
  refine ⟨h1.set h3 notRdS _ _,grown_set h2 hsb _ _,eao,ecap,?_,?_⟩
  · rw [<- hc];exact set_heap h3 j u
  · rw [hs'];exact h4.same (by simp [World.setCell]) ht6
theorem StV.size {B br sb:Nat} {w0 w:World} {s:Stm} {rr:Rd} (h:StV B br w0 sb s rr w):w0.heap.size<=w.heap.size:=h.2.1.size
theorem kindP_some (t:Tok):kindP t=if t.kind=1 then some 1 else if t.text=kLocal then some 0 else if t.text=kIf then some 3 else if t.text=kLoop then some 4 else if t.text=kTake then some 5
  else if t.text=kGive then some 6 else if t.text=kAdd then some 7 else if t.text=kFence then some 8 else if t.text=kOutput then some 9 else none:=rfl
theorem stmtKind_any (t:Tok) (w:World):
    Calls Tryz.prog 121 #[.agg #[.int .i64 (t.kind:Int),.string (bstr t.text),.int .u64 (t.value:Int),.int .i64 (t.at_:Int)]] w fun e w'=>e=.returned (.tuple #[.int .i64 ((kindP t).getD 0),.bool (kindP t).isSome])/\Below w.heap.size w w':=by
  rw [kindP_some]
  by_cases hk:t.kind=1
  · rw [if_pos hk]
    have k1:1<=((t.kind:Nat):Int):=by omega
    have k2:((t.kind:Nat):Int)<=1:=by omega
    clear hk
    go_enter Tryz.func121,Tryz.ntmps121
    go_wp2
    go_ret2
    exact ⟨rfl,(Below.refl _ _).alloc (Nat.le_refl _) _⟩
  rw [if_neg hk]
  have k1:¬ ((t.kind:Nat):Int)=1:=by omega
  clear hk
  by_cases h0:t.text=kLocal
  · rw [if_pos h0]
    have x0:((bstr t.text).toList == [108,111,99,97,108])=true:=eq_text h0
    clear h0
    go_enter Tryz.func121,Tryz.ntmps121
    go_wp2
    go_ret2
    exact ⟨rfl,(Below.refl _ _).alloc (Nat.le_refl _) _⟩
  rw [if_neg h0]
  have x0:((bstr t.text).toList == [108,111,99,97,108])=false:=ne_text h0
  clear h0
  by_cases h1:t.text=kIf
  · rw [if_pos h1]
    have x1:((bstr t.text).toList == [105,102])=true:=eq_text h1
    clear h1
    go_enter Tryz.func121,Tryz.ntmps121
    go_wp2
    go_ret2
    exact ⟨rfl,(Below.refl _ _).alloc (Nat.le_refl _) _⟩
  rw [if_neg h1]
  have x1:((bstr t.text).toList == [105,102])=false:=ne_text h1
  clear h1
  by_cases h2:t.text=kLoop
  · rw [if_pos h2]
    have x2:((bstr t.text).toList == [108,111,111,112])=true:=eq_text h2
    clear h2
    go_enter Tryz.func121,Tryz.ntmps121
    go_wp2
    go_ret2
    exact ⟨rfl,(Below.refl _ _).alloc (Nat.le_refl _) _⟩
  rw [if_neg h2]
  have x2:((bstr t.text).toList == [108,111,111,112])=false:=ne_text h2
  clear h2
  by_cases h3:t.text=kTake
  · rw [if_pos h3]
    have x3:((bstr t.text).toList == [116,97,107,101])=true:=eq_text h3
    clear h3
    go_enter Tryz.func121,Tryz.ntmps121
    go_wp2
    go_ret2
    exact ⟨rfl,(Below.refl _ _).alloc (Nat.le_refl _) _⟩
  rw [if_neg h3]
  have x3:((bstr t.text).toList == [116,97,107,101])=false:=ne_text h3
  clear h3
  by_cases h4:t.text=kGive
  · rw [if_pos h4]
    have x4:((bstr t.text).toList == [103,105,118,101])=true:=eq_text h4
    clear h4
    go_enter Tryz.func121,Tryz.ntmps121
    go_wp2
    go_ret2
    exact ⟨rfl,(Below.refl _ _).alloc (Nat.le_refl _) _⟩
  rw [if_neg h4]
  have x4:((bstr t.text).toList == [103,105,118,101])=false:=ne_text h4
  clear h4
  by_cases h5:t.text=kAdd
  · rw [if_pos h5]
    have x5:((bstr t.text).toList == [97,100,100])=true:=eq_text h5
    clear h5
    go_enter Tryz.func121,Tryz.ntmps121
    go_wp2
    go_ret2
    exact ⟨rfl,(Below.refl _ _).alloc (Nat.le_refl _) _⟩
  rw [if_neg h5]
  have x5:((bstr t.text).toList == [97,100,100])=false:=ne_text h5
  clear h5
  by_cases h6:t.text=kFence
  · rw [if_pos h6]
    have x6:((bstr t.text).toList == [102,101,110,99,101])=true:=eq_text h6
    clear h6
    go_enter Tryz.func121,Tryz.ntmps121
    go_wp2
    go_ret2
    exact ⟨rfl,(Below.refl _ _).alloc (Nat.le_refl _) _⟩
  rw [if_neg h6]
  have x6:((bstr t.text).toList == [102,101,110,99,101])=false:=ne_text h6
  clear h6
  by_cases h7:t.text=kOutput
  · rw [if_pos h7]
    have x7:((bstr t.text).toList == [111,117,116,112,117,116])=true:=eq_text h7
    clear h7
    go_enter Tryz.func121,Tryz.ntmps121
    go_wp2
    go_ret2
    exact ⟨rfl,(Below.refl _ _).alloc (Nat.le_refl _) _⟩
  rw [if_neg h7]
  have x7:((bstr t.text).toList == [111,117,116,112,117,116])=false:=ne_text h7
  clear h7
  go_enter Tryz.func121,Tryz.ntmps121
  go_wp2
  go_ret2
  exact ⟨rfl,(Below.refl _ _).alloc (Nat.le_refl _) _⟩
theorem StV.name {B br sb:Nat} {w0 w:World} {s:Stm} {rr:Rd} (h:StV B br w0 sb s rr w) (hsb:w0.heap.size<=sb) (x:ByteArray):StV B br w0 sb { s with name:=x } rr (w.setCell ⟨sb,1,none⟩ (.string x)):=h.set hsb 1 _ (cs:=#[]) _ rfl fun _ _=>rfl
theorem StV.kind {B br sb:Nat} {w0 w:World} {s:Stm} {rr:Rd} (h:StV B br w0 sb s rr w) (hsb:w0.heap.size<=sb) (x:Int):StV B br w0 sb { s with kind:=x } rr (w.setCell ⟨sb,0,none⟩ (.int .i64 x)):=h.set hsb 0 _ (cs:=#[]) _ rfl fun _ _=>rfl
theorem simple0_any (B br:Nat) (w0:World) (sb deep:Nat) (T:Tok) (a:Int) (rr:Rd) (w:World) (h:StV B br w0 sb ⟨0,⟨#[]⟩,[],0,[],[],a⟩ rr w) (hsb:w0.heap.size<=sb) (hd:deep<=40):
    Calls Tryz.prog 123 #[.pointer (some ⟨br,0,none⟩),.pointer (some ⟨sb,0,none⟩),.agg #[.int .i64 (T.kind:Int),.string (bstr T.text),.int .u64 (T.value:Int),.int .i64 (T.at_:Int)],.int .i64 (deep:Int)] w fun e w'=>e=.returned (.tuple #[])/\StV B br w0 sb (simpleP T deep ⟨0,⟨#[]⟩,[],0,[],[],a⟩ rr).1 (simpleP T deep ⟨0,⟨#[]⟩,[],0,[],[],a⟩ rr).2 w':=by
  rw [simple_0 _ _ _ _ rfl]
  have H0:=Lib.hid (h.alloc (tokO T))
  obtain ⟨c0,c1,f0,f1,hlt⟩:=h.cells
  clear h
  go_enter Tryz.func123,Tryz.ntmps123
  go_wp2_with (first
    | (go_at_call 143;refine (value_any B br w0 sb deep _ _ _ st3.out hsb (by simp) hd).mono ?_;rintro e w4 ⟨rfl,st4⟩)
    | (go_at_call 60;refine (want_any B br rr.name.2 ⟨#[61]⟩ [61] rfl _ st2.out.1).mono ?_;rintro e w3 ⟨rfl,h3,g3⟩;have st3:=Lib.hid (st2.out.on h3 g3))
    | (go_at_call 87;refine (rname_any B br rr _ H0.out.1).mono ?_;rintro e w1 ⟨rfl,h1,g1⟩;have st1:=H0.out.on h1 g1;obtain ⟨d0,d1,e0,e1,hl1⟩:=st1.cells;have st2:=Lib.hid (st1.name hsb (bstr rr.name.1))))
  go_end0
  exact ⟨rfl,st4⟩
theorem simple5_any (B br:Nat) (w0:World) (sb deep:Nat) (T:Tok) (a:Int) (rr:Rd) (w:World) (h:StV B br w0 sb ⟨5,⟨#[]⟩,[],0,[],[],a⟩ rr w) (hsb:w0.heap.size<=sb) (hd:deep<=40):
    Calls Tryz.prog 123 #[.pointer (some ⟨br,0,none⟩),.pointer (some ⟨sb,0,none⟩),.agg #[.int .i64 (T.kind:Int),.string (bstr T.text),.int .u64 (T.value:Int),.int .i64 (T.at_:Int)],.int .i64 (deep:Int)] w fun e w'=>e=.returned (.tuple #[])/\StV B br w0 sb (simpleP T deep ⟨5,⟨#[]⟩,[],0,[],[],a⟩ rr).1 (simpleP T deep ⟨5,⟨#[]⟩,[],0,[],[],a⟩ rr).2 w':=by
  rw [simple_5 _ _ _ _ rfl]
  have H0:=Lib.hid (h.alloc (tokO T))
  obtain ⟨c0,c1,f0,f1,hlt⟩:=h.cells
  clear h
  go_enter Tryz.func123,Tryz.ntmps123
  go_wp2_with (go_at_call 87;refine (rname_any B br rr _ H0.out.1).mono ?_;rintro e w1 ⟨rfl,h1,g1⟩;have st1:=H0.out.on h1 g1;obtain ⟨d0,d1,e0,e1,hl1⟩:=st1.cells;have st2:=Lib.hid (st1.name hsb (bstr rr.name.1)))
  go_end0
  exact ⟨rfl,st2.out⟩
theorem simple6_any (B br:Nat) (w0:World) (sb deep:Nat) (T:Tok) (a:Int) (rr:Rd) (w:World) (h:StV B br w0 sb ⟨6,⟨#[]⟩,[],0,[],[],a⟩ rr w) (hsb:w0.heap.size<=sb) (hd:deep<=40):
    Calls Tryz.prog 123 #[.pointer (some ⟨br,0,none⟩),.pointer (some ⟨sb,0,none⟩),.agg #[.int .i64 (T.kind:Int),.string (bstr T.text),.int .u64 (T.value:Int),.int .i64 (T.at_:Int)],.int .i64 (deep:Int)] w fun e w'=>e=.returned (.tuple #[])/\StV B br w0 sb (simpleP T deep ⟨6,⟨#[]⟩,[],0,[],[],a⟩ rr).1 (simpleP T deep ⟨6,⟨#[]⟩,[],0,[],[],a⟩ rr).2 w':=by
  rw [simple_6 _ _ _ _ rfl]
  have H0:=Lib.hid (h.alloc (tokO T))
  obtain ⟨c0,c1,f0,f1,hlt⟩:=h.cells
  clear h
  go_enter Tryz.func123,Tryz.ntmps123
  go_wp2_with (go_at_call 87;refine (rname_any B br rr _ H0.out.1).mono ?_;rintro e w1 ⟨rfl,h1,g1⟩;have st1:=H0.out.on h1 g1;obtain ⟨d0,d1,e0,e1,hl1⟩:=st1.cells;have st2:=Lib.hid (st1.name hsb (bstr rr.name.1)))
  go_end0
  exact ⟨rfl,st2.out⟩
theorem simple7_any (B br:Nat) (w0:World) (sb deep:Nat) (T:Tok) (a:Int) (rr:Rd) (w:World) (h:StV B br w0 sb ⟨7,⟨#[]⟩,[],0,[],[],a⟩ rr w) (hsb:w0.heap.size<=sb) (hd:deep<=40):
    Calls Tryz.prog 123 #[.pointer (some ⟨br,0,none⟩),.pointer (some ⟨sb,0,none⟩),.agg #[.int .i64 (T.kind:Int),.string (bstr T.text),.int .u64 (T.value:Int),.int .i64 (T.at_:Int)],.int .i64 (deep:Int)] w fun e w'=>e=.returned (.tuple #[])/\StV B br w0 sb (simpleP T deep ⟨7,⟨#[]⟩,[],0,[],[],a⟩ rr).1 (simpleP T deep ⟨7,⟨#[]⟩,[],0,[],[],a⟩ rr).2 w':=by
  rw [simple_7 _ _ _ _ rfl]
  have H0:=Lib.hid (h.alloc (tokO T))
  obtain ⟨c0,c1,f0,f1,hlt⟩:=h.cells
  clear h
  go_enter Tryz.func123,Tryz.ntmps123
  go_wp2_with (first
    | (go_at_call 143;refine (value_any B br w0 sb deep _ _ _ st2.out hsb (by simp) hd).mono ?_;rintro e w4 ⟨rfl,st4⟩)
    | (go_at_call 87;refine (rname_any B br rr _ H0.out.1).mono ?_;rintro e w1 ⟨rfl,h1,g1⟩;have st1:=H0.out.on h1 g1;obtain ⟨d0,d1,e0,e1,hl1⟩:=st1.cells;have st2:=Lib.hid (st1.name hsb (bstr rr.name.1))))
  go_end0
  exact ⟨rfl,st4⟩
theorem simple8_any (B br:Nat) (w0:World) (sb deep:Nat) (T:Tok) (a:Int) (rr:Rd) (w:World) (h:StV B br w0 sb ⟨8,⟨#[]⟩,[],0,[],[],a⟩ rr w) (hsb:w0.heap.size<=sb) (hd:deep<=40):
    Calls Tryz.prog 123 #[.pointer (some ⟨br,0,none⟩),.pointer (some ⟨sb,0,none⟩),.agg #[.int .i64 (T.kind:Int),.string (bstr T.text),.int .u64 (T.value:Int),.int .i64 (T.at_:Int)],.int .i64 (deep:Int)] w fun e w'=>e=.returned (.tuple #[])/\StV B br w0 sb (simpleP T deep ⟨8,⟨#[]⟩,[],0,[],[],a⟩ rr).1 (simpleP T deep ⟨8,⟨#[]⟩,[],0,[],[],a⟩ rr).2 w':=by
  rw [simple_8 _ _ _ _ rfl]
  have H0:=Lib.hid (h.alloc (tokO T))
  obtain ⟨c0,c1,f0,f1,hlt⟩:=h.cells
  clear h
  go_enter Tryz.func123,Tryz.ntmps123
  go_wp2
  go_end0
  exact ⟨rfl,H0.out⟩
theorem simple9_any (B br:Nat) (w0:World) (sb deep:Nat) (T:Tok) (a:Int) (rr:Rd) (w:World) (h:StV B br w0 sb ⟨9,⟨#[]⟩,[],0,[],[],a⟩ rr w) (hsb:w0.heap.size<=sb) (hd:deep<=40):
    Calls Tryz.prog 123 #[.pointer (some ⟨br,0,none⟩),.pointer (some ⟨sb,0,none⟩),.agg #[.int .i64 (T.kind:Int),.string (bstr T.text),.int .u64 (T.value:Int),.int .i64 (T.at_:Int)],.int .i64 (deep:Int)] w fun e w'=>e=.returned (.tuple #[])/\StV B br w0 sb (simpleP T deep ⟨9,⟨#[]⟩,[],0,[],[],a⟩ rr).1 (simpleP T deep ⟨9,⟨#[]⟩,[],0,[],[],a⟩ rr).2 w':=by
  rw [simple_9 _ _ _ _ rfl]
  have H0:=Lib.hid (h.alloc (tokO T))
  obtain ⟨c0,c1,f0,f1,hlt⟩:=h.cells
  clear h
  go_enter Tryz.func123,Tryz.ntmps123
  go_wp2_with (go_at_call 143;refine (value_any B br w0 sb deep _ _ _ H0.out hsb (by simp) hd).mono ?_;rintro e w4 ⟨rfl,st4⟩)
  go_end0
  exact ⟨rfl,st4⟩
theorem simple1_no (B br:Nat) (w0:World) (sb deep:Nat) (T:Tok) (a:Int) (rr:Rd) (w:World) (h:StV B br w0 sb ⟨1,⟨#[]⟩,[],0,[],[],a⟩ rr w) (hsb:w0.heap.size<=sb) (hd:deep<=40) (hi:rr.is [91]=false):
    Calls Tryz.prog 123 #[.pointer (some ⟨br,0,none⟩),.pointer (some ⟨sb,0,none⟩),.agg #[.int .i64 (T.kind:Int),.string (bstr T.text),.int .u64 (T.value:Int),.int .i64 (T.at_:Int)],.int .i64 (deep:Int)] w fun e w'=>e=.returned (.tuple #[])/\StV B br w0 sb (simpleP T deep ⟨1,⟨#[]⟩,[],0,[],[],a⟩ rr).1 (simpleP T deep ⟨1,⟨#[]⟩,[],0,[],[],a⟩ rr).2 w':=by
  rw [simple_1 _ _ _ _ rfl hi]
  have H1:=Lib.hid ((h.name hsb (bstr T.text)).alloc (tokO T))
  have H0:=Lib.hid (h.alloc (tokO T))
  obtain ⟨c0,c1,f0,f1,hlt⟩:=h.cells
  clear h
  go_enter Tryz.func123,Tryz.ntmps123
  go_wp2_with (first
    | (go_at_call 143;refine (value_any B br w0 sb deep _ _ _ st3.out hsb (by simp) hd).mono ?_;rintro e w4 ⟨rfl,st4⟩)
    | (go_at_call 60;refine (want_any B br rr ⟨#[61]⟩ [61] rfl _ st2.out.1).mono ?_;rintro e w3 ⟨rfl,h3,g3⟩;have st3:=Lib.hid (st2.out.on h3 g3))
    | (go_at_call 86;refine (take_no B br rr ⟨#[91]⟩ [91] rfl _ (H1.out).1 hi).mono ?_;rintro e w2 ⟨rfl,h2,g2⟩;have st2:=Lib.hid (H1.out.on h2 g2)))
  go_end0
  exact ⟨rfl,st4⟩
theorem simple1_yes (B br:Nat) (w0:World) (sb deep:Nat) (T:Tok) (a:Int) (rr:Rd) (w:World) (h:StV B br w0 sb ⟨1,⟨#[]⟩,[],0,[],[],a⟩ rr w) (hsb:w0.heap.size<=sb) (hd:deep<=40) (hi:rr.is [91]=true):
    Calls Tryz.prog 123 #[.pointer (some ⟨br,0,none⟩),.pointer (some ⟨sb,0,none⟩),.agg #[.int .i64 (T.kind:Int),.string (bstr T.text),.int .u64 (T.value:Int),.int .i64 (T.at_:Int)],.int .i64 (deep:Int)] w fun e w'=>e=.returned (.tuple #[])/\StV B br w0 sb (simpleP T deep ⟨1,⟨#[]⟩,[],0,[],[],a⟩ rr).1 (simpleP T deep ⟨1,⟨#[]⟩,[],0,[],[],a⟩ rr).2 w':=by
  rw [simple_2 _ _ _ _ rfl hi]
  have H1:=Lib.hid ((h.name hsb (bstr T.text)).alloc (tokO T))
  have H0:=Lib.hid (h.alloc (tokO T))
  obtain ⟨c0,c1,f0,f1,hlt⟩:=h.cells
  clear h
  go_enter Tryz.func123,Tryz.ntmps123
  go_wp2_with (first
    | (go_at_call 143;refine (value_any B br w0 sb deep _ _ _ st6.out hsb hl3.out hd).mono ?_;rintro e w7 ⟨rfl,st7⟩)
    | (go_at_call 60;refine (want_any B br _ ⟨#[61]⟩ [61] rfl _ st5.out.1).mono ?_;rintro e w6 ⟨rfl,h6,g6⟩;have st6:=Lib.hid (st5.out.on h6 g6))
    | (go_at_call 60;refine (want_any B br _ ⟨#[93]⟩ [93] rfl _ st4.out.1).mono ?_;rintro e w5 ⟨rfl,h5,g5⟩;have st5:=Lib.hid (st4.out.on h5 g5))
    | (go_at_call 143;refine (value_any B br w0 sb deep _ _ _ st3.out hsb (by simp) hd).mono ?_;rintro e w4 ⟨rfl,st4'⟩;have st4:=Lib.hid st4';have hl3:Hid ((valueP deep ⟨2,bstr T.text,[],0,[],[],a⟩ rr.next).1.exprs.length<=10):=by (show _<=10);simp [valueP])
    | (go_at_call 86;refine (take_yes B br rr ⟨#[91]⟩ [91] rfl _ (H1.out).1 hi).mono ?_;rintro e w2 ⟨rfl,h2,g2⟩;have st2:=H1.out.on h2 g2;obtain ⟨d0,d1,e0,e1,hl1⟩:=st2.cells;have st3:=Lib.hid (st2.kind hsb 2)))
  go_end0
  exact ⟨rfl,st7⟩
def Blk (sb n:Nat) (w:World) (v:Value) (ss:List Stm):Prop:=∃ a b,sb<a/\b<=w.heap.size/\Stms a b w (fun v' s'=>SRep a b w bigM n v' s') v ss
theorem Blk.nil {sb n:Nat} {w:World} (h:sb<w.heap.size):Blk sb n w (.slice none 0 0) []:=⟨w.heap.size,w.heap.size,h,Nat.le_refl _,stms0⟩
theorem Blk.on {sb n:Nat} {w w':World} {v:Value} {ss:List Stm} (h:Blk sb n w v ss) (hz:w.heap.size<=w'.heap.size) (h35:∀ lo hi,sb<lo->Same35 lo hi w w') (h45:∀ lo hi,sb<lo->Same45 lo hi w w'):Blk sb n w' v ss:=by
  obtain ⟨a,b,h1,h2,h3⟩:=h
  exact ⟨a,b,h1,by omega,h3.carry (Nat.le_refl _) (Nat.le_refl _) (h45 a b h1) fun _ _ hr=>hr.carry (Nat.le_refl _) (Nat.le_refl _) (h35 a b h1) (h45 a b h1)⟩
def StF (B br:Nat) (w0:World) (sb n:Nat) (s:Stm) (rr:Rd) (w:World):Prop:=
  RdAt B br rr w/\w0.grownBy w (some br)/\∃ eao ecap bao bcap lao lcap,w.heap[sb]?=some (.cells #[.int .i64 s.kind,.string s.name,.slice eao s.exprs.length ecap,.int .i64 s.count,.slice bao s.body.length bcap,.slice lao s.els.length lcap,.int .i64 s.at_] 45 (0,0)) /\
    ExRow w0.heap.size w (.slice eao s.exprs.length ecap) s.exprs/\Blk sb n w (.slice bao s.body.length bcap) s.body/\Blk sb n w (.slice lao s.els.length lcap) s.els
theorem StV.full {B br sb:Nat} {w0 w:World} {s:Stm} {rr:Rd} (h:StV B br w0 sb s rr w) (n:Nat) (hb:s.body=[]) (hl:s.els=[]):StF B br w0 sb n s rr w:=by
  obtain ⟨h1,h2,eao,ecap,h3,h4⟩:=h
  refine ⟨h1,h2,eao,ecap,none,0,none,0,?_,h4,?_,?_⟩
  · rw [hb,hl];exact h3
  · rw [hb];exact Blk.nil (heap_lt h3)
  · rw [hl];exact Blk.nil (heap_lt h3)
theorem RdAt.same45 {B br:Nat} {r:Rd} {w w':World} (h:RdAt B br r w) (hg:w.grownBy w' (some br)) (lo hi:Nat):Same45 lo hi w w':=fun k cs fr _ _ hk=>h.heap hg hk (by decide)
theorem StF.on {B br sb n:Nat} {w0 w w':World} {s:Stm} {rr rr':Rd} (h:StF B br w0 sb n s rr w) (h':RdAt B br rr' w') (hg:w.grownBy w' (some br)):StF B br w0 sb n s rr' w':=by
  obtain ⟨h1,h2,eao,ecap,bao,bcap,lao,lcap,h3,h4,h5,h6⟩:=h
  exact ⟨h',grownBy_trans h2 hg,eao,ecap,bao,bcap,lao,lcap,h1.heap hg h3 (by decide),h4.same hg.size fun k cs fr hk=>h1.heap hg hk (by decide),h5.on hg.size (fun lo hi _=>h1.same35 hg lo hi) (fun lo hi _=>h1.same45 hg lo hi),h6.on hg.size (fun lo hi _=>h1.same35 hg lo hi) (fun lo hi _=>h1.same45 hg lo hi)⟩
theorem StF.cells {B br sb n:Nat} {w0 w:World} {s:Stm} {rr:Rd} (h:StF B br w0 sb n s rr w):∃ eao ecap bao bcap lao lcap,w.heap[sb]?=some (.cells #[.int .i64 s.kind,.string s.name,.slice eao s.exprs.length ecap,.int .i64 s.count,.slice bao s.body.length bcap,.slice lao s.els.length lcap,.int .i64 s.at_] 45 (0,0)):=by
  obtain ⟨h1,h2,eao,ecap,bao,bcap,lao,lcap,h3,_⟩:=h
  exact ⟨eao,ecap,bao,bcap,lao,lcap,h3⟩
theorem set_same {w:World} {sb:Nat} {cs:Array Value} {fr:Nat × Nat} (h:w.heap[sb]?=some (.cells cs 45 fr)) (j:Nat) (u:Value):(∀ lo hi,sb<lo->Same35 lo hi w (w.setCell ⟨sb,j,none⟩ u))/\(∀ lo hi,sb<lo->Same45 lo hi w (w.setCell ⟨sb,j,none⟩ u)):=by
  refine ⟨fun lo hi hlo k c f h1 h2 hk=>?_,fun lo hi hlo k c f h1 h2 hk=>?_⟩ <;> exact (Below.heap_setCell _ _ _ _ (show k≠sb by omega)).trans hk
theorem StF.body {B br sb n:Nat} {w0 w:World} {s:Stm} {rr:Rd} (h:StF B br w0 sb n s rr w) (hsb:w0.heap.size<=sb) {ao:Option Addr} {cap:Nat} {ss:List Stm} (hB:Blk sb n w (.slice ao ss.length cap) ss):StF B br w0 sb n { s with body:=ss } rr (w.setCell ⟨sb,4,none⟩ (.slice ao ss.length cap)):=by
  obtain ⟨h1,h2,eao,ecap,bao,bcap,lao,lcap,h3,h4,h5,h6⟩:=h
  obtain ⟨q35,q45⟩:=set_same h3 4 (.slice ao ss.length cap)
  have hz:w.heap.size<=(w.setCell ⟨sb,4,none⟩ (.slice ao ss.length cap)).heap.size:=by simp [World.setCell]
  exact ⟨h1.set h3 notRdS _ _,grown_set h2 hsb _ _,eao,ecap,ao,cap,lao,lcap,set_heap h3 4 _,h4.same hz (TSame.of_set h3 (by decide) _ _),hB.on hz q35 q45,h6.on hz q35 q45⟩
theorem StF.els {B br sb n:Nat} {w0 w:World} {s:Stm} {rr:Rd} (h:StF B br w0 sb n s rr w) (hsb:w0.heap.size<=sb) {ao:Option Addr} {cap:Nat} {ss:List Stm} (hB:Blk sb n w (.slice ao ss.length cap) ss):StF B br w0 sb n { s with els:=ss } rr (w.setCell ⟨sb,5,none⟩ (.slice ao ss.length cap)):=by
  obtain ⟨h1,h2,eao,ecap,bao,bcap,lao,lcap,h3,h4,h5,h6⟩:=h
  obtain ⟨q35,q45⟩:=set_same h3 5 (.slice ao ss.length cap)
  have hz:w.heap.size<=(w.setCell ⟨sb,5,none⟩ (.slice ao ss.length cap)).heap.size:=by simp [World.setCell]
  exact ⟨h1.set h3 notRdS _ _,grown_set h2 hsb _ _,eao,ecap,bao,bcap,ao,cap,set_heap h3 5 _,h4.same hz (TSame.of_set h3 (by decide) _ _),h5.on hz q35 q45,hB.on hz q35 q45⟩
theorem StF.name {B br sb n:Nat} {w0 w:World} {s:Stm} {rr:Rd} (h:StF B br w0 sb n s rr w) (hsb:w0.heap.size<=sb) (x:ByteArray):StF B br w0 sb n { s with name:=x } rr (w.setCell ⟨sb,1,none⟩ (.string x)):=by
  obtain ⟨h1,h2,eao,ecap,bao,bcap,lao,lcap,h3,h4,h5,h6⟩:=h
  obtain ⟨q35,q45⟩:=set_same h3 1 (.string x)
  have hz:w.heap.size<=(w.setCell ⟨sb,1,none⟩ (.string x)).heap.size:=by simp [World.setCell]
  exact ⟨h1.set h3 notRdS _ _,grown_set h2 hsb _ _,eao,ecap,bao,bcap,lao,lcap,set_heap h3 1 _,h4.same hz (TSame.of_set h3 (by decide) _ _),h5.on hz q35 q45,h6.on hz q35 q45⟩
theorem StF.count {B br sb n:Nat} {w0 w:World} {s:Stm} {rr:Rd} (h:StF B br w0 sb n s rr w) (hsb:w0.heap.size<=sb) (x:Int):StF B br w0 sb n { s with count:=x } rr (w.setCell ⟨sb,3,none⟩ (.int .i64 x)):=by
  obtain ⟨h1,h2,eao,ecap,bao,bcap,lao,lcap,h3,h4,h5,h6⟩:=h
  obtain ⟨q35,q45⟩:=set_same h3 3 (.int .i64 x)
  have hz:w.heap.size<=(w.setCell ⟨sb,3,none⟩ (.int .i64 x)).heap.size:=by simp [World.setCell]
  exact ⟨h1.set h3 notRdS _ _,grown_set h2 hsb _ _,eao,ecap,bao,bcap,lao,lcap,set_heap h3 3 _,h4.same hz (TSame.of_set h3 (by decide) _ _),h5.on hz q35 q45,h6.on hz q35 q45⟩
def RBlC (f:Nat):Prop:=∀ (B br deep:Nat) (r:Rd) (w:World),RdAt B br r w->deep+f=41 ->
  Calls Tryz.prog 61 #[.pointer (some ⟨br,0,none⟩),.int .i64 (deep:Int)] w fun e w'=>∃ v,e=.returned v/\Stms w.heap.size w'.heap.size w' (fun v' s'=>SRep w.heap.size w'.heap.size w' bigM (f+1) v' s') v (blockOf (stP f) deep r).1/\RdAt B br (blockOf (stP f) deep r).2 w'/\w.grownBy w' (some br)
theorem stms_slice {lo B:Nat} {w:World} {R:Value->Stm->Prop} {v:Value} {ss:List Stm} (h:Stms lo B w R v ss):∃ ao cap,v=.slice ao ss.length cap:=by obtain ⟨ao,cap,e,_⟩:=h;exact ⟨ao,cap,e⟩
theorem choice_eq (bl:BlP) (deep:Nat) (s:Stm) (r:Rd):choiceOf bl deep s r=if (bl (deep+1) ((valueP deep s (r.want [40])).2.want [41])).2.is kElse=true then
    ({ (valueP deep s (r.want [40])).1 with body:=(bl (deep+1) ((valueP deep s (r.want [40])).2.want [41])).1,els:=(bl (deep+1) (bl (deep+1) ((valueP deep s (r.want [40])).2.want [41])).2.next).1 },(bl (deep+1) (bl (deep+1) ((valueP deep s (r.want [40])).2.want [41])).2.next).2)
    else ({ (valueP deep s (r.want [40])).1 with body:=(bl (deep+1) ((valueP deep s (r.want [40])).2.want [41])).1 },(bl (deep+1) ((valueP deep s (r.want [40])).2.want [41])).2):=rfl
theorem choice_any {f:Nat} (ih:RBlC f) (B br:Nat) (w0:World) (sb deep:Nat) (a:Int) (rr:Rd) (w:World) (h:StV B br w0 sb ⟨3,⟨#[]⟩,[],0,[],[],a⟩ rr w) (hsb:w0.heap.size<=sb) (hd:deep+1+f=41):
    Calls Tryz.prog 122 #[.pointer (some ⟨br,0,none⟩),.pointer (some ⟨sb,0,none⟩),.int .i64 (deep:Int)] w fun e w'=>e=.returned (.tuple #[])/\StF B br w0 sb (f+1) (choiceOf (blockOf (stP f)) deep ⟨3,⟨#[]⟩,[],0,[],[],a⟩ rr).1 (choiceOf (blockOf (stP f)) deep ⟨3,⟨#[]⟩,[],0,[],[],a⟩ rr).2 w':=by
  rw [choice_eq]
  obtain ⟨r1,e1⟩:∃ x,rr.want [40]=x:=⟨_,rfl⟩
  have W1:=want_any B br rr ⟨#[40]⟩ [40] rfl w h.1
  rw [e1] at W1 ⊢
  have hvb:(valueP deep ⟨3,⟨#[]⟩,[],0,[],[],a⟩ r1).1.body=[]/\(valueP deep ⟨3,⟨#[]⟩,[],0,[],[],a⟩ r1).1.els=[]:=⟨rfl,rfl⟩
  have V2:=fun w' h'=>value_any B br w0 sb deep ⟨3,⟨#[]⟩,[],0,[],[],a⟩ r1 w' h' hsb (by simp) (by omega)
  obtain ⟨s2,r2,e2⟩:∃ s x,valueP deep ⟨3,⟨#[]⟩,[],0,[],[],a⟩ r1=(s,x):=⟨_,_,rfl⟩
  rw [e2] at V2 hvb ⊢
  simp only at V2 hvb ⊢
  obtain ⟨r3,e3⟩:∃ x,r2.want [41]=x:=⟨_,rfl⟩
  have W3:=fun w' h'=>want_any B br r2 ⟨#[41]⟩ [41] rfl w' h'
  rw [e3] at W3 ⊢
  obtain ⟨b4,r4,e4⟩:∃ s x,blockOf (stP f) (deep+1) r3=(s,x):=⟨_,_,rfl⟩
  have B4:∀ w',RdAt B br r3 w'->Calls Tryz.prog 61 #[.pointer (some ⟨br,0,none⟩),.int .i64 ((deep:Int)+1)] w' fun e w2=>∃ v,e=.returned v/\Stms w'.heap.size w2.heap.size w2 (fun v' s'=>SRep w'.heap.size w2.heap.size w2 bigM (f+1) v' s') v b4/\RdAt B br r4 w2/\w'.grownBy w2 (some br):=fun w' h'=>by
    have:=ih B br (deep+1) r3 w' h' (by omega)
    rw [e4] at this
    exact this
  rw [e4]
  simp only
  have H:=Lib.hid h
  have hdd:deep<=40:=by omega
  have HVB:=Lib.hid hvb
  clear h e1 e2 e3 e4 hvb
  cases hi:r4.is kElse with
  | false=>
    simp only [Bool.false_eq_true,if_false]
    go_enter Tryz.func122,Tryz.ntmps122
    go_wp2_with (first
     | (go_at_call 86;refine (take_no B br r4 ⟨#[101,108,115,101]⟩ kElse rfl _ st5.out.1 hi).mono ?_;rintro e w6 ⟨rfl,h6,g6⟩;have st6:=st5.out.on h6 g6)
     | (go_at_call 61;refine (B4 _ st3.out.1).mono ?_;rintro e w4 ⟨v4,rfl,S4,h4,g4⟩;obtain ⟨ao4,cap4,rfl⟩:=stms_slice S4;have f4:=(st3.out.on h4 g4).full (f+1) HVB.out.1 HVB.out.2;have hlb:=st3.out.cells.2.2.2.2;have st5:=Lib.hid (f4.body hsb (ss:=b4) ⟨_,_,hlb,Nat.le_refl _,S4⟩);obtain ⟨x1,x2,x3,x4,x5,x6,hcc⟩:=f4.cells;obtain ⟨c0,c1,c2,c3,c4,c5,c6⟩:=stmt_cells hcc;have fz:=Lib.frozen_of_heap hcc 4;have hl4:=heap_lt hcc)
     | (go_at_call 60;refine (W3 _ st2.out.1).mono ?_;rintro e w3 ⟨rfl,h3,g3⟩;have st3:=Lib.hid (st2.out.on h3 g3))
     | (go_at_call 143;refine (V2 _ st1.out).mono ?_;rintro e w2 ⟨rfl,st2'⟩;have st2:=Lib.hid st2')
     | (go_at_call 60;refine W1.mono ?_;rintro e w1 ⟨rfl,h1,g1⟩;have st1:=Lib.hid (H.out.on h1 g1)))
    go_end0
    exact ⟨rfl,st6⟩
  | true=>
    simp only [if_true]
    obtain ⟨l5,r5,e5⟩:∃ s x,blockOf (stP f) (deep+1) r4.next=(s,x):=⟨_,_,rfl⟩
    have B5:∀ w',RdAt B br r4.next w'->Calls Tryz.prog 61 #[.pointer (some ⟨br,0,none⟩),.int .i64 ((deep:Int)+1)] w' fun e w2=>∃ v,e=.returned v/\Stms w'.heap.size w2.heap.size w2 (fun v' s'=>SRep w'.heap.size w2.heap.size w2 bigM (f+1) v' s') v l5/\RdAt B br r5 w2/\w'.grownBy w2 (some br):=fun w' h'=>by
     have:=ih B br (deep+1) r4.next w' h' (by omega)
     rw [e5] at this
     exact this
    rw [e5]
    simp only
    clear e5
    go_enter Tryz.func122,Tryz.ntmps122
    go_wp2_with (first
     | (go_at_call 61;refine (B5 _ st6.out.1).mono ?_;rintro e w7 ⟨v7,rfl,S7,h7,g7⟩;obtain ⟨ao7,cap7,rfl⟩:=stms_slice S7;have f7:=st6.out.on h7 g7;obtain ⟨x1,x2,x3,x4,x5,x6,hcc6⟩:=st6.out.cells;have hlb7:=heap_lt hcc6;have st8:=Lib.hid (f7.els hsb (ss:=l5) ⟨_,_,hlb7,Nat.le_refl _,S7⟩);obtain ⟨x1,x2,x3,x4,x5,x6,hcc7⟩:=f7.cells;obtain ⟨c0,c1,c2,c3,c4,c5,c6⟩:=stmt_cells hcc7;have fz7:=Lib.frozen_of_heap hcc7 5;have hl7:=heap_lt hcc7)
     | (go_at_call 86;refine (take_yes B br r4 ⟨#[101,108,115,101]⟩ kElse rfl _ st5.out.1 hi).mono ?_;rintro e w6 ⟨rfl,h6,g6⟩;have st6:=Lib.hid (st5.out.on h6 g6))
     | (go_at_call 61;refine (B4 _ st3.out.1).mono ?_;rintro e w4 ⟨v4,rfl,S4,h4,g4⟩;obtain ⟨ao4,cap4,rfl⟩:=stms_slice S4;have f4:=(st3.out.on h4 g4).full (f+1) HVB.out.1 HVB.out.2;have hlb:=st3.out.cells.2.2.2.2;have st5:=Lib.hid (f4.body hsb (ss:=b4) ⟨_,_,hlb,Nat.le_refl _,S4⟩);obtain ⟨x1,x2,x3,x4,x5,x6,hcc⟩:=f4.cells;obtain ⟨c0,c1,c2,c3,c4,c5,c6⟩:=stmt_cells hcc;have fz:=Lib.frozen_of_heap hcc 4;have hl4:=heap_lt hcc)
     | (go_at_call 60;refine (W3 _ st2.out.1).mono ?_;rintro e w3 ⟨rfl,h3,g3⟩;have st3:=Lib.hid (st2.out.on h3 g3))
     | (go_at_call 143;refine (V2 _ st1.out).mono ?_;rintro e w2 ⟨rfl,st2'⟩;have st2:=Lib.hid st2')
     | (go_at_call 60;refine W1.mono ?_;rintro e w1 ⟨rfl,h1,g1⟩;have st1:=Lib.hid (H.out.on h1 g1)))
    go_end0
    exact ⟨rfl,st8.out⟩
end Go.Proofs.YtlepckjmdjjolaaGreatDoor.Pr
