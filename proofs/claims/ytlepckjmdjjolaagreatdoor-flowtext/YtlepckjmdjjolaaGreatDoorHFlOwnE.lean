/- What the statements' own label of an expression answers: what flow's Label does. Conditions: the scope, and the expression, lie in memory as their plain data say; counters have some rounds, and not too many. -/
import Derived.Test.YtlepckjmdjjolaaGreatDoorGFlA
import Derived.Test.YtlepckjmdjjolaaGreatDoorHFlOwnB
set_option maxHeartbeats 4000000
set_option maxRecDepth 100000
namespace Go.Proofs.YtlepckjmdjjolaaGreatDoor.Fl
open Go.ChangeShapes Go.WideShapes Go.ChangeAt Go.RowKit
open Sc (Mng mnone put localM putAll Dc declM bad meansOf firstBad none0 ScAt KeepX)
set_option linter.unusedVariables false
set_option linter.unusedSimpArgs false
@[reducible] def wrongV:Except Er Int->Value
  | .ok l=>.agg #[.int .i64 0,.int .i64 0,.int .i64 l]
  | .error y=>.agg #[.int .i64 y.1,.int .i64 y.2,.int .i64 0]
def OwnR (w:World) (r:Except Er Int) (e:Ending) (w':World):Prop:=e=.returned (wrongV r)/\Below w.heap.size w w'
def OwnEC (n:Nat):Prop:=∀ (B bs k:Nat) (st:St) (v:Value) (e:Tree) (w:World),ScAt (· < B) bs k st.f st.ls w->okF st.f->okB st.f->ERep 0 w.heap.size w n v e->nmE n e ->
  Calls Tryz.prog 22 #[.pointer (some ⟨bs,0,none⟩),v] w (OwnR w (labelP st.f n e))
theorem wr_cells {w:World} {k:Nat} {t:TypeId} {x0 x1 x2:Value} (h:w.heap[k]?=some (.cells #[x0,x1,x2] t (0,0))):
    w.cell? ⟨k,0,none⟩=some x0/\w.cell? ⟨k,1,none⟩=some x1/\w.cell? ⟨k,2,none⟩=some x2:=by
  refine ⟨?_,?_,?_⟩ <;> (rw [Lib.cell_of_heap h];rfl)
@[reducible] def putW (w:World) (g:Nat) (u0 u1 u2:Value):World:=((w.setCell ⟨g,0,none⟩ u0).setCell ⟨g,1,none⟩ u1).setCell ⟨g,2,none⟩ u2
theorem put3 {w:World} {g:Nat} {t:TypeId} {x0 x1 x2:Value} (h:w.heap[g]?=some (.cells #[x0,x1,x2] t (0,0))) (u0 u1 u2:Value):
    (putW w g u0 u1 u2).cell? ⟨g,0,none⟩=some u0/\(putW w g u0 u1 u2).cell? ⟨g,1,none⟩=some u1/\(putW w g u0 u1 u2).cell? ⟨g,2,none⟩=some u2/\∀ {B:Nat} {v:World},Below B v w->B<=g->Below B v (putW w g u0 u1 u2):=by
  have k1:=set_heap h 0 u0
  have k2:=set_heap k1 1 u1
  have k3:=set_heap k2 2 u2
  obtain ⟨a,b,c⟩:=wr_cells k3
  exact ⟨a,b,c,fun hb hg=>((hb.setCell hg _).setCell hg _).setCell hg _⟩
theorem all_err {L:Tree->Except Er Int} (hL:∀ e y,L e=.error y->y.1≠0):∀ es a y,allP L a es=.error y->y.1≠0
  | [],a,y,h=>by cases h
  | e :: es,a,y,h=>by
    unfold allP at h
    split at h
    · rename_i x hx
      cases h
      exact hL _ _ hx
    · exact all_err hL es _ _ h
theorem label_err (f:ByteArray->Mng):∀ n e y,labelP f n e=.error y->y.1≠0
  | 0,e,y,h=>by cases h
  | n+1,e,y,h=>by
    unfold labelP at h
    split at h
    · cases h
    split at h
    · unfold nameP at h
      split at h
      · cases h
      · cases h;simp
    split at h
    · unfold cellP at h
      split at h
      · split at h
        · split at h
          · rename_i x hx
            cases h
            exact label_err f n _ _ hx
          · split at h
            · cases h;simp
            · split at h
              · cases h;simp
              · cases h
        · cases h;simp
      · cases h;simp
    · exact all_err (label_err f n) _ _ _ h
theorem ownCell_of {n:Nat} (ih:OwnEC n) {B bs k:Nat} {st:St} {s:ByteArray} {kids:List Tree} {at_:Int} {ka:Option Addr} {kc:Nat} {w:World} (hS:ScAt (· < B) bs k st.f st.ls w) (hf:okF st.f) (hfb:okB st.f) (hs:s.size<=35184372088832) (hn:∀ k ∈ kids,nmE n k) (hK:Kids 0 w.heap.size w (fun v' t'=>ERep 0 w.heap.size w n v' t') (.slice ka kids.length kc) kids):
    Calls Tryz.prog 50 #[.pointer (some ⟨bs,0,none⟩),.string s,.slice ka kids.length kc,.int .i64 at_] w (OwnR w (cellP st.f (labelP st.f n) (boundP st.f n) s kids at_)):=by
  have hb1:∀ {w:World} (o:Obj),Below w.heap.size w (w.alloc o):=fun o=>(Below.refl _ _).alloc (Nat.le_refl _) o
  have PF:=fun o=>Sc.find_any (hS.below (hb1 o)) s (nm_le hs)
  by_cases hno:kids.length≠1\/(st.f s).kind≠3
  · rw [cellP_no hno]
    generalize st.f s=m at *
    obtain ⟨mk,ml,mc,mb⟩:=m
    simp only at PF hno
    clear hS hf hfb hn hK ih
    by_cases h1:kids.length=1
    · have h3:¬ mk=3:=hno.resolve_left (by simp [h1])
      have h1I:(kids.length:Int)=1:=by omega
      rw [h1]
      clear hno h1 h1I
      go_enter Tryz.func50,Tryz.ntmps50
      go_wp2_with (go_at_call 45;refine (PF _).mono ?_;rintro ed w1 ⟨rfl,hb2⟩;have H1:=keep hb2 (heap_alloc_new w _);obtain ⟨q0,q1,q2⟩:=wr_cells H1;have f0:=Lib.frozen_of_heap H1 0;have f1:=Lib.frozen_of_heap H1 1;have f2:=Lib.frozen_of_heap H1 2)
      obtain ⟨z0,z1,z2,zb⟩:=put3 H1 (.int .i64 3) (.int .i64 at_) (.int .i64 0)
      try simp only [Exit.inBlock,Exit.then]
      refine bodyPost_ret (v:=.agg #[.int .i64 3,.int .i64 at_,.int .i64 0]) (by simp [results,Tryz.results50,go_sem,z0,z1,z2,Result.andThen]) rfl ⟨rfl,?_⟩
      exact zb ((hb1 _).trans (hb2.mono (by rw [alloc_size];omega))) (Nat.le_refl _)
    · have h1I:¬ (kids.length:Int)=1:=by omega
      clear hno
      go_enter Tryz.func50,Tryz.ntmps50
      go_wp2_with (go_at_call 45;refine (PF _).mono ?_;rintro ed w1 ⟨rfl,hb2⟩;have H1:=keep hb2 (heap_alloc_new w _);obtain ⟨q0,q1,q2⟩:=wr_cells H1;have f0:=Lib.frozen_of_heap H1 0;have f1:=Lib.frozen_of_heap H1 1;have f2:=Lib.frozen_of_heap H1 2)
      obtain ⟨z0,z1,z2,zb⟩:=put3 H1 (.int .i64 3) (.int .i64 at_) (.int .i64 0)
      try simp only [Exit.inBlock,Exit.then]
      refine bodyPost_ret (v:=.agg #[.int .i64 3,.int .i64 at_,.int .i64 0]) (by simp [results,Tryz.results50,go_sem,z0,z1,z2,Result.andThen]) rfl ⟨rfl,?_⟩
      exact zb ((hb1 _).trans (hb2.mono (by rw [alloc_size];omega))) (Nat.le_refl _)
  · have h1:kids.length=1:=by
     rcases Nat.decEq kids.length 1 with h | h
     · exact absurd (.inl h) hno
     · exact h
    have h3:(st.f s).kind=3:=by
     rcases Int.instDecidableEq (st.f s).kind 3 with h | h
     · exact absurd (.inr h) hno
     · exact h
    obtain ⟨x,rfl⟩:∃ x,kids=[x]:=by
     match kids,h1 with
     | [x],_=>exact ⟨x,rfl⟩
    have hxn:=hn x (by simp)
    have HK:=Lib.hid hK
    obtain ⟨_,_,er,_,hKr⟩:=hK
    simp only [Value.slice.injEq] at er
    obtain ⟨rfl,-,rfl⟩:=er
    obtain ⟨g,off,c0,c1,c2,c3,c4,c5,rfl,_,hg,_,h0,i1,i2,i3,i4,i5,hr⟩:=hKr 0 x rfl
    simp only [Nat.zero_mul,Nat.add_zero] at h0 i1 i2 i3 i4 i5
    have hRp:=Lib.hid hr
    cases n with
    | zero=>exact hr.elim
    | succ n=>
    obtain ⟨_,kvx,hv,kax,kcx,rfl,_,_⟩:=hr
    simp only [Value.agg.injEq,Array.mk.injEq,List.cons.injEq,and_true] at hv
    obtain ⟨rfl,rfl,rfl,rfl,rfl,rfl⟩:=hv
    have PL:=fun w1 (hb:Below w.heap.size w w1)=>ih B bs k st _ x w1 (hS.below hb) hf hfb (hRp.out.mono hb.size hb) hxn
    have PB:=fun w1 (hb:Below w.heap.size w w1)=>own_all (n+1) B bs k st _ x w1 (hS.below hb) hf hfb (hRp.out.mono hb.size hb) hxn
    rw [cellP_one h3]
    generalize st.f s=m at *
    obtain ⟨mk,ml,mc,mb⟩:=m
    simp only at PF h3 ⊢
    subst h3
    show Calls _ _ #[_,_,.slice _ 1 _,_] _ _
    clear hS hf hfb hn hKr HK hno hxn ih hRp h1
    cases hL:labelP st.f (n+1) x with
    | error y=>
      rw [hL] at PL
      have hy:=label_err _ _ _ _ hL
      have hyb:(y.1 != 0)=true:=by simpa using hy
      clear hL PB
      go_enter Tryz.func50,Tryz.ntmps50
      go_wp2_with (first | (go_at_call 45;refine (PF _).mono ?_;rintro ed w1 ⟨rfl,hb2⟩;have H1:=keep hb2 (heap_alloc_new w _);obtain ⟨q0,q1,q2⟩:=wr_cells H1;have f0:=Lib.frozen_of_heap H1 0;have f1:=Lib.frozen_of_heap H1 1;have f2:=Lib.frozen_of_heap H1 2;have hbx:=(hb1 (w:=w) (.cells #[.int .i64 0,.int .i64 0,.int .i64 0] 67)).trans (hb2.mono (by rw [alloc_size];omega));have z0:=(hbx.cell (p:=⟨g,off,none⟩) hg).trans h0;have z1:=(hbx.cell (p:=⟨g,off+1,none⟩) hg).trans i1;have z2:=(hbx.cell (p:=⟨g,off+2,none⟩) hg).trans i2;have z3:=(hbx.cell (p:=⟨g,off+3,none⟩) hg).trans i3;have z4:=(hbx.cell (p:=⟨g,off+4,none⟩) hg).trans i4;have z5:=(hbx.cell (p:=⟨g,off+5,none⟩) hg).trans i5;have hgw:g<w1.heap.size:=(by have:=hbx.size;omega);have hby:=hbx.alloc hbx.size (.cells #[.int .i64 0,.int .i64 0,.int .i64 0] 67)) | (go_at_call 22;refine (PL _ hbx).mono ?_;rintro ed w2 ⟨rfl,hb3⟩;have hbw:=hbx.trans (hb3.mono hbx.size);have H2:=keep hb3 H1;have q0:=fun o=>(wr_cells (alloc_keep H2 o)).1;have q1:=fun o=>(wr_cells (alloc_keep H2 o)).2.1;have q2:=fun o=>(wr_cells (alloc_keep H2 o)).2.2;have f0:=fun o=>Lib.frozen_of_heap (alloc_keep H2 o) 0;have f1:=fun o=>Lib.frozen_of_heap (alloc_keep H2 o) 1;have f2:=fun o=>Lib.frozen_of_heap (alloc_keep H2 o) 2;have z0:=fun o=>((hbw.alloc hbw.size o).cell (p:=⟨g,off,none⟩) hg).trans h0;have z1:=fun o=>((hbw.alloc hbw.size o).cell (p:=⟨g,off+1,none⟩) hg).trans i1;have z2:=fun o=>((hbw.alloc hbw.size o).cell (p:=⟨g,off+2,none⟩) hg).trans i2;have z3:=fun o=>((hbw.alloc hbw.size o).cell (p:=⟨g,off+3,none⟩) hg).trans i3;have z4:=fun o=>((hbw.alloc hbw.size o).cell (p:=⟨g,off+4,none⟩) hg).trans i4;have z5:=fun o=>((hbw.alloc hbw.size o).cell (p:=⟨g,off+5,none⟩) hg).trans i5))
      obtain ⟨z0,z1,z2,zb⟩:=put3 (alloc_keep H2 (.cells #[.int .i64 y.1,.int .i64 y.2,.int .i64 0] 67)) (.int .i64 y.1) (.int .i64 y.2) (.int .i64 0)
      try simp only [Exit.inBlock,Exit.then]
      refine bodyPost_ret (v:=.agg #[.int .i64 y.1,.int .i64 y.2,.int .i64 0]) (by simp [results,Tryz.results50,go_sem,z0,z1,z2,Result.andThen]) rfl ⟨rfl,?_⟩
      exact zb (hbw.alloc hbw.size _) (Nat.le_refl _)
    | ok l=>
      rw [hL] at PL
      clear hL
      by_cases hl0:l=0
      · subst hl0
        have hrg:=boundP st.f (n+1) x
        generalize boundP st.f (n+1) x=q at PB ⊢
        by_cases hq:mc<=q
        · have hqq:(if (0:Int)≠0 then Except.error (4,x.at_) else if mc<=q then Except.error (3,x.at_) else Except.ok ml:Except Er Int)=.error (3,x.at_):=by rw [if_neg (by decide),if_pos hq]
          show Calls _ _ _ _ (OwnR w (if (0:Int)≠0 then Except.error (4,x.at_) else if mc<=q then Except.error (3,x.at_) else Except.ok ml))
          rw [hqq]
          clear hqq hrg
          go_enter Tryz.func50,Tryz.ntmps50
          go_wp2_with (first | (go_at_call 45;refine (PF _).mono ?_;rintro ed w1 ⟨rfl,hb2⟩;have H1:=keep hb2 (heap_alloc_new w _);obtain ⟨q0,q1,q2⟩:=wr_cells H1;have f0:=Lib.frozen_of_heap H1 0;have f1:=Lib.frozen_of_heap H1 1;have f2:=Lib.frozen_of_heap H1 2;have hbx:=(hb1 (w:=w) (.cells #[.int .i64 0,.int .i64 0,.int .i64 0] 67)).trans (hb2.mono (by rw [alloc_size];omega));have z0:=(hbx.cell (p:=⟨g,off,none⟩) hg).trans h0;have z1:=(hbx.cell (p:=⟨g,off+1,none⟩) hg).trans i1;have z2:=(hbx.cell (p:=⟨g,off+2,none⟩) hg).trans i2;have z3:=(hbx.cell (p:=⟨g,off+3,none⟩) hg).trans i3;have z4:=(hbx.cell (p:=⟨g,off+4,none⟩) hg).trans i4;have z5:=(hbx.cell (p:=⟨g,off+5,none⟩) hg).trans i5;have hgw:g<w1.heap.size:=(by have:=hbx.size;omega);have hby:=hbx.alloc hbx.size (.cells #[.int .i64 0,.int .i64 0,.int .i64 0] 67)) | (go_at_call 22;refine (PL _ hbx).mono ?_;rintro ed w2 ⟨rfl,hb3⟩;have hbw:=hbx.trans (hb3.mono hbx.size);have H2:=keep hb3 H1;have q0:=fun o=>(wr_cells (alloc_keep H2 o)).1;have q1:=fun o=>(wr_cells (alloc_keep H2 o)).2.1;have q2:=fun o=>(wr_cells (alloc_keep H2 o)).2.2;have f0:=fun o=>Lib.frozen_of_heap (alloc_keep H2 o) 0;have f1:=fun o=>Lib.frozen_of_heap (alloc_keep H2 o) 1;have f2:=fun o=>Lib.frozen_of_heap (alloc_keep H2 o) 2;have z0:=fun o=>((hbw.alloc hbw.size o).cell (p:=⟨g,off,none⟩) hg).trans h0;have z1:=fun o=>((hbw.alloc hbw.size o).cell (p:=⟨g,off+1,none⟩) hg).trans i1;have z2:=fun o=>((hbw.alloc hbw.size o).cell (p:=⟨g,off+2,none⟩) hg).trans i2;have z3:=fun o=>((hbw.alloc hbw.size o).cell (p:=⟨g,off+3,none⟩) hg).trans i3;have z4:=fun o=>((hbw.alloc hbw.size o).cell (p:=⟨g,off+4,none⟩) hg).trans i4;have z5:=fun o=>((hbw.alloc hbw.size o).cell (p:=⟨g,off+5,none⟩) hg).trans i5) | (go_at_call 20;refine (PB _ (hbw.alloc hbw.size _)).mono ?_;rintro ed w3 ⟨rfl,hb4⟩;have hbu:=hbw.alloc hbw.size (.cells #[.int .i64 0,.int .i64 0,.int .i64 0] 67);have hbv:=hbu.trans (hb4.mono hbu.size);have H4:=keep hb4 (alloc_keep H2 _);obtain ⟨t0,t1,t2⟩:=wr_cells H4;have u0:=Lib.frozen_of_heap H4 0;have u1:=Lib.frozen_of_heap H4 1;have u2:=Lib.frozen_of_heap H4 2;have y5:=(hbv.cell (p:=⟨g,off+5,none⟩) hg).trans i5))
          obtain ⟨z0,z1,z2,zb⟩:=put3 H4 (.int .i64 3) (.int .i64 x.at_) (.int .i64 0)
          try simp only [Exit.inBlock,Exit.then]
          refine bodyPost_ret (v:=.agg #[.int .i64 3,.int .i64 x.at_,.int .i64 0]) (by simp [results,Tryz.results50,go_sem,z0,z1,z2,Result.andThen]) rfl ⟨rfl,?_⟩
          exact zb hbv (Nat.le_refl _)
        · have hqq:(if (0:Int)≠0 then Except.error (4,x.at_) else if mc<=q then Except.error (3,x.at_) else Except.ok ml:Except Er Int)=.ok ml:=by rw [if_neg (by decide),if_neg hq]
          show Calls _ _ _ _ (OwnR w (if (0:Int)≠0 then Except.error (4,x.at_) else if mc<=q then Except.error (3,x.at_) else Except.ok ml))
          rw [hqq]
          clear hqq hrg
          go_enter Tryz.func50,Tryz.ntmps50
          go_wp2_with (first | (go_at_call 45;refine (PF _).mono ?_;rintro ed w1 ⟨rfl,hb2⟩;have H1:=keep hb2 (heap_alloc_new w _);obtain ⟨q0,q1,q2⟩:=wr_cells H1;have f0:=Lib.frozen_of_heap H1 0;have f1:=Lib.frozen_of_heap H1 1;have f2:=Lib.frozen_of_heap H1 2;have hbx:=(hb1 (w:=w) (.cells #[.int .i64 0,.int .i64 0,.int .i64 0] 67)).trans (hb2.mono (by rw [alloc_size];omega));have z0:=(hbx.cell (p:=⟨g,off,none⟩) hg).trans h0;have z1:=(hbx.cell (p:=⟨g,off+1,none⟩) hg).trans i1;have z2:=(hbx.cell (p:=⟨g,off+2,none⟩) hg).trans i2;have z3:=(hbx.cell (p:=⟨g,off+3,none⟩) hg).trans i3;have z4:=(hbx.cell (p:=⟨g,off+4,none⟩) hg).trans i4;have z5:=(hbx.cell (p:=⟨g,off+5,none⟩) hg).trans i5;have hgw:g<w1.heap.size:=(by have:=hbx.size;omega);have hby:=hbx.alloc hbx.size (.cells #[.int .i64 0,.int .i64 0,.int .i64 0] 67)) | (go_at_call 22;refine (PL _ hbx).mono ?_;rintro ed w2 ⟨rfl,hb3⟩;have hbw:=hbx.trans (hb3.mono hbx.size);have H2:=keep hb3 H1;have q0:=fun o=>(wr_cells (alloc_keep H2 o)).1;have q1:=fun o=>(wr_cells (alloc_keep H2 o)).2.1;have q2:=fun o=>(wr_cells (alloc_keep H2 o)).2.2;have f0:=fun o=>Lib.frozen_of_heap (alloc_keep H2 o) 0;have f1:=fun o=>Lib.frozen_of_heap (alloc_keep H2 o) 1;have f2:=fun o=>Lib.frozen_of_heap (alloc_keep H2 o) 2;have z0:=fun o=>((hbw.alloc hbw.size o).cell (p:=⟨g,off,none⟩) hg).trans h0;have z1:=fun o=>((hbw.alloc hbw.size o).cell (p:=⟨g,off+1,none⟩) hg).trans i1;have z2:=fun o=>((hbw.alloc hbw.size o).cell (p:=⟨g,off+2,none⟩) hg).trans i2;have z3:=fun o=>((hbw.alloc hbw.size o).cell (p:=⟨g,off+3,none⟩) hg).trans i3;have z4:=fun o=>((hbw.alloc hbw.size o).cell (p:=⟨g,off+4,none⟩) hg).trans i4;have z5:=fun o=>((hbw.alloc hbw.size o).cell (p:=⟨g,off+5,none⟩) hg).trans i5) | (go_at_call 20;refine (PB _ (hbw.alloc hbw.size _)).mono ?_;rintro ed w3 ⟨rfl,hb4⟩;have hbu:=hbw.alloc hbw.size (.cells #[.int .i64 0,.int .i64 0,.int .i64 0] 67);have hbv:=hbu.trans (hb4.mono hbu.size);have H4:=keep hb4 (alloc_keep H2 _);obtain ⟨t0,t1,t2⟩:=wr_cells H4;have u0:=Lib.frozen_of_heap H4 0;have u1:=Lib.frozen_of_heap H4 1;have u2:=Lib.frozen_of_heap H4 2;have y5:=(hbv.cell (p:=⟨g,off+5,none⟩) hg).trans i5))
          obtain ⟨z0,z1,z2,zb⟩:=put3 H4 (.int .i64 0) (.int .i64 0) (.int .i64 ml)
          try simp only [Exit.inBlock,Exit.then]
          refine bodyPost_ret (v:=.agg #[.int .i64 0,.int .i64 0,.int .i64 ml]) (by simp [results,Tryz.results50,go_sem,z0,z1,z2,Result.andThen]) rfl ⟨rfl,?_⟩
          exact zb hbv (Nat.le_refl _)
      · show Calls _ _ _ _ (OwnR w (if l≠0 then Except.error (4,x.at_) else if mc<=boundP st.f (n+1) x then Except.error (3,x.at_) else Except.ok ml))
        rw [if_pos hl0]
        clear PB
        go_enter Tryz.func50,Tryz.ntmps50
        go_wp2_with (first | (go_at_call 45;refine (PF _).mono ?_;rintro ed w1 ⟨rfl,hb2⟩;have H1:=keep hb2 (heap_alloc_new w _);obtain ⟨q0,q1,q2⟩:=wr_cells H1;have f0:=Lib.frozen_of_heap H1 0;have f1:=Lib.frozen_of_heap H1 1;have f2:=Lib.frozen_of_heap H1 2;have hbx:=(hb1 (w:=w) (.cells #[.int .i64 0,.int .i64 0,.int .i64 0] 67)).trans (hb2.mono (by rw [alloc_size];omega));have z0:=(hbx.cell (p:=⟨g,off,none⟩) hg).trans h0;have z1:=(hbx.cell (p:=⟨g,off+1,none⟩) hg).trans i1;have z2:=(hbx.cell (p:=⟨g,off+2,none⟩) hg).trans i2;have z3:=(hbx.cell (p:=⟨g,off+3,none⟩) hg).trans i3;have z4:=(hbx.cell (p:=⟨g,off+4,none⟩) hg).trans i4;have z5:=(hbx.cell (p:=⟨g,off+5,none⟩) hg).trans i5;have hgw:g<w1.heap.size:=(by have:=hbx.size;omega);have hby:=hbx.alloc hbx.size (.cells #[.int .i64 0,.int .i64 0,.int .i64 0] 67)) | (go_at_call 22;refine (PL _ hbx).mono ?_;rintro ed w2 ⟨rfl,hb3⟩;have hbw:=hbx.trans (hb3.mono hbx.size);have H2:=keep hb3 H1;have q0:=fun o=>(wr_cells (alloc_keep H2 o)).1;have q1:=fun o=>(wr_cells (alloc_keep H2 o)).2.1;have q2:=fun o=>(wr_cells (alloc_keep H2 o)).2.2;have f0:=fun o=>Lib.frozen_of_heap (alloc_keep H2 o) 0;have f1:=fun o=>Lib.frozen_of_heap (alloc_keep H2 o) 1;have f2:=fun o=>Lib.frozen_of_heap (alloc_keep H2 o) 2;have z0:=fun o=>((hbw.alloc hbw.size o).cell (p:=⟨g,off,none⟩) hg).trans h0;have z1:=fun o=>((hbw.alloc hbw.size o).cell (p:=⟨g,off+1,none⟩) hg).trans i1;have z2:=fun o=>((hbw.alloc hbw.size o).cell (p:=⟨g,off+2,none⟩) hg).trans i2;have z3:=fun o=>((hbw.alloc hbw.size o).cell (p:=⟨g,off+3,none⟩) hg).trans i3;have z4:=fun o=>((hbw.alloc hbw.size o).cell (p:=⟨g,off+4,none⟩) hg).trans i4;have z5:=fun o=>((hbw.alloc hbw.size o).cell (p:=⟨g,off+5,none⟩) hg).trans i5))
        obtain ⟨z0,z1,z2,zb⟩:=put3 (alloc_keep H2 (.cells #[.int .i64 0,.int .i64 0,.int .i64 l] 67)) (.int .i64 4) (.int .i64 x.at_) (.int .i64 0)
        try simp only [Exit.inBlock,Exit.then]
        refine bodyPost_ret (v:=.agg #[.int .i64 4,.int .i64 x.at_,.int .i64 0]) (by simp [results,Tryz.results50,go_sem,z0,z1,z2,Result.andThen]) rfl ⟨rfl,?_⟩
        exact zb (hbw.alloc hbw.size _) (Nat.le_refl _)
theorem ownE_succ {n:Nat} (ih:OwnEC n):OwnEC (n+1):=fun B bs k st v e w hS hf hfb hE hn=>by
  obtain ⟨hv,kv,rfl,hK⟩:=hE
  have HK:=Lib.hid hK
  obtain ⟨ka,kc,rfl,hl,_⟩:=hK
  have hb1:∀ o,Below w.heap.size w (w.alloc o):=fun o=>(Below.refl _ _).alloc (Nat.le_refl _) o
  have hb2:∀ o o',Below w.heap.size w ((w.alloc o).alloc o'):=fun o o'=>(hb1 o).alloc (hb1 o).size o'
  have PF:=fun w1 (hb:Below w.heap.size w w1)=>Sc.find_any (hS.below hb) e.name (nm_le hn.1)
  have PC:=fun w1 (hb:Below w.heap.size w w1)=>ownCell_of (at_:=e.at_) ih (hS.below hb) hf hfb hn.1 hn.2 (kids_later HK.out hb)
  obtain ⟨K,hKd⟩:∃ K,e.kind=K:=⟨_,rfl⟩
  by_cases h0:K=0
  · subst h0
    rw [label_0 hKd,hKd]
    clear PF PC hS HK hKd hn hf hfb
    go_enter Tryz.func22,Tryz.ntmps22
    go_wp2
    try simp only [Exit.inBlock,Exit.then]
    exact bodyPost_ret (v:=.agg #[.int .i64 0,.int .i64 0,.int .i64 0]) (by simp [results,Tryz.results22,go_sem,Result.andThen]) rfl ⟨rfl,hb2 _ _⟩
  by_cases h1:K=1
  · subst h1
    rw [label_1 hKd,hKd]
    clear PC hS HK hKd hn hf hfb
    unfold nameP
    generalize st.f e.name=m at *
    obtain ⟨mk,ml,mc,mb⟩:=m
    simp only at PF ⊢
    by_cases h:mk=2\/mk=4\/mk=5
    · rw [if_pos h]
      rcases h with rfl | rfl | rfl
      all_goals
        go_enter Tryz.func22,Tryz.ntmps22
        go_wp2_with (go_at_call 45;refine (PF _ (hb2 _ _)).mono ?_;rintro ed w1 ⟨rfl,hbF⟩;have hbw:=(hb2 _ _).trans (hbF.mono (by rw [alloc_size,alloc_size];omega));have H1:=keep hbF (heap_alloc_new (w.alloc _) _);rw [alloc_size] at H1;have f0:=Lib.frozen_of_heap H1 0;have f1:=Lib.frozen_of_heap H1 1;have f2:=Lib.frozen_of_heap H1 2;obtain ⟨q0,q1,q2⟩:=wr_cells H1;obtain ⟨r0,r1,r2,r3,r4,r5⟩:=six_cells (keep hbF (alloc_keep (heap_alloc_new w _) _)))
        obtain ⟨z0,z1,z2,zb⟩:=put3 H1 (.int .i64 0) (.int .i64 0) (.int .i64 ml)
        try simp only [Exit.inBlock,Exit.then]
        refine bodyPost_ret (v:=.agg #[.int .i64 0,.int .i64 0,.int .i64 ml]) (by simp [results,Tryz.results22,go_sem,z0,z1,z2,Result.andThen]) rfl ⟨rfl,?_⟩
        exact zb hbw (Nat.le_succ _)
    · rw [if_neg h]
      have h2:¬ mk=2:=fun e=>h (.inl e)
      have h4:¬ mk=4:=fun e=>h (.inr (.inl e))
      have b2:(mk == 2)=false:=by simpa using h2
      have b4:(mk == 4)=false:=by simpa using fun e=>h (.inr (.inl e))
      have b5:(mk == 5)=false:=by simpa using fun e=>h (.inr (.inr e))
      clear h h2 h4
      go_enter Tryz.func22,Tryz.ntmps22
      go_wp2_with (go_at_call 45;refine (PF _ (hb2 _ _)).mono ?_;rintro ed w1 ⟨rfl,hbF⟩;have hbw:=(hb2 _ _).trans (hbF.mono (by rw [alloc_size,alloc_size];omega));have H1:=keep hbF (heap_alloc_new (w.alloc _) _);rw [alloc_size] at H1;have f0:=Lib.frozen_of_heap H1 0;have f1:=Lib.frozen_of_heap H1 1;have f2:=Lib.frozen_of_heap H1 2;obtain ⟨q0,q1,q2⟩:=wr_cells H1;obtain ⟨r0,r1,r2,r3,r4,r5⟩:=six_cells (keep hbF (alloc_keep (heap_alloc_new w _) _)))
      obtain ⟨z0,z1,z2,zb⟩:=put3 H1 (.int .i64 3) (.int .i64 e.at_) (.int .i64 0)
      try simp only [Exit.inBlock,Exit.then]
      refine bodyPost_ret (v:=.agg #[.int .i64 3,.int .i64 e.at_,.int .i64 0]) (by simp [results,Tryz.results22,go_sem,z0,z1,z2,Result.andThen]) rfl ⟨rfl,?_⟩
      exact zb hbw (Nat.le_succ _)
  by_cases h2:K=2
  · subst h2
    rw [label_2 hKd,hKd]
    clear PF hS HK hKd hn hf hfb
    cases hr:cellP st.f (labelP st.f n) (boundP st.f n) e.name e.kids e.at_ with
    | ok l=>
      rw [hr] at PC
      clear hr
      go_enter Tryz.func22,Tryz.ntmps22
      go_wp2_with (go_at_call 50;refine (PC _ (hb2 _ _)).mono ?_;rintro ed w1 ⟨rfl,hbF⟩;have hbw:=(hb2 _ _).trans (hbF.mono (by rw [alloc_size,alloc_size];omega));have H1:=keep hbF (heap_alloc_new (w.alloc _) _);rw [alloc_size] at H1;have f0:=Lib.frozen_of_heap H1 0;have f1:=Lib.frozen_of_heap H1 1;have f2:=Lib.frozen_of_heap H1 2;obtain ⟨q0,q1,q2⟩:=wr_cells H1;obtain ⟨r0,r1,r2,r3,r4,r5⟩:=six_cells (keep hbF (alloc_keep (heap_alloc_new w _) _)))
      obtain ⟨z0,z1,z2,zb⟩:=put3 H1 (.int .i64 0) (.int .i64 0) (.int .i64 l)
      try simp only [Exit.inBlock,Exit.then]
      refine bodyPost_ret (v:=.agg #[.int .i64 0,.int .i64 0,.int .i64 l]) (by simp [results,Tryz.results22,go_sem,z0,z1,z2,Result.andThen]) rfl ⟨rfl,?_⟩
      exact zb hbw (Nat.le_succ _)
    | error y=>
      rw [hr] at PC
      clear hr
      go_enter Tryz.func22,Tryz.ntmps22
      go_wp2_with (go_at_call 50;refine (PC _ (hb2 _ _)).mono ?_;rintro ed w1 ⟨rfl,hbF⟩;have hbw:=(hb2 _ _).trans (hbF.mono (by rw [alloc_size,alloc_size];omega));have H1:=keep hbF (heap_alloc_new (w.alloc _) _);rw [alloc_size] at H1;have f0:=Lib.frozen_of_heap H1 0;have f1:=Lib.frozen_of_heap H1 1;have f2:=Lib.frozen_of_heap H1 2;obtain ⟨q0,q1,q2⟩:=wr_cells H1;obtain ⟨r0,r1,r2,r3,r4,r5⟩:=six_cells (keep hbF (alloc_keep (heap_alloc_new w _) _)))
      obtain ⟨z0,z1,z2,zb⟩:=put3 H1 (.int .i64 y.1) (.int .i64 y.2) (.int .i64 0)
      try simp only [Exit.inBlock,Exit.then]
      refine bodyPost_ret (v:=.agg #[.int .i64 y.1,.int .i64 y.2,.int .i64 0]) (by simp [results,Tryz.results22,go_sem,z0,z1,z2,Result.andThen]) rfl ⟨rfl,?_⟩
      exact zb hbw (Nat.le_succ _)
  rw [label_e (by omega) (by omega) (by omega),hKd]
  have hK0:¬ K=0:=h0
  have hK1:¬ K=1:=h1
  have hK2:¬ K=2:=h2
  have k0:(K == 0)=false:=by simpa using h0
  have k1:(K == 1)=false:=by simpa using h1
  have k2:(K == 2)=false:=by simpa using h2
  obtain ⟨R,hR⟩:∃ R,allP (labelP st.f n) 0 e.kids=R:=⟨_,rfl⟩
  rw [hR]
  have HR:=Lib.hid hR
  have HS:=Lib.hid hS
  have HF:=Lib.hid hf
  have HFB:=Lib.hid hfb
  have HN:=Lib.hid hn.2
  obtain ⟨W0,hW0⟩:∃ W0,W0=(w.alloc (.cells #[.int .i64 K,.int .i64 e.op,.string e.name,.int .u64 e.value,.slice ka e.kids.length kc,.int .i64 e.at_] 50)).alloc (.cells #[.int .i64 0,.int .i64 0,.int .i64 0] 67):=⟨_,rfl⟩
  have hW:Below w.heap.size w W0:=by rw [hW0];exact hb2 _ _
  have H0:W0.heap[w.heap.size+1]?=some (.cells #[.int .i64 0,.int .i64 0,.int .i64 0] 67 (0,0)):=by
    rw [hW0];have:=heap_alloc_new (w.alloc (.cells #[.int .i64 K,.int .i64 e.op,.string e.name,.int .u64 e.value,.slice ka e.kids.length kc,.int .i64 e.at_] 50)) (.cells #[.int .i64 0,.int .i64 0,.int .i64 0] 67);rwa [alloc_size] at this
  have hz0:w.heap.size+2<=W0.heap.size:=by rw [hW0,alloc_size,alloc_size];omega
  clear PF PC hS hKd hn hf hfb hR h0 h1 h2
  go_enter Tryz.func22,Tryz.ntmps22
  go_wp2
  go_loopw [9,57] (fun s i wr=>∃ (j:Nat) (a:Int),j<=e.kids.length/\i=.int .i64 j/\s=.int .i64 a/\(a=0\/a=1)/\Below W0.heap.size W0 wr/\allP (labelP st.f n) a (e.kids.drop j)=R) (fun _ i _=>e.kids.length-(intOf i).toNat)
  case atStart=>exact ⟨0,0,Nat.zero_le _,rfl,rfl,.inl rfl,by rw [hW0];exact Below.refl _ _,HR.out⟩
  case round=>
    clear hW0
    obtain ⟨j,al,hj,rfl,rfl,ha,hbr,hres⟩:=hrel
    have hzr:=hbr.size
    have hwr:=hW.trans (hbr.mono hW.size)
    have HW:=Lib.hid hwr
    by_cases hlt:j<e.kids.length
    · obtain ⟨x,hx⟩:∃ x,e.kids[j]?=some x:=⟨e.kids[j],by simp [hlt]⟩
      have hxn:=HN.out x (List.mem_of_getElem? hx)
      rw [all_at _ _ _ _ _ hx] at hres
      obtain ⟨_,_,er,_,hKr⟩:=kids_later HK.out hwr
      simp only [Value.slice.injEq] at er
      obtain ⟨rfl,-,rfl⟩:=er
      obtain ⟨g,off,c0,c1,c2,c3,c4,c5,rfl,_,hg,_,i0,i1,i2,i3,i4,i5,hr⟩:=hKr j x hx
      have hRp:=Lib.hid hr
      cases n with
      | zero=>exact hr.elim
      | succ n=>
      obtain ⟨_,kvx,hv,kax,kcx,rfl,_,_⟩:=hr
      simp only [Value.agg.injEq,Array.mk.injEq,List.cons.injEq,and_true] at hv
      obtain ⟨rfl,rfl,rfl,rfl,rfl,rfl⟩:=hv
      have hb3:∀ o,Below wr.heap.size wr (wr.alloc o):=fun o=>(Below.refl _ _).alloc (Nat.le_refl _) o
      have P:=fun o=>ih B bs k st _ x (wr.alloc o) (HS.out.below (hwr.trans ((hb3 o).mono hwr.size))) HF.out HFB.out (hRp.out.mono (hb3 o).size (hb3 o)) hxn
      have H1:=keep hbr H0
      clear hKr hx hxn hwr
      cases hL:labelP st.f (n+1) x with
      | error y=>
        rw [hL] at P hres
        have hy:=label_err _ _ _ _ hL
        have hyb:(y.1 != 0)=true:=by simpa using hy
        have HRs:=Lib.hid hres
        clear hL hres
        rw [<- HRs.out]
        go_wp2_with (go_at_call 22;refine (P _).mono ?_;rintro ed w1 ⟨rfl,hb4⟩;have hb5:=hbr.trans (((hb3 _).trans (hb4.mono (hb3 _).size)).mono hzr);have hbe:=fun o=>hb5.alloc hb5.size o;have H2:=keep hb5 H0;have f0:=fun o=>Lib.frozen_of_heap (alloc_keep H2 o) 0;have f1:=fun o=>Lib.frozen_of_heap (alloc_keep H2 o) 1;have f2:=fun o=>Lib.frozen_of_heap (alloc_keep H2 o) 2;have q0:=fun o=>(wr_cells (alloc_keep H2 o)).1;have q1:=fun o=>(wr_cells (alloc_keep H2 o)).2.1;have q2:=fun o=>(wr_cells (alloc_keep H2 o)).2.2)
        obtain ⟨z0,z1,z2,zb⟩:=put3 (alloc_keep H2 (.cells #[.int .i64 y.1,.int .i64 y.2,.int .i64 0] 67)) (.int .i64 y.1) (.int .i64 y.2) (.int .i64 0)
        try simp only [Exit.inBlock,Exit.then]
        refine bodyPost_ret (v:=.agg #[.int .i64 y.1,.int .i64 y.2,.int .i64 0]) (by simp [results,Tryz.results22,go_sem,z0,z1,z2,Result.andThen]) rfl ⟨rfl,?_⟩
        exact zb (hW.trans ((hbe _).mono hW.size)) (Nat.le_succ _)
      | ok l=>
        rw [hL] at P hres
        by_cases hl0:l=0
        · subst hl0
          have e1:joinI al 0=al:=by unfold joinI;rcases ha with rfl | rfl <;> rfl
          replace hres:allP (labelP st.f (n+1)) (joinI al 0) (e.kids.drop (j+1))=R:=hres
          rw [e1] at hres
          have HRs:=Lib.hid hres
          clear hL hres
          go_wp2_with (go_at_call 22;refine (P _).mono ?_;rintro ed w1 ⟨rfl,hb4⟩;have hb5:=hbr.trans (((hb3 _).trans (hb4.mono (hb3 _).size)).mono hzr);have hbe:=fun o=>hb5.alloc hb5.size o;have H2:=keep hb5 H0;have f0:=fun o=>Lib.frozen_of_heap (alloc_keep H2 o) 0;have f1:=fun o=>Lib.frozen_of_heap (alloc_keep H2 o) 1;have f2:=fun o=>Lib.frozen_of_heap (alloc_keep H2 o) 2;have q0:=fun o=>(wr_cells (alloc_keep H2 o)).1;have q1:=fun o=>(wr_cells (alloc_keep H2 o)).2.1;have q2:=fun o=>(wr_cells (alloc_keep H2 o)).2.2)
          go_roundw
          case rel=>exact ⟨j+1,al,by omega,by go_num,rfl,ha,hbe _,HRs.out⟩
          case measure=>simp [intOf];omega
        · have e1:joinI al l=1:=by unfold joinI;rw [if_pos (.inr hl0)]
          have hlb:(l != 0)=true:=by simpa using hl0
          replace hres:allP (labelP st.f (n+1)) (joinI al l) (e.kids.drop (j+1))=R:=hres
          rw [e1] at hres
          have HRs:=Lib.hid hres
          clear hL hres
          go_wp2_with (go_at_call 22;refine (P _).mono ?_;rintro ed w1 ⟨rfl,hb4⟩;have hb5:=hbr.trans (((hb3 _).trans (hb4.mono (hb3 _).size)).mono hzr);have hbe:=fun o=>hb5.alloc hb5.size o;have H2:=keep hb5 H0;have f0:=fun o=>Lib.frozen_of_heap (alloc_keep H2 o) 0;have f1:=fun o=>Lib.frozen_of_heap (alloc_keep H2 o) 1;have f2:=fun o=>Lib.frozen_of_heap (alloc_keep H2 o) 2;have q0:=fun o=>(wr_cells (alloc_keep H2 o)).1;have q1:=fun o=>(wr_cells (alloc_keep H2 o)).2.1;have q2:=fun o=>(wr_cells (alloc_keep H2 o)).2.2)
          go_roundw
          case rel=>exact ⟨j+1,1,by omega,by go_num,rfl,.inr rfl,hbe _,HRs.out⟩
          case measure=>simp [intOf];omega
    · obtain rfl:j=e.kids.length:=by omega
      rw [List.drop_length] at hres
      have HRs:=Lib.hid hres
      clear hres
      have H1:=keep hbr H0
      have f0:=Lib.frozen_of_heap H1 0
      have f1:=Lib.frozen_of_heap H1 1
      have f2:=Lib.frozen_of_heap H1 2
      obtain ⟨q0,q1,q2⟩:=wr_cells H1
      go_wp2
      rw [<- HRs.out]
      obtain ⟨z0,z1,z2,zb⟩:=put3 H1 (.int .i64 0) (.int .i64 0) (.int .i64 al)
      try simp only [Exit.inBlock,Exit.then]
      refine bodyPost_ret (v:=.agg #[.int .i64 0,.int .i64 0,.int .i64 al]) (by simp [results,Tryz.results22,go_sem,z0,z1,z2,Result.andThen]) rfl ⟨rfl,?_⟩
      exact zb HW.out (Nat.le_succ _)
theorem ownE_all:∀ n,OwnEC n
  | 0=>fun _ _ _ _ _ _ _ _ _ _ h _=>h.elim
  | n+1=>ownE_succ (ownE_all n)
end Go.Proofs.YtlepckjmdjjolaaGreatDoor.Fl
