/- Own texts laid together: FlOwnH, FlOwnS0, FlOwnS1, FlOwnS2, FlOwnS3, FlOwnS4, FlOwnS5. Conditions: as each theorem says. -/
import Derived.Test.YtlepckjmdjjolaaGreatDoorHFlOwnE
import Derived.Test.YtlepckjmdjjolaaGreatDoorGFlC
import Derived.Test.YtlepckjmdjjolaaGreatDoorGPGd
import Derived.Test.YtlepckjmdjjolaaGreatDoorHRegMono2
set_option maxHeartbeats 8000000
set_option maxRecDepth 100000
set_option linter.unusedVariables false
set_option linter.unusedSimpArgs false
namespace Go.Proofs.YtlepckjmdjjolaaGreatDoor.Fl
open Go.ChangeShapes Go.WideShapes Go.ChangeAt Go.RowKit
open Sc (Mng mnone put localM putAll Dc declM bad meansOf firstBad none0 ScAt KeepX)
@[reducible] def hdOps:Array Oper:=#[{ dst:=some 20,op:=.fieldAddr 45 (.tmp 4) 6,type:=0,pos := "law.go:125",after:=#[],guard:=none },{ dst:=some 21,op:=.load 3 (.tmp 20),type:=3,pos := "law.go:125",after:=#[{ on:=0,ground:=.data }],guard:=none },{ dst:=some 22,op:=.build 67 #[(0,.const (.int .i64 3)),(1,.tmp 21),(2,.const (.int .i64 0))],type:=67,pos := "law.go:125",after:=#[{ on:=1,ground:=.data }],guard:=none },{ dst:=some 23,op:=.fieldAddr 45 (.tmp 4) 6,type:=0,pos := "law.go:125",after:=#[{ on:=8,ground:=.gcOnly .lateStores }],guard:=none },{ dst:=some 24,op:=.load 3 (.tmp 23),type:=3,pos := "law.go:125",after:=#[{ on:=3,ground:=.data },{ on:=8,ground:=.gcOnly .lateStores }],guard:=none },{ dst:=some 25,op:=.build 67 #[(0,.const (.int .i64 4)),(1,.tmp 24),(2,.const (.int .i64 0))],type:=67,pos := "law.go:125",after:=#[{ on:=4,ground:=.data },{ on:=8,ground:=.gcOnly .lateStores }],guard:=none },{ dst:=some 7,op:=.alloc 67,type:=0,pos := "law.go:125",after:=#[],guard:=none },{ dst:=some 8,op:=.alloc 67,type:=0,pos := "law.go:125",after:=#[],guard:=none },{ dst:=none,op:=.store 67 (.tmp 7) (.tmp 22),type:=0,pos := "law.go:125",after:=#[{ on:=6,ground:=.data },{ on:=2,ground:=.data },{ on:=0,ground:=.phase },{ on:=1,ground:=.phase },{ on:=2,ground:=.phase },{ on:=3,ground:=.textOnly .lateStores },{ on:=4,ground:=.textOnly .lateStores },{ on:=5,ground:=.textOnly .lateStores },{ on:=6,ground:=.phase },{ on:=7,ground:=.phase }],guard:=none },{ dst:=none,op:=.store 67 (.tmp 8) (.tmp 25),type:=0,pos := "law.go:125",after:=#[{ on:=7,ground:=.data },{ on:=5,ground:=.data },{ on:=8,ground:=.chain },{ on:=0,ground:=.phase },{ on:=1,ground:=.phase },{ on:=2,ground:=.phase },{ on:=3,ground:=.phase },{ on:=4,ground:=.phase },{ on:=5,ground:=.phase },{ on:=6,ground:=.phase },{ on:=7,ground:=.phase },{ on:=8,ground:=.phase }],guard:=none }]
def hdV (xb:Nat) (at_:Int) (g:Nat × Nat):Nat->Value
  | 0=>.pointer (some ⟨xb,6,none⟩)
  | 1=>.int .i64 at_
  | 2=>.agg #[.int .i64 3,.int .i64 at_,.int .i64 0]
  | 3=>.pointer (some ⟨xb,6,none⟩)
  | 4=>.int .i64 at_
  | 5=>.agg #[.int .i64 4,.int .i64 at_,.int .i64 0]
  | 6=>.pointer (some ⟨g.1,0,none⟩)
  | 7=>.pointer (some ⟨g.2,0,none⟩)
  | _=>undef
theorem writeAll_hd (V:Nat->Value) (t:Array Value):writeAll hdOps V t=((((((((t.setIfInBounds 20 (V 0)).setIfInBounds 21 (V 1)).setIfInBounds 22 (V 2)).setIfInBounds 23 (V 3)).setIfInBounds 24 (V 4)).setIfInBounds 25 (V 5)).setIfInBounds 7 (V 6)).setIfInBounds 8 (V 7)):=by kernel_rfl
def mis (n at_:Int) (b:Bool):Array Value:=if b then #[.int .i64 n,.int .i64 at_,.int .i64 0] else #[.int .i64 0,.int .i64 0,.int .i64 0]
def hdInv (W0:World) (at_:Int) (L:Nat->Bool) (g:Nat × Nat) (w:World):Prop:=
  Below W0.heap.size W0 w/\(L 6=true->W0.heap.size<=g.1/\w.heap[g.1]?=some (.cells (mis 3 at_ (L 8)) 67 (0,0)))/\(L 7=true->W0.heap.size<=g.2/\w.heap[g.2]?=some (.cells (mis 4 at_ (L 9)) 67 (0,0)))/\(L 6=true->L 7=true->g.1≠g.2)
theorem hdInv.move {W0:World} {at_:Int} {L:Nat->Bool} {g:Nat × Nat} {w:World} (h:hdInv W0 at_ L g w) (i:Nat) (hi:i<6):hdInv W0 at_ (fun j=>if j=i then true else L j) g w:=by
  obtain ⟨a,b,c,d⟩:=h
  have e:∀ j,6<=j->(if j=i then true else L j)=L j:=fun j hj=>if_neg (by omega)
  unfold hdInv
  simp only [e 6 (by omega),e 7 (by omega),e 8 (by omega),e 9 (by omega)]
  exact ⟨a,b,c,d⟩
theorem put3_heap {w:World} {g:Nat} {t:TypeId} {x0 x1 x2:Value} (h:w.heap[g]?=some (.cells #[x0,x1,x2] t (0,0))) (u0 u1 u2:Value):(putW w g u0 u1 u2).heap[g]?=some (.cells #[u0,u1,u2] t (0,0)):=set_heap (set_heap (set_heap h 0 u0) 1 u1) 2 u2
theorem put3_other {w:World} {g k:Nat} (h:k≠g) (u0 u1 u2:Value):(putW w g u0 u1 u2).heap[k]?=w.heap[k]?:=by
  unfold putW
  rw [Below.heap_setCell _ ⟨g,2,none⟩ _ k h,Below.heap_setCell _ ⟨g,1,none⟩ _ k h,Below.heap_setCell _ ⟨g,0,none⟩ _ k h]
theorem put3_below {B g:Nat} {v w:World} (hb:Below B v w) (hg:B<=g) (u0 u1 u2:Value):Below B v (putW w g u0 u1 u2):=((hb.setCell hg _).setCell hg _).setCell hg _
theorem hd_region {Q:Exit->Act->World->Prop} {a0:Act} {W0:World} (xb:Nat) (at_:Int) (h4:a0.tmps.getD 4 undef=.pointer (some ⟨xb,0,none⟩)) (hxb:xb<W0.heap.size) (hx:W0.cell? ⟨xb,6,none⟩=some (.int .i64 at_)) (hz:a0.tmps.size=184)
    (hend:∀ (g:Nat × Nat) w,Below W0.heap.size W0 w->W0.heap.size<=g.1->W0.heap.size<=g.2->w.heap[g.1]?=some (.cells #[.int .i64 3,.int .i64 at_,.int .i64 0] 67 (0,0))->w.heap[g.2]?=some (.cells #[.int .i64 4,.int .i64 at_,.int .i64 0] 67 (0,0))->Q .normal ⟨writeAll hdOps (hdV xb at_ g) a0.tmps,a0.defers⟩ w):
    (Code.region 1 hdOps true).wp Tryz.prog Q a0 W0:=by
  refine wp_region_slots (by kernel_rfl) (by kernel_rfl) (by kernel_rfl) (by kernel_rfl) (hdV xb at_) (hdInv W0 at_) (0,0) ⟨(Below.refl _ _).drew,fun h=>(by cases h),fun h=>(by cases h),fun h=>by cases h⟩ ?_ (fun L g w hL hI=>?_)
  · intro L g a wr i op hop hLi hpre hC hI hS K hK
    have s4:a.tmps[4]?.getD undef=.pointer (some ⟨xb,0,none⟩):=(hS.old2 4 (by kernel_rfl)).trans h4
    have hxx:wr.cell? ⟨xb,6,none⟩=some (.int .i64 at_):=(hI.1.cell (p:=⟨xb,6,none⟩) hxb).trans hx
    match i with
    | 0=>
      simp only [hdOps,List.getElem?_toArray,List.getElem?_cons_zero,List.getElem?_cons_succ,Option.some.injEq] at hop
      subst hop
      go_simp
      exact hK _ _ ⟨g,fun _=>rfl,fun _ _ _=>rfl,hI.move 0 (by decide)⟩
    | 1=>
      simp only [hdOps,List.getElem?_toArray,List.getElem?_cons_zero,List.getElem?_cons_succ,Option.some.injEq] at hop
      subst hop
      have n0:=hS.new2 0 20 (by kernel_rfl) (pre_at hpre 0 (by kernel_rfl)) (by rw [hz];decide)
      simp only [hdV] at n0
      go_simp
      exact hK _ _ ⟨g,fun _=>rfl,fun _ _ _=>rfl,hI.move 1 (by decide)⟩
    | 2=>
      simp only [hdOps,List.getElem?_toArray,List.getElem?_cons_zero,List.getElem?_cons_succ,Option.some.injEq] at hop
      subst hop
      have n1:=hS.new2 1 21 (by kernel_rfl) (pre_at hpre 1 (by kernel_rfl)) (by rw [hz];decide)
      simp only [hdV] at n1
      go_simp
      exact hK _ _ ⟨g,fun _=>rfl,fun _ _ _=>rfl,hI.move 2 (by decide)⟩
    | 3=>
      simp only [hdOps,List.getElem?_toArray,List.getElem?_cons_zero,List.getElem?_cons_succ,Option.some.injEq] at hop
      subst hop
      go_simp
      exact hK _ _ ⟨g,fun _=>rfl,fun _ _ _=>rfl,hI.move 3 (by decide)⟩
    | 4=>
      simp only [hdOps,List.getElem?_toArray,List.getElem?_cons_zero,List.getElem?_cons_succ,Option.some.injEq] at hop
      subst hop
      have n3:=hS.new2 3 23 (by kernel_rfl) (pre_at hpre 3 (by kernel_rfl)) (by rw [hz];decide)
      simp only [hdV] at n3
      go_simp
      exact hK _ _ ⟨g,fun _=>rfl,fun _ _ _=>rfl,hI.move 4 (by decide)⟩
    | 5=>
      simp only [hdOps,List.getElem?_toArray,List.getElem?_cons_zero,List.getElem?_cons_succ,Option.some.injEq] at hop
      subst hop
      have n4:=hS.new2 4 24 (by kernel_rfl) (pre_at hpre 4 (by kernel_rfl)) (by rw [hz];decide)
      simp only [hdV] at n4
      go_simp
      exact hK _ _ ⟨g,fun _=>rfl,fun _ _ _=>rfl,hI.move 5 (by decide)⟩
    | 6=>
      simp only [hdOps,List.getElem?_toArray,List.getElem?_cons_zero,List.getElem?_cons_succ,Option.some.injEq] at hop
      subst hop
      have no8:L 8=false:=by cases h:L 8 with | false=>rfl | true=>exact absurd (hC.at 8 6 (by kernel_rfl) h) (by simp [hLi])
      obtain ⟨i1,i2,i3,i4⟩:=hI
      have hsz:=i1.size
      go_simp
      refine hK _ _ ⟨(wr.heap.size,g.2),fun _=>rfl,fun j hj hLj=>?_,i1.alloc hsz _,fun h6=>?_,fun h7=>?_,fun h6 h7=>?_⟩
      · unfold hdV;split <;> first | rfl | exact absurd rfl hj
      · refine ⟨hsz,?_⟩
        show (wr.alloc _).heap[wr.heap.size]?=some (.cells (mis 3 at_ (L 8)) 67 (0,0))
        rw [no8]
        exact heap_alloc_new _ _
      · exact ⟨(i3 h7).1,alloc_keep (i3 h7).2 _⟩
      · have:=heap_lt (i3 h7).2
        simp only
        omega
    | 7=>
      simp only [hdOps,List.getElem?_toArray,List.getElem?_cons_zero,List.getElem?_cons_succ,Option.some.injEq] at hop
      subst hop
      have no8:L 9=false:=by cases h:L 9 with | false=>rfl | true=>exact absurd (hC.at 9 7 (by kernel_rfl) h) (by simp [hLi])
      obtain ⟨i1,i2,i3,i4⟩:=hI
      have hsz:=i1.size
      go_simp
      refine hK _ _ ⟨(g.1,wr.heap.size),fun _=>rfl,fun j hj hLj=>?_,i1.alloc hsz _,fun h6=>?_,fun h7=>?_,fun h6 h7=>?_⟩
      · unfold hdV;split <;> first | rfl | exact absurd rfl hj
      · exact ⟨(i2 h6).1,alloc_keep (i2 h6).2 _⟩
      · refine ⟨hsz,?_⟩
        show (wr.alloc _).heap[wr.heap.size]?=some (.cells (mis 4 at_ (L 9)) 67 (0,0))
        rw [no8]
        exact heap_alloc_new _ _
      · have:=heap_lt (i2 h6).2
        simp only
        omega
    | 8=>
      simp only [hdOps,List.getElem?_toArray,List.getElem?_cons_zero,List.getElem?_cons_succ,Option.some.injEq] at hop
      subst hop
      have n2:=hS.new2 2 22 (by kernel_rfl) (pre_at hpre 2 (by kernel_rfl)) (by rw [hz];decide)
      simp only [hdV] at n2
      have n6:=hS.new2 6 7 (by kernel_rfl) (pre_at hpre 6 (by kernel_rfl)) (by rw [hz];decide)
      simp only [hdV] at n6
      obtain ⟨i1,i2,i3,i4⟩:=hI
      have h6:L 6=true:=pre_at hpre 6 (by kernel_rfl)
      have h7:L 7=true:=pre_at hpre 7 (by kernel_rfl)
      have hhd:=(i2 h6).2
      have hgd:=(i2 h6).1
      rw [hLi] at hhd
      obtain ⟨q0,q1,q2⟩:=wr_cells hhd
      have f0:=Lib.frozen_of_heap hhd 0
      have f1:=Lib.frozen_of_heap hhd 1
      have f2:=Lib.frozen_of_heap hhd 2
      go_simp
      refine hK undef _ ⟨g,fun h=>absurd rfl h,fun _ _ _=>rfl,put3_below i1 hgd _ _ _,fun _=>?_,fun _=>?_,fun _ _=>i4 h6 h7⟩
      · exact ⟨hgd,put3_heap hhd _ _ _⟩
      · exact ⟨(i3 h7).1,(put3_other ((i4 h6 h7).symm) _ _ _).trans (i3 h7).2⟩
    | 9=>
      simp only [hdOps,List.getElem?_toArray,List.getElem?_cons_zero,List.getElem?_cons_succ,Option.some.injEq] at hop
      subst hop
      have n5:=hS.new2 5 25 (by kernel_rfl) (pre_at hpre 5 (by kernel_rfl)) (by rw [hz];decide)
      simp only [hdV] at n5
      have n7:=hS.new2 7 8 (by kernel_rfl) (pre_at hpre 7 (by kernel_rfl)) (by rw [hz];decide)
      simp only [hdV] at n7
      obtain ⟨i1,i2,i3,i4⟩:=hI
      have h6:L 6=true:=pre_at hpre 6 (by kernel_rfl)
      have h7:L 7=true:=pre_at hpre 7 (by kernel_rfl)
      have hhd:=(i3 h7).2
      have hgd:=(i3 h7).1
      rw [hLi] at hhd
      obtain ⟨q0,q1,q2⟩:=wr_cells hhd
      have f0:=Lib.frozen_of_heap hhd 0
      have f1:=Lib.frozen_of_heap hhd 1
      have f2:=Lib.frozen_of_heap hhd 2
      go_simp
      refine hK undef _ ⟨g,fun h=>absurd rfl h,fun _ _ _=>rfl,put3_below i1 hgd _ _ _,fun _=>?_,fun _=>?_,fun _ _=>i4 h6 h7⟩
      · exact ⟨(i2 h6).1,(put3_other (i4 h6 h7) _ _ _).trans (i2 h6).2⟩
      · exact ⟨hgd,put3_heap hhd _ _ _⟩
    | k+10=>simp [hdOps] at hop
  · obtain ⟨i1,i2,i3,i4⟩:=hI
    have a:=i2 (hL 6 (by decide))
    have b:=i3 (hL 7 (by decide))
    rw [hL 8 (by decide)] at a
    rw [hL 9 (by decide)] at b
    exact hend g w i1 a.1 b.1 a.2 b.2
theorem scat_full {Z:Nat->Prop} {bs n:Nat} {f:ByteArray->Mng} {ls:List ByteArray} {wa w1:World} (h:ScAt Z bs n f ls wa) (hb:Below wa.heap.size wa w1):ScAt (fun j=>(Z j\/wa.heap.size<=j)/\j<w1.heap.size) bs n f ls w1:=
  (h.more (fun k hk hY=>hY.1.elim id (fun e=>by omega))).below hb
theorem scat_at {X:Nat->Prop} {bs n:Nat} {f:ByteArray->Mng} {ls:List ByteArray} {w:World} (h:ScAt X bs n f ls w) {g:Nat} (hg:X g) (o:Nat) (v:Value):ScAt X bs n f ls (w.setCell ⟨g,o,none⟩ v):=by
  obtain ⟨hX,bm,D,lv,hm,hs,ho,hS,hr,hgg,hl⟩:=h
  refine ⟨hX,bm,D,lv,hm,(Below.heap_setCell _ _ _ _ (show bs≠g from fun e=>hX (e ▸ hg))).trans hs,ho.kept (set_grown w g o v) (fun e=>by cases e;exact hm hg),hS,Sc.own_keep hr fun g' e=>Below.heap_setCell _ _ _ _ (show g'≠g from fun e'=>hgg g' e (e' ▸ hg)),hgg,hl⟩
theorem scat_putw {X:Nat->Prop} {bs n:Nat} {f:ByteArray->Mng} {ls:List ByteArray} {w:World} (h:ScAt X bs n f ls w) {g:Nat} (hg:X g) (u0 u1 u2:Value):ScAt X bs n f ls (putW w g u0 u1 u2):=scat_at (scat_at (scat_at h hg 0 u0) hg 1 u1) hg 2 u2
def OwnX (X:Nat->Prop) (bs k:Nat) (w:World) (r:Except Er St) (e:Ending) (w':World):Prop:=
  KeepX X w w'/\match r with
  | .ok st=>(∃ l:Int,e=.returned (.agg #[.int .i64 0,.int .i64 0,.int .i64 l]))/\ScAt X bs k st.f st.ls w'/\okF st.f/\okB st.f/\st.ls.length<=k
  | .error x=>e=.returned (.agg #[.int .i64 x.1,.int .i64 x.2,.int .i64 0])/\x.1≠0/\∃ f ls,ScAt X bs k f ls w'/\ls.length<=k
theorem end_keep {X Z:Nat->Prop} {bs k:Nat} {w wz:World} {g:Nat} {f:ByteArray->Mng} {ls:List ByteArray} (hS:ScAt Z bs k f ls wz) (hZ:Z g) (hXZ:∀ j,X j->Z j) (hk:KeepX X w wz) (hg:w.heap.size<=g) (u0 u1 u2:Value):
    KeepX X w (putW wz g u0 u1 u2)/\ScAt X bs k f ls (putW wz g u0 u1 u2):=
  ⟨((hk.setCell (.inr hg) _).setCell (.inr hg) _).setCell (.inr hg) _,(scat_putw hS hZ u0 u1 u2).more fun j _ h=>hXZ j h⟩
theorem end_same {X:Nat->Prop} {bs k:Nat} {w wz:World} {g:Nat} {f:ByteArray->Mng} {ls:List ByteArray} (hS:ScAt X bs k f ls w) (hX:∀ j,X j->j<w.heap.size) (hb:Below w.heap.size w wz) (hg:w.heap.size<=g) (hgz:g<wz.heap.size) (u0 u1 u2:Value):
    KeepX X w (putW wz g u0 u1 u2)/\ScAt X bs k f ls (putW wz g u0 u1 u2):=
  end_keep (scat_full hS hb) ⟨.inr hg,hgz⟩ (fun j h=>⟨.inl h,Nat.lt_of_lt_of_le (hX j h) hb.size⟩) (KeepX.of_below hb) hg u0 u1 u2
theorem own_err0 {X:Nat->Prop} {bs k d:Nat} {w wz:World} {g:Nat} {f:ByteArray->Mng} {ls:List ByteArray} (hS:ScAt X bs k f ls w) (hX:∀ j,X j->j<w.heap.size) (hl:ls.length<=k) (x:Er) (hx:x.1≠0) (u0 u1 u2:Value) (hb:Below w.heap.size w wz) (hg:w.heap.size<=g) (hgz:g<wz.heap.size):
    OwnX X bs (k+d) w (.error x) (.returned (.agg #[.int .i64 x.1,.int .i64 x.2,.int .i64 0])) (putW wz g u0 u1 u2):=by
  obtain ⟨h1,h2⟩:=end_same hS hX hb hg hgz u0 u1 u2
  exact ⟨h1,rfl,hx,f,ls,h2.mono (by omega),by omega⟩
theorem own_ok0 {X:Nat->Prop} {bs k d:Nat} {w wz:World} {g:Nat} {st:St} (hS:ScAt X bs k st.f st.ls w) (hX:∀ j,X j->j<w.heap.size) (hf:okF st.f) (hfb:okB st.f) (hl:st.ls.length<=k) (l:Int) (u0 u1 u2:Value) (hb:Below w.heap.size w wz) (hg:w.heap.size<=g) (hgz:g<wz.heap.size):
    OwnX X bs (k+d) w (.ok st) (.returned (.agg #[.int .i64 0,.int .i64 0,.int .i64 l])) (putW wz g u0 u1 u2):=by
  obtain ⟨h1,h2⟩:=end_same hS hX hb hg hgz u0 u1 u2
  exact ⟨h1,⟨l,rfl⟩,h2.mono (by omega),hf,hfb,by omega⟩
def Hd (w W:World) (g:Nat × Nat) (cs:Array Value) (at_:Int):Prop:=
  W.heap[w.heap.size]?=some (.cells cs 45 (0,0))/\W.heap[w.heap.size+1]?=some (.cells #[.int .i64 0,.int .i64 0,.int .i64 0] 67 (0,0)) /\
    W.heap[g.1]?=some (.cells #[.int .i64 3,.int .i64 at_,.int .i64 0] 67 (0,0))/\W.heap[g.2]?=some (.cells #[.int .i64 4,.int .i64 at_,.int .i64 0] 67 (0,0))/\w.heap.size<=g.1/\w.heap.size<=g.2
theorem Hd.on {w W W':World} {g:Nat × Nat} {cs:Array Value} {at_:Int} (h:Hd w W g cs at_) (hb:Below W.heap.size W W'):Hd w W' g cs at_:=
  ⟨Fl.keep hb h.1,Fl.keep hb h.2.1,Fl.keep hb h.2.2.1,Fl.keep hb h.2.2.2.1,h.2.2.2.2⟩
theorem Hd.alloc {w W:World} {g:Nat × Nat} {cs:Array Value} {at_:Int} (h:Hd w W g cs at_) (o:Obj):Hd w (W.alloc o) g cs at_:=h.on ((Below.refl _ _).alloc (Nat.le_refl _) o)
theorem Hd.cells {w W:World} {g:Nat × Nat} {x0 x1 x2 x3 x4 x5 x6:Value} {at_:Int} (h:Hd w W g #[x0,x1,x2,x3,x4,x5,x6] at_):
    (W.cell? ⟨w.heap.size,0,none⟩=some x0/\W.cell? ⟨w.heap.size,1,none⟩=some x1/\W.cell? ⟨w.heap.size,2,none⟩=some x2/\W.cell? ⟨w.heap.size,3,none⟩=some x3/\W.cell? ⟨w.heap.size,4,none⟩=some x4/\W.cell? ⟨w.heap.size,5,none⟩=some x5/\W.cell? ⟨w.heap.size,6,none⟩=some x6) /\
    (W.cell? ⟨w.heap.size+1,0,none⟩=some (.int .i64 0)/\W.cell? ⟨w.heap.size+1,1,none⟩=some (.int .i64 0)/\W.cell? ⟨w.heap.size+1,2,none⟩=some (.int .i64 0)) /\
    (W.cell? ⟨g.1,0,none⟩=some (.int .i64 3)/\W.cell? ⟨g.1,1,none⟩=some (.int .i64 at_)/\W.cell? ⟨g.1,2,none⟩=some (.int .i64 0)) /\
    (W.cell? ⟨g.2,0,none⟩=some (.int .i64 4)/\W.cell? ⟨g.2,1,none⟩=some (.int .i64 at_)/\W.cell? ⟨g.2,2,none⟩=some (.int .i64 0)) /\
    W.frozen? ⟨w.heap.size+1,0,none⟩=false/\W.frozen? ⟨w.heap.size+1,1,none⟩=false/\W.frozen? ⟨w.heap.size+1,2,none⟩=false:=
  ⟨stmt_cells h.1,wr_cells h.2.1,wr_cells h.2.2.1,wr_cells h.2.2.2.1,Lib.frozen_of_heap h.2.1 0,Lib.frozen_of_heap h.2.1 1,Lib.frozen_of_heap h.2.1 2⟩
theorem Hd.keep {w w3 W W':World} {g:Nat × Nat} {cs:Array Value} {at_:Int} {Z:Nat->Prop} (h3:Hd w w3 g cs at_) (h:Hd w W g cs at_) (hk:KeepX Z W W') (hZ:∀ j,w.heap.size<=j->j<w3.heap.size->Z j):Hd w W' g cs at_:=by
  obtain ⟨a,b,c,d,e,f⟩:=h
  obtain ⟨a3,b3,c3,d3,_⟩:=h3
  have key:∀ {j:Nat} {o o':Obj},w.heap.size<=j->w3.heap[j]?=some o'->W.heap[j]?=some o->W'.heap[j]?=some o:=fun hj h3 ho=>(hk.block _ (hZ _ hj (heap_lt h3)) (heap_lt ho)).trans ho
  exact ⟨key (Nat.le_refl _) a3 a,key (Nat.le_succ _) b3 b,key e c3 c,key f d3 d,e,f⟩
theorem hd_of {w W:World} {g:Nat × Nat} {cs:Array Value} {at_:Int} (hbW:Below ((w.alloc (.cells cs 45)).alloc (.cells #[.int .i64 0,.int .i64 0,.int .i64 0] 67)).heap.size ((w.alloc (.cells cs 45)).alloc (.cells #[.int .i64 0,.int .i64 0,.int .i64 0] 67)) W)
    (hg1:((w.alloc (.cells cs 45)).alloc (.cells #[.int .i64 0,.int .i64 0,.int .i64 0] 67)).heap.size<=g.1) (hg2:((w.alloc (.cells cs 45)).alloc (.cells #[.int .i64 0,.int .i64 0,.int .i64 0] 67)).heap.size<=g.2)
    (hT:W.heap[g.1]?=some (.cells #[.int .i64 3,.int .i64 at_,.int .i64 0] 67 (0,0))) (hF:W.heap[g.2]?=some (.cells #[.int .i64 4,.int .i64 at_,.int .i64 0] 67 (0,0))):Below w.heap.size w W/\Hd w W g cs at_:=by
  rw [two_size] at hg1 hg2
  exact ⟨(two_below w _ _).trans (hbW.mono (two_below w _ _).size),Fl.keep hbW (two_first w _ _),Fl.keep hbW (two_second w _ _),hT,hF,by omega,by omega⟩
theorem os_fence {X:Nat->Prop} {bs k d:Nat} {st:St} {sn:ByteArray} {sc sa:Int} {ea ba la:Option Addr} {nE nB nL ec bc lc:Nat} {w:World} (hS:ScAt X bs k st.f st.ls w) (hX:∀ j,X j->j<w.heap.size) (hf:okF st.f) (hfb:okB st.f) (hl:st.ls.length<=k) (hns:sn.size<=35184372088832):
    Calls Tryz.prog 90 #[.pointer (some ⟨bs,0,none⟩),.agg #[.int .i64 8,.string sn,.slice ea nE ec,.int .i64 sc,.slice ba nB bc,.slice la nL lc,.int .i64 sa],.int .i64 0] w (OwnX X bs (k+d) w (.ok st)):=by
  have PF:=fun W (hb:Below w.heap.size w W)=>Sc.find_any (hS.below hb) sn (nm_le hns)
  obtain ⟨mm,hmm⟩:∃ mm,st.f sn=mm:=⟨_,rfl⟩
  rw [hmm] at PF
  obtain ⟨mk,ml,mc,mb⟩:=mm
  simp only at PF
  have EN:=Lib.hid (fun wz (u0 u1 u2:Value) (l:Int) (hb:Below w.heap.size w wz) (hgz:w.heap.size+1<wz.heap.size)=>own_ok0 (d:=d) (g:=w.heap.size+1) hS hX hf hfb hl l u0 u1 u2 hb (by omega) hgz)
  clear hS hX hf hfb hl hns hmm
  go_enter Tryz.func90,Tryz.ntmps90
  go_wp2_with fail
  refine hd_region w.heap.size sa (by rfl) (by rw [two_size];omega) (by rw [Lib.cell_of_heap (two_first w _ _)];rfl) (by rfl) ?_
  intro g W hbW hg1 hg2 hT hF
  obtain ⟨hb0,H⟩:=hd_of hbW hg1 hg2 hT hF
  rw [writeAll_hd]
  simp only [hdV,List.setIfInBounds_toArray,List.set_cons_zero,List.set_cons_succ]
  obtain ⟨⟨x0,x1,x2,x3,x4,x5,x6⟩,⟨r0,r1,r2⟩,⟨t0,t1,t2⟩,⟨e0,e1,e2⟩,f0,f1,f2⟩:=H.cells
  have HH:=Lib.hid H
  clear hbW hg1 hg2 hT hF H
  go_wp2_with (go_at_call 45;refine (PF _ hb0).mono ?_;rintro ed w1 ⟨rfl,hb1⟩;have H1:=Lib.hid (HH.out.on hb1);have hz1:=hb0.trans (hb1.mono hb0.size);obtain ⟨⟨ax0,ax1,ax2,ax3,ax4,ax5,ax6⟩,⟨ar0,ar1,ar2⟩,⟨at0,at1,at2⟩,⟨ae0,ae1,ae2⟩,af0,af1,af2⟩:=H1.out.cells)
  obtain ⟨z0,z1,z2,_⟩:=put3 H1.out.2.1 (.int .i64 0) (.int .i64 0) (.int .i64 0)
  try simp only [Exit.inBlock,Exit.then]
  refine bodyPost_ret (v:=.agg #[.int .i64 0,.int .i64 0,.int .i64 0]) (by simp [results,Tryz.results90,go_sem,z0,z1,z2,Result.andThen]) rfl ?_
  exact EN.out w1 _ _ _ 0 (hz1) (heap_lt H1.out.2.1)
theorem os_leak {X:Nat->Prop} {bs k d:Nat} {st:St} {sn:ByteArray} {sc sa:Int} {ea ba la:Option Addr} {nE nB nL ec bc lc:Nat} {w:World} (hS:ScAt X bs k st.f st.ls w) (hX:∀ j,X j->j<w.heap.size) (hf:okF st.f) (hfb:okB st.f) (hl:st.ls.length<=k) (hns:sn.size<=35184372088832) {K pc:Int} (hK:4<K) (hp:pc≠0):
    Calls Tryz.prog 90 #[.pointer (some ⟨bs,0,none⟩),.agg #[.int .i64 K,.string sn,.slice ea nE ec,.int .i64 sc,.slice ba nB bc,.slice la nL lc,.int .i64 sa],.int .i64 pc] w (OwnX X bs (k+d) w (.error (4,sa))):=by
  have ER:=Lib.hid (fun wz (u0 u1 u2:Value) (x:Er) (hx:x.1≠0) (hb:Below w.heap.size w wz) (hgz:w.heap.size+1<wz.heap.size)=>own_err0 (d:=d) (g:=w.heap.size+1) hS hX hl x hx u0 u1 u2 hb (by omega) hgz)
  have h1:¬ K=4:=by omega
  have h2:(pc != 0)=true:=by simpa using hp
  clear hS hX hf hfb hl hns hp
  go_enter Tryz.func90,Tryz.ntmps90
  go_wp2_with fail
  refine hd_region w.heap.size sa (by rfl) (by rw [two_size];omega) (by rw [Lib.cell_of_heap (two_first w _ _)];rfl) (by rfl) ?_
  intro g W hbW hg1 hg2 hT hF
  obtain ⟨hb0,H⟩:=hd_of hbW hg1 hg2 hT hF
  rw [writeAll_hd]
  simp only [hdV,List.setIfInBounds_toArray,List.set_cons_zero,List.set_cons_succ]
  obtain ⟨⟨x0,x1,x2,x3,x4,x5,x6⟩,⟨r0,r1,r2⟩,⟨t0,t1,t2⟩,⟨e0,e1,e2⟩,f0,f1,f2⟩:=H.cells
  have HH:=Lib.hid H
  clear hbW hg1 hg2 hT hF H
  go_wp2
  obtain ⟨z0,z1,z2,_⟩:=put3 HH.out.2.1 (.int .i64 4) (.int .i64 sa) (.int .i64 0)
  try simp only [Exit.inBlock,Exit.then]
  refine bodyPost_ret (v:=.agg #[.int .i64 4,.int .i64 sa,.int .i64 0]) (by simp [results,Tryz.results90,go_sem,z0,z1,z2,Result.andThen]) rfl ?_
  exact ER.out W _ _ _ (4,sa) (by simp) (hb0) (heap_lt HH.out.2.1)
theorem os_lock5 {X:Nat->Prop} {bs k d:Nat} {st:St} {sn:ByteArray} {sc sa:Int} {ea ba la:Option Addr} {nE nB nL ec bc lc:Nat} {w:World} (hS:ScAt X bs k st.f st.ls w) (hX:∀ j,X j->j<w.heap.size) (hf:okF st.f) (hfb:okB st.f) (hl:st.ls.length<=k) (hns:sn.size<=35184372088832):
    Calls Tryz.prog 90 #[.pointer (some ⟨bs,0,none⟩),.agg #[.int .i64 5,.string sn,.slice ea nE ec,.int .i64 sc,.slice ba nB bc,.slice la nL lc,.int .i64 sa],.int .i64 0] w (OwnX X bs (k+d) w (if (st.f sn).kind=1 then .ok st else .error (3,sa))):=by
  have PF:=fun W (hb:Below w.heap.size w W)=>Sc.find_any (hS.below hb) sn (nm_le hns)
  have EN:=Lib.hid (fun wz (u0 u1 u2:Value) (l:Int) (hb:Below w.heap.size w wz) (hgz:w.heap.size+1<wz.heap.size)=>own_ok0 (d:=d) (g:=w.heap.size+1) hS hX hf hfb hl l u0 u1 u2 hb (by omega) hgz)
  have ER:=Lib.hid (fun wz (u0 u1 u2:Value) (x:Er) (hx:x.1≠0) (hb:Below w.heap.size w wz) (hgz:w.heap.size+1<wz.heap.size)=>own_err0 (d:=d) (g:=w.heap.size+1) hS hX hl x hx u0 u1 u2 hb (by omega) hgz)
  obtain ⟨mm,hmm⟩:∃ mm,st.f sn=mm:=⟨_,rfl⟩
  rw [hmm] at PF ⊢
  obtain ⟨mk,ml,mc,mb⟩:=mm
  simp only at PF ⊢
  clear hS hX hf hfb hl hns hmm
  by_cases h1:mk=1
  · rw [if_pos h1]
    subst h1
    go_enter Tryz.func90,Tryz.ntmps90
    go_wp2_with fail
    refine hd_region w.heap.size sa (by rfl) (by rw [two_size];omega) (by rw [Lib.cell_of_heap (two_first w _ _)];rfl) (by rfl) ?_
    intro g W hbW hg1 hg2 hT hF
    obtain ⟨hb0,H⟩:=hd_of hbW hg1 hg2 hT hF
    rw [writeAll_hd]
    simp only [hdV,List.setIfInBounds_toArray,List.set_cons_zero,List.set_cons_succ]
    obtain ⟨⟨x0,x1,x2,x3,x4,x5,x6⟩,⟨r0,r1,r2⟩,⟨t0,t1,t2⟩,⟨e0,e1,e2⟩,f0,f1,f2⟩:=H.cells
    have HH:=Lib.hid H
    clear hbW hg1 hg2 hT hF H
    go_wp2_with (go_at_call 45;refine (PF _ hb0).mono ?_;rintro ed w1 ⟨rfl,hb1⟩;have H1:=Lib.hid (HH.out.on hb1);have hz1:=hb0.trans (hb1.mono hb0.size);obtain ⟨⟨ax0,ax1,ax2,ax3,ax4,ax5,ax6⟩,⟨ar0,ar1,ar2⟩,⟨at0,at1,at2⟩,⟨ae0,ae1,ae2⟩,af0,af1,af2⟩:=H1.out.cells)
    obtain ⟨z0,z1,z2,_⟩:=put3 H1.out.2.1 (.int .i64 0) (.int .i64 0) (.int .i64 0)
    try simp only [Exit.inBlock,Exit.then]
    refine bodyPost_ret (v:=.agg #[.int .i64 0,.int .i64 0,.int .i64 0]) (by simp [results,Tryz.results90,go_sem,z0,z1,z2,Result.andThen]) rfl ?_
    exact EN.out w1 _ _ _ 0 (hz1) (heap_lt H1.out.2.1)
  · rw [if_neg h1]
    go_enter Tryz.func90,Tryz.ntmps90
    go_wp2_with fail
    refine hd_region w.heap.size sa (by rfl) (by rw [two_size];omega) (by rw [Lib.cell_of_heap (two_first w _ _)];rfl) (by rfl) ?_
    intro g W hbW hg1 hg2 hT hF
    obtain ⟨hb0,H⟩:=hd_of hbW hg1 hg2 hT hF
    rw [writeAll_hd]
    simp only [hdV,List.setIfInBounds_toArray,List.set_cons_zero,List.set_cons_succ]
    obtain ⟨⟨x0,x1,x2,x3,x4,x5,x6⟩,⟨r0,r1,r2⟩,⟨t0,t1,t2⟩,⟨e0,e1,e2⟩,f0,f1,f2⟩:=H.cells
    have HH:=Lib.hid H
    clear hbW hg1 hg2 hT hF H
    go_wp2_with (go_at_call 45;refine (PF _ hb0).mono ?_;rintro ed w1 ⟨rfl,hb1⟩;have H1:=Lib.hid (HH.out.on hb1);have hz1:=hb0.trans (hb1.mono hb0.size);obtain ⟨⟨ax0,ax1,ax2,ax3,ax4,ax5,ax6⟩,⟨ar0,ar1,ar2⟩,⟨at0,at1,at2⟩,⟨ae0,ae1,ae2⟩,af0,af1,af2⟩:=H1.out.cells)
    obtain ⟨z0,z1,z2,_⟩:=put3 H1.out.2.1 (.int .i64 3) (.int .i64 sa) (.int .i64 0)
    try simp only [Exit.inBlock,Exit.then]
    refine bodyPost_ret (v:=.agg #[.int .i64 3,.int .i64 sa,.int .i64 0]) (by simp [results,Tryz.results90,go_sem,z0,z1,z2,Result.andThen]) rfl ?_
    exact ER.out w1 _ _ _ (3,sa) (by simp) (hz1) (heap_lt H1.out.2.1)
theorem os_lock6 {X:Nat->Prop} {bs k d:Nat} {st:St} {sn:ByteArray} {sc sa:Int} {ea ba la:Option Addr} {nE nB nL ec bc lc:Nat} {w:World} (hS:ScAt X bs k st.f st.ls w) (hX:∀ j,X j->j<w.heap.size) (hf:okF st.f) (hfb:okB st.f) (hl:st.ls.length<=k) (hns:sn.size<=35184372088832):
    Calls Tryz.prog 90 #[.pointer (some ⟨bs,0,none⟩),.agg #[.int .i64 6,.string sn,.slice ea nE ec,.int .i64 sc,.slice ba nB bc,.slice la nL lc,.int .i64 sa],.int .i64 0] w (OwnX X bs (k+d) w (if (st.f sn).kind=1 then .ok st else .error (3,sa))):=by
  have PF:=fun W (hb:Below w.heap.size w W)=>Sc.find_any (hS.below hb) sn (nm_le hns)
  have EN:=Lib.hid (fun wz (u0 u1 u2:Value) (l:Int) (hb:Below w.heap.size w wz) (hgz:w.heap.size+1<wz.heap.size)=>own_ok0 (d:=d) (g:=w.heap.size+1) hS hX hf hfb hl l u0 u1 u2 hb (by omega) hgz)
  have ER:=Lib.hid (fun wz (u0 u1 u2:Value) (x:Er) (hx:x.1≠0) (hb:Below w.heap.size w wz) (hgz:w.heap.size+1<wz.heap.size)=>own_err0 (d:=d) (g:=w.heap.size+1) hS hX hl x hx u0 u1 u2 hb (by omega) hgz)
  obtain ⟨mm,hmm⟩:∃ mm,st.f sn=mm:=⟨_,rfl⟩
  rw [hmm] at PF ⊢
  obtain ⟨mk,ml,mc,mb⟩:=mm
  simp only at PF ⊢
  clear hS hX hf hfb hl hns hmm
  by_cases h1:mk=1
  · rw [if_pos h1]
    subst h1
    go_enter Tryz.func90,Tryz.ntmps90
    go_wp2_with fail
    refine hd_region w.heap.size sa (by rfl) (by rw [two_size];omega) (by rw [Lib.cell_of_heap (two_first w _ _)];rfl) (by rfl) ?_
    intro g W hbW hg1 hg2 hT hF
    obtain ⟨hb0,H⟩:=hd_of hbW hg1 hg2 hT hF
    rw [writeAll_hd]
    simp only [hdV,List.setIfInBounds_toArray,List.set_cons_zero,List.set_cons_succ]
    obtain ⟨⟨x0,x1,x2,x3,x4,x5,x6⟩,⟨r0,r1,r2⟩,⟨t0,t1,t2⟩,⟨e0,e1,e2⟩,f0,f1,f2⟩:=H.cells
    have HH:=Lib.hid H
    clear hbW hg1 hg2 hT hF H
    go_wp2_with (go_at_call 45;refine (PF _ hb0).mono ?_;rintro ed w1 ⟨rfl,hb1⟩;have H1:=Lib.hid (HH.out.on hb1);have hz1:=hb0.trans (hb1.mono hb0.size);obtain ⟨⟨ax0,ax1,ax2,ax3,ax4,ax5,ax6⟩,⟨ar0,ar1,ar2⟩,⟨at0,at1,at2⟩,⟨ae0,ae1,ae2⟩,af0,af1,af2⟩:=H1.out.cells)
    obtain ⟨z0,z1,z2,_⟩:=put3 H1.out.2.1 (.int .i64 0) (.int .i64 0) (.int .i64 0)
    try simp only [Exit.inBlock,Exit.then]
    refine bodyPost_ret (v:=.agg #[.int .i64 0,.int .i64 0,.int .i64 0]) (by simp [results,Tryz.results90,go_sem,z0,z1,z2,Result.andThen]) rfl ?_
    exact EN.out w1 _ _ _ 0 (hz1) (heap_lt H1.out.2.1)
  · rw [if_neg h1]
    go_enter Tryz.func90,Tryz.ntmps90
    go_wp2_with fail
    refine hd_region w.heap.size sa (by rfl) (by rw [two_size];omega) (by rw [Lib.cell_of_heap (two_first w _ _)];rfl) (by rfl) ?_
    intro g W hbW hg1 hg2 hT hF
    obtain ⟨hb0,H⟩:=hd_of hbW hg1 hg2 hT hF
    rw [writeAll_hd]
    simp only [hdV,List.setIfInBounds_toArray,List.set_cons_zero,List.set_cons_succ]
    obtain ⟨⟨x0,x1,x2,x3,x4,x5,x6⟩,⟨r0,r1,r2⟩,⟨t0,t1,t2⟩,⟨e0,e1,e2⟩,f0,f1,f2⟩:=H.cells
    have HH:=Lib.hid H
    clear hbW hg1 hg2 hT hF H
    go_wp2_with (go_at_call 45;refine (PF _ hb0).mono ?_;rintro ed w1 ⟨rfl,hb1⟩;have H1:=Lib.hid (HH.out.on hb1);have hz1:=hb0.trans (hb1.mono hb0.size);obtain ⟨⟨ax0,ax1,ax2,ax3,ax4,ax5,ax6⟩,⟨ar0,ar1,ar2⟩,⟨at0,at1,at2⟩,⟨ae0,ae1,ae2⟩,af0,af1,af2⟩:=H1.out.cells)
    obtain ⟨z0,z1,z2,_⟩:=put3 H1.out.2.1 (.int .i64 3) (.int .i64 sa) (.int .i64 0)
    try simp only [Exit.inBlock,Exit.then]
    refine bodyPost_ret (v:=.agg #[.int .i64 3,.int .i64 sa,.int .i64 0]) (by simp [results,Tryz.results90,go_sem,z0,z1,z2,Result.andThen]) rfl ?_
    exact ER.out w1 _ _ _ (3,sa) (by simp) (hz1) (heap_lt H1.out.2.1)
theorem kid_first {B m nE:Nat} {w:World} {ea:Option Addr} {ec:Nat} {es:List Tree} {e:Tree} (hE:Kids 0 B w (fun v' t'=>ERep 0 B w m v' t') (.slice ea nE ec) es) (h0:es[0]?=some e) (hB:B<=w.heap.size):
    ∃ gx ox kx cx,ea=some ⟨gx,ox,none⟩/\gx<w.heap.size/\w.cell? ⟨gx,ox,none⟩=some (.int .i64 e.kind)/\w.cell? ⟨gx,ox+1,none⟩=some (.int .i64 e.op)/\w.cell? ⟨gx,ox+2,none⟩=some (.string e.name)/\w.cell? ⟨gx,ox+3,none⟩=some (.int .u64 e.value)/\w.cell? ⟨gx,ox+4,none⟩=some (.slice kx e.kids.length cx)/\w.cell? ⟨gx,ox+5,none⟩=some (.int .i64 e.at_) /\
      ERep 0 w.heap.size w m (.agg #[.int .i64 e.kind,.int .i64 e.op,.string e.name,.int .u64 e.value,.slice kx e.kids.length cx,.int .i64 e.at_]) e:=by
  obtain ⟨ao,cap,ev,_,hr⟩:=hE
  cases ev
  obtain ⟨g,off,c0,c1,c2,c3,c4,c5,rfl,_,hg,_,i0,i1,i2,i3,i4,i5,hR⟩:=hr 0 e h0
  have hR2:=hR
  cases m with
  | zero=>exact hR.elim
  | succ m=>
  obtain ⟨_,kv,hv,ka,kc,rfl,_,_⟩:=hR
  simp only [Value.agg.injEq,Array.mk.injEq,List.cons.injEq,and_true] at hv
  obtain ⟨rfl,rfl,rfl,rfl,rfl,rfl⟩:=hv
  simp only [Nat.zero_mul,Nat.add_zero] at i0 i1 i2 i3 i4 i5
  exact ⟨g,off,ka,kc,rfl,by omega,i0,i1,i2,i3,i4,i5,hR2.mono hB (Below.refl _ _)⟩
theorem os_9 {m B:Nat} {e:Tree} {pc:Int} {X:Nat->Prop} {bs k d:Nat} {st:St} {sn:ByteArray} {sc sa:Int} {ea ba la:Option Addr} {nB nL ec bc lc:Nat} {w:World} (hS:ScAt X bs k st.f st.ls w) (hX:∀ j,X j->j<w.heap.size) (hXB:∀ j,j<B->X j) (hf:okF st.f) (hfb:okB st.f) (hl:st.ls.length<=k) (hns:sn.size<=35184372088832) (hE:Kids 0 B w (fun v' t'=>ERep 0 B w m v' t') (.slice ea 1 ec) [e]) (hn:nmE m e) (hp:pc=0):
    Calls Tryz.prog 90 #[.pointer (some ⟨bs,0,none⟩),.agg #[.int .i64 9,.string sn,.slice ea 1 ec,.int .i64 sc,.slice ba nB bc,.slice la nL lc,.int .i64 sa],.int .i64 pc] w (OwnX X bs (k+d) w (match labelP st.f m e with | .error x=>.error x | .ok l=>(if l≠0/\(0:Int)=0 then .error (4,sa) else .ok st))):=by
  subst hp
  have PF:=fun W (hb:Below w.heap.size w W)=>Sc.find_any (hS.below hb) sn (nm_le hns)
  obtain ⟨gx,ox,kx,cx,rfl,hgx,i0,i1,i2,i3,i4,i5,hR⟩:=kid_first hE rfl (below_size hX hXB)
  have PE:=fun W (hb:Below w.heap.size w W)=>ownE_all m 0 bs k st _ e W ((hS.more fun j _ h=>absurd h (Nat.not_lt_zero _):ScAt (· < 0) bs k st.f st.ls w).below hb) hf hfb (hR.mono hb.size hb) hn
  have EN:=Lib.hid (fun wz (u0 u1 u2:Value) (l:Int) (hb:Below w.heap.size w wz) (hgz:w.heap.size+1<wz.heap.size)=>own_ok0 (d:=d) (g:=w.heap.size+1) hS hX hf hfb hl l u0 u1 u2 hb (by omega) hgz)
  have ER:=Lib.hid (fun wz (u0 u1 u2:Value) (x:Er) (hx:x.1≠0) (hb:Below w.heap.size w wz) (hgz:w.heap.size+1<wz.heap.size)=>own_err0 (d:=d) (g:=w.heap.size+1) hS hX hl x hx u0 u1 u2 hb (by omega) hgz)
  have PJ:=fun (l:Int) (g:Nat) (w:World) h0 h1=>join_two g l 0 w h0 h1
  cases hL:labelP st.f m e with
  | error y=>
    rw [hL] at PE
    have hy:=label_err _ _ _ _ hL
    have hyb:(y.1 != 0)=true:=by simpa using hy
    show Calls _ _ _ _ (OwnX X bs (k+d) w (.error y))
    generalize st.f sn=mm at PF
    obtain ⟨mk,ml,mc,mb⟩:=mm
    simp only at PF
    clear hS hX hXB hf hfb hl hns hE hn hL EN hR
    go_enter Tryz.func90,Tryz.ntmps90
    go_wp2_with fail
    refine hd_region w.heap.size sa (by rfl) (by rw [two_size];omega) (by rw [Lib.cell_of_heap (two_first w _ _)];rfl) (by rfl) ?_
    intro g W hbW hg1 hg2 hT hF
    obtain ⟨hb0,H⟩:=hd_of hbW hg1 hg2 hT hF
    rw [writeAll_hd]
    simp only [hdV,List.setIfInBounds_toArray,List.set_cons_zero,List.set_cons_succ]
    obtain ⟨⟨x0,x1,x2,x3,x4,x5,x6⟩,⟨r0,r1,r2⟩,⟨t0,t1,t2⟩,⟨e0,e1,e2⟩,f0,f1,f2⟩:=H.cells
    have HH:=Lib.hid H
    clear hbW hg1 hg2 hT hF H
    go_wp2_with (first
     | (go_at_call 22;refine (PE _ hz1).mono ?_;rintro ed w2 ⟨rfl,hb2⟩;have H2:=Lib.hid (H1.out.on hb2);have hz2:=hz1.trans (hb2.mono hz1.size);have bx0:=fun o=>((H2.out.alloc o).cells).1.1;have bx1:=fun o=>((H2.out.alloc o).cells).1.2.1;have bx2:=fun o=>((H2.out.alloc o).cells).1.2.2.1;have bx3:=fun o=>((H2.out.alloc o).cells).1.2.2.2.1;have bx4:=fun o=>((H2.out.alloc o).cells).1.2.2.2.2.1;have bx5:=fun o=>((H2.out.alloc o).cells).1.2.2.2.2.2.1;have bx6:=fun o=>((H2.out.alloc o).cells).1.2.2.2.2.2.2;have br0:=fun o=>((H2.out.alloc o).cells).2.1.1;have br1:=fun o=>((H2.out.alloc o).cells).2.1.2.1;have br2:=fun o=>((H2.out.alloc o).cells).2.1.2.2;have bt0:=fun o=>((H2.out.alloc o).cells).2.2.1.1;have bt1:=fun o=>((H2.out.alloc o).cells).2.2.1.2.1;have bt2:=fun o=>((H2.out.alloc o).cells).2.2.1.2.2;have be0:=fun o=>((H2.out.alloc o).cells).2.2.2.1.1;have be1:=fun o=>((H2.out.alloc o).cells).2.2.2.1.2.1;have be2:=fun o=>((H2.out.alloc o).cells).2.2.2.1.2.2;have bf0:=fun o=>((H2.out.alloc o).cells).2.2.2.2.1;have bf1:=fun o=>((H2.out.alloc o).cells).2.2.2.2.2.1;have bf2:=fun o=>((H2.out.alloc o).cells).2.2.2.2.2.2)
     | (go_at_call 45;refine (PF _ hb0).mono ?_;rintro ed w1 ⟨rfl,hb1⟩;have H1:=Lib.hid (HH.out.on hb1);have hz1:=hb0.trans (hb1.mono hb0.size);obtain ⟨⟨ax0,ax1,ax2,ax3,ax4,ax5,ax6⟩,⟨ar0,ar1,ar2⟩,⟨at0,at1,at2⟩,⟨ae0,ae1,ae2⟩,af0,af1,af2⟩:=H1.out.cells;have k0:=(hz1.cell (p:=⟨gx,ox,none⟩) hgx).trans i0;have k1:=(hz1.cell (p:=⟨gx,ox+1,none⟩) hgx).trans i1;have k2:=(hz1.cell (p:=⟨gx,ox+2,none⟩) hgx).trans i2;have k3:=(hz1.cell (p:=⟨gx,ox+3,none⟩) hgx).trans i3;have k4:=(hz1.cell (p:=⟨gx,ox+4,none⟩) hgx).trans i4;have k5:=(hz1.cell (p:=⟨gx,ox+5,none⟩) hgx).trans i5;have hgw:gx<w1.heap.size:=Nat.lt_of_lt_of_le hgx hz1.size))
    have H3:=H2.out.alloc (.cells #[.int .i64 y.1,.int .i64 y.2,.int .i64 0] 67)
    obtain ⟨z0,z1,z2,_⟩:=put3 H3.2.1 (.int .i64 y.1) (.int .i64 y.2) (.int .i64 0)
    try simp only [Exit.inBlock,Exit.then]
    refine bodyPost_ret (v:=.agg #[.int .i64 y.1,.int .i64 y.2,.int .i64 0]) (by simp [results,Tryz.results90,go_sem,z0,z1,z2,Result.andThen]) rfl ?_
    exact ER.out _ _ _ _ y hy (hz2.alloc hz2.size _) (heap_lt H3.2.1)
  | ok l=>
    rw [hL] at PE
    replace PJ:=PJ l
    obtain ⟨q,hq⟩:∃ q,joinI l 0=q:=⟨_,rfl⟩
    simp only [hq] at PJ
    have hq0:q=0 ↔ l=0:=by
     rw [<- hq]
     unfold joinI
     by_cases h:l=0 <;> simp [h]
    show Calls _ _ _ _ (OwnX X bs (k+d) w (if l≠0/\(0:Int)=0 then .error (4,sa) else .ok st))
    by_cases h0:l=0
    · rw [if_neg (fun h=>h.1 h0)]
      have hb0q:(q != 0)=false:=by simpa using hq0.2 h0
      clear h0 hq0 hq
      obtain ⟨mm,hmm⟩:∃ mm,st.f sn=mm:=⟨_,rfl⟩
      rw [hmm] at PF
      obtain ⟨mk,ml,mc,mb⟩:=mm
      simp only at PF
      clear hS hX hXB hf hfb hl hns hE hn hL hR hmm
      go_enter Tryz.func90,Tryz.ntmps90
      go_wp2_with fail
      refine hd_region w.heap.size sa (by rfl) (by rw [two_size];omega) (by rw [Lib.cell_of_heap (two_first w _ _)];rfl) (by rfl) ?_
      intro g W hbW hg1 hg2 hT hF
      obtain ⟨hb0,H⟩:=hd_of hbW hg1 hg2 hT hF
      rw [writeAll_hd]
      simp only [hdV,List.setIfInBounds_toArray,List.set_cons_zero,List.set_cons_succ]
      obtain ⟨⟨x0,x1,x2,x3,x4,x5,x6⟩,⟨r0,r1,r2⟩,⟨t0,t1,t2⟩,⟨e0,e1,e2⟩,f0,f1,f2⟩:=H.cells
      have HH:=Lib.hid H
      clear hbW hg1 hg2 hT hF H
      go_wp2_with (first
        | (go_at_call 72;refine (PJ _ _ (by rw [Lib.cell_of_heap (two_second _ _ _)];rfl) (by rw [Lib.cell_of_heap (two_second _ _ _)];rfl)).mono ?_;rintro ed w3 ⟨rfl,hw3⟩;have hb3:Below w2.heap.size w2 w3:=(by rw [hw3];exact ((Below.refl _ _).alloc (Nat.le_refl _) _).alloc (by rw [alloc_size];omega) _);have H3:=Lib.hid (H2.out.on hb3);have hz3:=hz2.trans (hb3.mono hz2.size);clear hw3;obtain ⟨⟨cx0,cx1,cx2,cx3,cx4,cx5,cx6⟩,⟨cr0,cr1,cr2⟩,⟨ct0,ct1,ct2⟩,⟨ce0,ce1,ce2⟩,cf0,cf1,cf2⟩:=H3.out.cells)
        | (go_at_call 22;refine (PE _ hz1).mono ?_;rintro ed w2 ⟨rfl,hb2⟩;have H2:=Lib.hid (H1.out.on hb2);have hz2:=hz1.trans (hb2.mono hz1.size);have bx0:=fun o=>((H2.out.alloc o).cells).1.1;have bx1:=fun o=>((H2.out.alloc o).cells).1.2.1;have bx2:=fun o=>((H2.out.alloc o).cells).1.2.2.1;have bx3:=fun o=>((H2.out.alloc o).cells).1.2.2.2.1;have bx4:=fun o=>((H2.out.alloc o).cells).1.2.2.2.2.1;have bx5:=fun o=>((H2.out.alloc o).cells).1.2.2.2.2.2.1;have bx6:=fun o=>((H2.out.alloc o).cells).1.2.2.2.2.2.2;have br0:=fun o=>((H2.out.alloc o).cells).2.1.1;have br1:=fun o=>((H2.out.alloc o).cells).2.1.2.1;have br2:=fun o=>((H2.out.alloc o).cells).2.1.2.2;have bt0:=fun o=>((H2.out.alloc o).cells).2.2.1.1;have bt1:=fun o=>((H2.out.alloc o).cells).2.2.1.2.1;have bt2:=fun o=>((H2.out.alloc o).cells).2.2.1.2.2;have be0:=fun o=>((H2.out.alloc o).cells).2.2.2.1.1;have be1:=fun o=>((H2.out.alloc o).cells).2.2.2.1.2.1;have be2:=fun o=>((H2.out.alloc o).cells).2.2.2.1.2.2;have bf0:=fun o=>((H2.out.alloc o).cells).2.2.2.2.1;have bf1:=fun o=>((H2.out.alloc o).cells).2.2.2.2.2.1;have bf2:=fun o=>((H2.out.alloc o).cells).2.2.2.2.2.2)
        | (go_at_call 45;refine (PF _ hb0).mono ?_;rintro ed w1 ⟨rfl,hb1⟩;have H1:=Lib.hid (HH.out.on hb1);have hz1:=hb0.trans (hb1.mono hb0.size);obtain ⟨⟨ax0,ax1,ax2,ax3,ax4,ax5,ax6⟩,⟨ar0,ar1,ar2⟩,⟨at0,at1,at2⟩,⟨ae0,ae1,ae2⟩,af0,af1,af2⟩:=H1.out.cells;have k0:=(hz1.cell (p:=⟨gx,ox,none⟩) hgx).trans i0;have k1:=(hz1.cell (p:=⟨gx,ox+1,none⟩) hgx).trans i1;have k2:=(hz1.cell (p:=⟨gx,ox+2,none⟩) hgx).trans i2;have k3:=(hz1.cell (p:=⟨gx,ox+3,none⟩) hgx).trans i3;have k4:=(hz1.cell (p:=⟨gx,ox+4,none⟩) hgx).trans i4;have k5:=(hz1.cell (p:=⟨gx,ox+5,none⟩) hgx).trans i5;have hgw:gx<w1.heap.size:=Nat.lt_of_lt_of_le hgx hz1.size))
      obtain ⟨z0,z1,z2,_⟩:=put3 H3.out.2.1 (.int .i64 0) (.int .i64 0) (.int .i64 0)
      try simp only [Exit.inBlock,Exit.then]
      refine bodyPost_ret (v:=.agg #[.int .i64 0,.int .i64 0,.int .i64 0]) (by simp [results,Tryz.results90,go_sem,z0,z1,z2,Result.andThen]) rfl ?_
      exact EN.out w3 _ _ _ 0 (hz3) (heap_lt H3.out.2.1)
    · rw [if_pos ⟨h0,rfl⟩]
      have hb0q:(q != 0)=true:=by simpa using fun h=>h0 (hq0.1 h)
      clear h0 hq0 hq
      obtain ⟨mm,hmm⟩:∃ mm,st.f sn=mm:=⟨_,rfl⟩
      rw [hmm] at PF
      obtain ⟨mk,ml,mc,mb⟩:=mm
      simp only at PF
      clear hS hX hXB hf hfb hl hns hE hn hL hR hmm
      go_enter Tryz.func90,Tryz.ntmps90
      go_wp2_with fail
      refine hd_region w.heap.size sa (by rfl) (by rw [two_size];omega) (by rw [Lib.cell_of_heap (two_first w _ _)];rfl) (by rfl) ?_
      intro g W hbW hg1 hg2 hT hF
      obtain ⟨hb0,H⟩:=hd_of hbW hg1 hg2 hT hF
      rw [writeAll_hd]
      simp only [hdV,List.setIfInBounds_toArray,List.set_cons_zero,List.set_cons_succ]
      obtain ⟨⟨x0,x1,x2,x3,x4,x5,x6⟩,⟨r0,r1,r2⟩,⟨t0,t1,t2⟩,⟨e0,e1,e2⟩,f0,f1,f2⟩:=H.cells
      have HH:=Lib.hid H
      clear hbW hg1 hg2 hT hF H
      go_wp2_with (first
        | (go_at_call 72;refine (PJ _ _ (by rw [Lib.cell_of_heap (two_second _ _ _)];rfl) (by rw [Lib.cell_of_heap (two_second _ _ _)];rfl)).mono ?_;rintro ed w3 ⟨rfl,hw3⟩;have hb3:Below w2.heap.size w2 w3:=(by rw [hw3];exact ((Below.refl _ _).alloc (Nat.le_refl _) _).alloc (by rw [alloc_size];omega) _);have H3:=Lib.hid (H2.out.on hb3);have hz3:=hz2.trans (hb3.mono hz2.size);clear hw3;obtain ⟨⟨cx0,cx1,cx2,cx3,cx4,cx5,cx6⟩,⟨cr0,cr1,cr2⟩,⟨ct0,ct1,ct2⟩,⟨ce0,ce1,ce2⟩,cf0,cf1,cf2⟩:=H3.out.cells)
        | (go_at_call 22;refine (PE _ hz1).mono ?_;rintro ed w2 ⟨rfl,hb2⟩;have H2:=Lib.hid (H1.out.on hb2);have hz2:=hz1.trans (hb2.mono hz1.size);have bx0:=fun o=>((H2.out.alloc o).cells).1.1;have bx1:=fun o=>((H2.out.alloc o).cells).1.2.1;have bx2:=fun o=>((H2.out.alloc o).cells).1.2.2.1;have bx3:=fun o=>((H2.out.alloc o).cells).1.2.2.2.1;have bx4:=fun o=>((H2.out.alloc o).cells).1.2.2.2.2.1;have bx5:=fun o=>((H2.out.alloc o).cells).1.2.2.2.2.2.1;have bx6:=fun o=>((H2.out.alloc o).cells).1.2.2.2.2.2.2;have br0:=fun o=>((H2.out.alloc o).cells).2.1.1;have br1:=fun o=>((H2.out.alloc o).cells).2.1.2.1;have br2:=fun o=>((H2.out.alloc o).cells).2.1.2.2;have bt0:=fun o=>((H2.out.alloc o).cells).2.2.1.1;have bt1:=fun o=>((H2.out.alloc o).cells).2.2.1.2.1;have bt2:=fun o=>((H2.out.alloc o).cells).2.2.1.2.2;have be0:=fun o=>((H2.out.alloc o).cells).2.2.2.1.1;have be1:=fun o=>((H2.out.alloc o).cells).2.2.2.1.2.1;have be2:=fun o=>((H2.out.alloc o).cells).2.2.2.1.2.2;have bf0:=fun o=>((H2.out.alloc o).cells).2.2.2.2.1;have bf1:=fun o=>((H2.out.alloc o).cells).2.2.2.2.2.1;have bf2:=fun o=>((H2.out.alloc o).cells).2.2.2.2.2.2)
        | (go_at_call 45;refine (PF _ hb0).mono ?_;rintro ed w1 ⟨rfl,hb1⟩;have H1:=Lib.hid (HH.out.on hb1);have hz1:=hb0.trans (hb1.mono hb0.size);obtain ⟨⟨ax0,ax1,ax2,ax3,ax4,ax5,ax6⟩,⟨ar0,ar1,ar2⟩,⟨at0,at1,at2⟩,⟨ae0,ae1,ae2⟩,af0,af1,af2⟩:=H1.out.cells;have k0:=(hz1.cell (p:=⟨gx,ox,none⟩) hgx).trans i0;have k1:=(hz1.cell (p:=⟨gx,ox+1,none⟩) hgx).trans i1;have k2:=(hz1.cell (p:=⟨gx,ox+2,none⟩) hgx).trans i2;have k3:=(hz1.cell (p:=⟨gx,ox+3,none⟩) hgx).trans i3;have k4:=(hz1.cell (p:=⟨gx,ox+4,none⟩) hgx).trans i4;have k5:=(hz1.cell (p:=⟨gx,ox+5,none⟩) hgx).trans i5;have hgw:gx<w1.heap.size:=Nat.lt_of_lt_of_le hgx hz1.size))
      obtain ⟨z0,z1,z2,_⟩:=put3 H3.out.2.1 (.int .i64 4) (.int .i64 sa) (.int .i64 0)
      try simp only [Exit.inBlock,Exit.then]
      refine bodyPost_ret (v:=.agg #[.int .i64 4,.int .i64 sa,.int .i64 0]) (by simp [results,Tryz.results90,go_sem,z0,z1,z2,Result.andThen]) rfl ?_
      exact ER.out w3 _ _ _ (4,sa) (by simp) (hz3) (heap_lt H3.out.2.1)
theorem os_7 {m B:Nat} {e:Tree} {pc:Int} {X:Nat->Prop} {bs k d:Nat} {st:St} {sn:ByteArray} {sc sa:Int} {ea ba la:Option Addr} {nB nL ec bc lc:Nat} {w:World} (hS:ScAt X bs k st.f st.ls w) (hX:∀ j,X j->j<w.heap.size) (hXB:∀ j,j<B->X j) (hf:okF st.f) (hfb:okB st.f) (hl:st.ls.length<=k) (hns:sn.size<=35184372088832) (hE:Kids 0 B w (fun v' t'=>ERep 0 B w m v' t') (.slice ea 1 ec) [e]) (hn:nmE m e) (hp:pc=0):
    Calls Tryz.prog 90 #[.pointer (some ⟨bs,0,none⟩),.agg #[.int .i64 7,.string sn,.slice ea 1 ec,.int .i64 sc,.slice ba nB bc,.slice la nL lc,.int .i64 sa],.int .i64 pc] w (OwnX X bs (k+d) w (match labelP st.f m e with | .error x=>.error x | .ok l=>(if (st.f sn).kind=2 then (if l≠0/\(st.f sn).label=0 then .error (4,sa) else .ok st) else .error (3,sa)))):=by
  subst hp
  have PF:=fun W (hb:Below w.heap.size w W)=>Sc.find_any (hS.below hb) sn (nm_le hns)
  obtain ⟨gx,ox,kx,cx,rfl,hgx,i0,i1,i2,i3,i4,i5,hR⟩:=kid_first hE rfl (below_size hX hXB)
  have PE:=fun W (hb:Below w.heap.size w W)=>ownE_all m 0 bs k st _ e W ((hS.more fun j _ h=>absurd h (Nat.not_lt_zero _):ScAt (· < 0) bs k st.f st.ls w).below hb) hf hfb (hR.mono hb.size hb) hn
  have EN:=Lib.hid (fun wz (u0 u1 u2:Value) (l:Int) (hb:Below w.heap.size w wz) (hgz:w.heap.size+1<wz.heap.size)=>own_ok0 (d:=d) (g:=w.heap.size+1) hS hX hf hfb hl l u0 u1 u2 hb (by omega) hgz)
  have ER:=Lib.hid (fun wz (u0 u1 u2:Value) (x:Er) (hx:x.1≠0) (hb:Below w.heap.size w wz) (hgz:w.heap.size+1<wz.heap.size)=>own_err0 (d:=d) (g:=w.heap.size+1) hS hX hl x hx u0 u1 u2 hb (by omega) hgz)
  have PJ:=fun (l:Int) (g:Nat) (w:World) h0 h1=>join_two g l 0 w h0 h1
  cases hL:labelP st.f m e with
  | error y=>
    rw [hL] at PE
    have hy:=label_err _ _ _ _ hL
    have hyb:(y.1 != 0)=true:=by simpa using hy
    show Calls _ _ _ _ (OwnX X bs (k+d) w (.error y))
    generalize st.f sn=mm at PF
    obtain ⟨mk,ml,mc,mb⟩:=mm
    simp only at PF
    clear hS hX hXB hf hfb hl hns hE hn hL EN hR
    go_enter Tryz.func90,Tryz.ntmps90
    go_wp2_with fail
    refine hd_region w.heap.size sa (by rfl) (by rw [two_size];omega) (by rw [Lib.cell_of_heap (two_first w _ _)];rfl) (by rfl) ?_
    intro g W hbW hg1 hg2 hT hF
    obtain ⟨hb0,H⟩:=hd_of hbW hg1 hg2 hT hF
    rw [writeAll_hd]
    simp only [hdV,List.setIfInBounds_toArray,List.set_cons_zero,List.set_cons_succ]
    obtain ⟨⟨x0,x1,x2,x3,x4,x5,x6⟩,⟨r0,r1,r2⟩,⟨t0,t1,t2⟩,⟨e0,e1,e2⟩,f0,f1,f2⟩:=H.cells
    have HH:=Lib.hid H
    clear hbW hg1 hg2 hT hF H
    go_wp2_with (first
     | (go_at_call 22;refine (PE _ hz1).mono ?_;rintro ed w2 ⟨rfl,hb2⟩;have H2:=Lib.hid (H1.out.on hb2);have hz2:=hz1.trans (hb2.mono hz1.size);have bx0:=fun o=>((H2.out.alloc o).cells).1.1;have bx1:=fun o=>((H2.out.alloc o).cells).1.2.1;have bx2:=fun o=>((H2.out.alloc o).cells).1.2.2.1;have bx3:=fun o=>((H2.out.alloc o).cells).1.2.2.2.1;have bx4:=fun o=>((H2.out.alloc o).cells).1.2.2.2.2.1;have bx5:=fun o=>((H2.out.alloc o).cells).1.2.2.2.2.2.1;have bx6:=fun o=>((H2.out.alloc o).cells).1.2.2.2.2.2.2;have br0:=fun o=>((H2.out.alloc o).cells).2.1.1;have br1:=fun o=>((H2.out.alloc o).cells).2.1.2.1;have br2:=fun o=>((H2.out.alloc o).cells).2.1.2.2;have bt0:=fun o=>((H2.out.alloc o).cells).2.2.1.1;have bt1:=fun o=>((H2.out.alloc o).cells).2.2.1.2.1;have bt2:=fun o=>((H2.out.alloc o).cells).2.2.1.2.2;have be0:=fun o=>((H2.out.alloc o).cells).2.2.2.1.1;have be1:=fun o=>((H2.out.alloc o).cells).2.2.2.1.2.1;have be2:=fun o=>((H2.out.alloc o).cells).2.2.2.1.2.2;have bf0:=fun o=>((H2.out.alloc o).cells).2.2.2.2.1;have bf1:=fun o=>((H2.out.alloc o).cells).2.2.2.2.2.1;have bf2:=fun o=>((H2.out.alloc o).cells).2.2.2.2.2.2)
     | (go_at_call 45;refine (PF _ hb0).mono ?_;rintro ed w1 ⟨rfl,hb1⟩;have H1:=Lib.hid (HH.out.on hb1);have hz1:=hb0.trans (hb1.mono hb0.size);obtain ⟨⟨ax0,ax1,ax2,ax3,ax4,ax5,ax6⟩,⟨ar0,ar1,ar2⟩,⟨at0,at1,at2⟩,⟨ae0,ae1,ae2⟩,af0,af1,af2⟩:=H1.out.cells;have k0:=(hz1.cell (p:=⟨gx,ox,none⟩) hgx).trans i0;have k1:=(hz1.cell (p:=⟨gx,ox+1,none⟩) hgx).trans i1;have k2:=(hz1.cell (p:=⟨gx,ox+2,none⟩) hgx).trans i2;have k3:=(hz1.cell (p:=⟨gx,ox+3,none⟩) hgx).trans i3;have k4:=(hz1.cell (p:=⟨gx,ox+4,none⟩) hgx).trans i4;have k5:=(hz1.cell (p:=⟨gx,ox+5,none⟩) hgx).trans i5;have hgw:gx<w1.heap.size:=Nat.lt_of_lt_of_le hgx hz1.size))
    have H3:=H2.out.alloc (.cells #[.int .i64 y.1,.int .i64 y.2,.int .i64 0] 67)
    obtain ⟨z0,z1,z2,_⟩:=put3 H3.2.1 (.int .i64 y.1) (.int .i64 y.2) (.int .i64 0)
    try simp only [Exit.inBlock,Exit.then]
    refine bodyPost_ret (v:=.agg #[.int .i64 y.1,.int .i64 y.2,.int .i64 0]) (by simp [results,Tryz.results90,go_sem,z0,z1,z2,Result.andThen]) rfl ?_
    exact ER.out _ _ _ _ y hy (hz2.alloc hz2.size _) (heap_lt H3.2.1)
  | ok l=>
    rw [hL] at PE
    replace PJ:=PJ l
    obtain ⟨q,hq⟩:∃ q,joinI l 0=q:=⟨_,rfl⟩
    simp only [hq] at PJ
    have hq0:q=0 ↔ l=0:=by
     rw [<- hq]
     unfold joinI
     by_cases h:l=0 <;> simp [h]
    show Calls _ _ _ _ (OwnX X bs (k+d) w (if (st.f sn).kind=2 then (if l≠0/\(st.f sn).label=0 then .error (4,sa) else .ok st) else .error (3,sa)))
    obtain ⟨mm,hmm⟩:∃ mm,st.f sn=mm:=⟨_,rfl⟩
    rw [hmm] at PF ⊢
    obtain ⟨mk,ml,mc,mb⟩:=mm
    simp only at PF ⊢
    clear hS hX hXB hf hfb hl hns hE hn hL hR hmm
    by_cases h2:mk=2
    · rw [if_pos h2]
      subst h2
      by_cases h4:l≠0/\ml=0
      · rw [if_pos h4]
        obtain ⟨h4a,rfl⟩:=h4
        have PY:=flows_no q (fun h=>h4a (hq0.1 h))
        clear hq0 h4a hq
        go_enter Tryz.func90,Tryz.ntmps90
        go_wp2_with fail
        refine hd_region w.heap.size sa (by rfl) (by rw [two_size];omega) (by rw [Lib.cell_of_heap (two_first w _ _)];rfl) (by rfl) ?_
        intro g W hbW hg1 hg2 hT hF
        obtain ⟨hb0,H⟩:=hd_of hbW hg1 hg2 hT hF
        rw [writeAll_hd]
        simp only [hdV,List.setIfInBounds_toArray,List.set_cons_zero,List.set_cons_succ]
        obtain ⟨⟨x0,x1,x2,x3,x4,x5,x6⟩,⟨r0,r1,r2⟩,⟨t0,t1,t2⟩,⟨e0,e1,e2⟩,f0,f1,f2⟩:=H.cells
        have HH:=Lib.hid H
        clear hbW hg1 hg2 hT hF H
        go_wp2_with (first
          | (go_at_call 124;refine (PY _).mono ?_;rintro ed w4 ⟨rfl,hw4⟩;obtain rfl:=hw4.symm)
          | (go_at_call 72;refine (PJ _ _ (by rw [Lib.cell_of_heap (two_second _ _ _)];rfl) (by rw [Lib.cell_of_heap (two_second _ _ _)];rfl)).mono ?_;rintro ed w3 ⟨rfl,hw3⟩;have hb3:Below w2.heap.size w2 w3:=(by rw [hw3];exact ((Below.refl _ _).alloc (Nat.le_refl _) _).alloc (by rw [alloc_size];omega) _);have H3:=Lib.hid (H2.out.on hb3);have hz3:=hz2.trans (hb3.mono hz2.size);clear hw3;obtain ⟨⟨cx0,cx1,cx2,cx3,cx4,cx5,cx6⟩,⟨cr0,cr1,cr2⟩,⟨ct0,ct1,ct2⟩,⟨ce0,ce1,ce2⟩,cf0,cf1,cf2⟩:=H3.out.cells)
          | (go_at_call 22;refine (PE _ hz1).mono ?_;rintro ed w2 ⟨rfl,hb2⟩;have H2:=Lib.hid (H1.out.on hb2);have hz2:=hz1.trans (hb2.mono hz1.size);have bx0:=fun o=>((H2.out.alloc o).cells).1.1;have bx1:=fun o=>((H2.out.alloc o).cells).1.2.1;have bx2:=fun o=>((H2.out.alloc o).cells).1.2.2.1;have bx3:=fun o=>((H2.out.alloc o).cells).1.2.2.2.1;have bx4:=fun o=>((H2.out.alloc o).cells).1.2.2.2.2.1;have bx5:=fun o=>((H2.out.alloc o).cells).1.2.2.2.2.2.1;have bx6:=fun o=>((H2.out.alloc o).cells).1.2.2.2.2.2.2;have br0:=fun o=>((H2.out.alloc o).cells).2.1.1;have br1:=fun o=>((H2.out.alloc o).cells).2.1.2.1;have br2:=fun o=>((H2.out.alloc o).cells).2.1.2.2;have bt0:=fun o=>((H2.out.alloc o).cells).2.2.1.1;have bt1:=fun o=>((H2.out.alloc o).cells).2.2.1.2.1;have bt2:=fun o=>((H2.out.alloc o).cells).2.2.1.2.2;have be0:=fun o=>((H2.out.alloc o).cells).2.2.2.1.1;have be1:=fun o=>((H2.out.alloc o).cells).2.2.2.1.2.1;have be2:=fun o=>((H2.out.alloc o).cells).2.2.2.1.2.2;have bf0:=fun o=>((H2.out.alloc o).cells).2.2.2.2.1;have bf1:=fun o=>((H2.out.alloc o).cells).2.2.2.2.2.1;have bf2:=fun o=>((H2.out.alloc o).cells).2.2.2.2.2.2)
          | (go_at_call 45;refine (PF _ hb0).mono ?_;rintro ed w1 ⟨rfl,hb1⟩;have H1:=Lib.hid (HH.out.on hb1);have hz1:=hb0.trans (hb1.mono hb0.size);obtain ⟨⟨ax0,ax1,ax2,ax3,ax4,ax5,ax6⟩,⟨ar0,ar1,ar2⟩,⟨at0,at1,at2⟩,⟨ae0,ae1,ae2⟩,af0,af1,af2⟩:=H1.out.cells;have k0:=(hz1.cell (p:=⟨gx,ox,none⟩) hgx).trans i0;have k1:=(hz1.cell (p:=⟨gx,ox+1,none⟩) hgx).trans i1;have k2:=(hz1.cell (p:=⟨gx,ox+2,none⟩) hgx).trans i2;have k3:=(hz1.cell (p:=⟨gx,ox+3,none⟩) hgx).trans i3;have k4:=(hz1.cell (p:=⟨gx,ox+4,none⟩) hgx).trans i4;have k5:=(hz1.cell (p:=⟨gx,ox+5,none⟩) hgx).trans i5;have hgw:gx<w1.heap.size:=Nat.lt_of_lt_of_le hgx hz1.size))
        obtain ⟨z0,z1,z2,_⟩:=put3 H3.out.2.1 (.int .i64 4) (.int .i64 sa) (.int .i64 0)
        try simp only [Exit.inBlock,Exit.then]
        refine bodyPost_ret (v:=.agg #[.int .i64 4,.int .i64 sa,.int .i64 0]) (by simp [results,Tryz.results90,go_sem,z0,z1,z2,Result.andThen]) rfl ?_
        exact ER.out w3 _ _ _ (4,sa) (by simp) (hz3) (heap_lt H3.out.2.1)
      · rw [if_neg h4]
        have PY:=flows_yes q ml (by rcases Int.instDecidableEq l 0 with h | h;exact .inr fun e=>h4 ⟨h,e⟩;exact .inl (hq0.2 h))
        clear hq0 h4 hq
        go_enter Tryz.func90,Tryz.ntmps90
        go_wp2_with fail
        refine hd_region w.heap.size sa (by rfl) (by rw [two_size];omega) (by rw [Lib.cell_of_heap (two_first w _ _)];rfl) (by rfl) ?_
        intro g W hbW hg1 hg2 hT hF
        obtain ⟨hb0,H⟩:=hd_of hbW hg1 hg2 hT hF
        rw [writeAll_hd]
        simp only [hdV,List.setIfInBounds_toArray,List.set_cons_zero,List.set_cons_succ]
        obtain ⟨⟨x0,x1,x2,x3,x4,x5,x6⟩,⟨r0,r1,r2⟩,⟨t0,t1,t2⟩,⟨e0,e1,e2⟩,f0,f1,f2⟩:=H.cells
        have HH:=Lib.hid H
        clear hbW hg1 hg2 hT hF H
        go_wp2_with (first
          | (go_at_call 124;refine (PY _).mono ?_;rintro ed w4 ⟨rfl,hw4⟩;obtain rfl:=hw4.symm)
          | (go_at_call 72;refine (PJ _ _ (by rw [Lib.cell_of_heap (two_second _ _ _)];rfl) (by rw [Lib.cell_of_heap (two_second _ _ _)];rfl)).mono ?_;rintro ed w3 ⟨rfl,hw3⟩;have hb3:Below w2.heap.size w2 w3:=(by rw [hw3];exact ((Below.refl _ _).alloc (Nat.le_refl _) _).alloc (by rw [alloc_size];omega) _);have H3:=Lib.hid (H2.out.on hb3);have hz3:=hz2.trans (hb3.mono hz2.size);clear hw3;obtain ⟨⟨cx0,cx1,cx2,cx3,cx4,cx5,cx6⟩,⟨cr0,cr1,cr2⟩,⟨ct0,ct1,ct2⟩,⟨ce0,ce1,ce2⟩,cf0,cf1,cf2⟩:=H3.out.cells)
          | (go_at_call 22;refine (PE _ hz1).mono ?_;rintro ed w2 ⟨rfl,hb2⟩;have H2:=Lib.hid (H1.out.on hb2);have hz2:=hz1.trans (hb2.mono hz1.size);have bx0:=fun o=>((H2.out.alloc o).cells).1.1;have bx1:=fun o=>((H2.out.alloc o).cells).1.2.1;have bx2:=fun o=>((H2.out.alloc o).cells).1.2.2.1;have bx3:=fun o=>((H2.out.alloc o).cells).1.2.2.2.1;have bx4:=fun o=>((H2.out.alloc o).cells).1.2.2.2.2.1;have bx5:=fun o=>((H2.out.alloc o).cells).1.2.2.2.2.2.1;have bx6:=fun o=>((H2.out.alloc o).cells).1.2.2.2.2.2.2;have br0:=fun o=>((H2.out.alloc o).cells).2.1.1;have br1:=fun o=>((H2.out.alloc o).cells).2.1.2.1;have br2:=fun o=>((H2.out.alloc o).cells).2.1.2.2;have bt0:=fun o=>((H2.out.alloc o).cells).2.2.1.1;have bt1:=fun o=>((H2.out.alloc o).cells).2.2.1.2.1;have bt2:=fun o=>((H2.out.alloc o).cells).2.2.1.2.2;have be0:=fun o=>((H2.out.alloc o).cells).2.2.2.1.1;have be1:=fun o=>((H2.out.alloc o).cells).2.2.2.1.2.1;have be2:=fun o=>((H2.out.alloc o).cells).2.2.2.1.2.2;have bf0:=fun o=>((H2.out.alloc o).cells).2.2.2.2.1;have bf1:=fun o=>((H2.out.alloc o).cells).2.2.2.2.2.1;have bf2:=fun o=>((H2.out.alloc o).cells).2.2.2.2.2.2)
          | (go_at_call 45;refine (PF _ hb0).mono ?_;rintro ed w1 ⟨rfl,hb1⟩;have H1:=Lib.hid (HH.out.on hb1);have hz1:=hb0.trans (hb1.mono hb0.size);obtain ⟨⟨ax0,ax1,ax2,ax3,ax4,ax5,ax6⟩,⟨ar0,ar1,ar2⟩,⟨at0,at1,at2⟩,⟨ae0,ae1,ae2⟩,af0,af1,af2⟩:=H1.out.cells;have k0:=(hz1.cell (p:=⟨gx,ox,none⟩) hgx).trans i0;have k1:=(hz1.cell (p:=⟨gx,ox+1,none⟩) hgx).trans i1;have k2:=(hz1.cell (p:=⟨gx,ox+2,none⟩) hgx).trans i2;have k3:=(hz1.cell (p:=⟨gx,ox+3,none⟩) hgx).trans i3;have k4:=(hz1.cell (p:=⟨gx,ox+4,none⟩) hgx).trans i4;have k5:=(hz1.cell (p:=⟨gx,ox+5,none⟩) hgx).trans i5;have hgw:gx<w1.heap.size:=Nat.lt_of_lt_of_le hgx hz1.size))
        obtain ⟨z0,z1,z2,_⟩:=put3 H3.out.2.1 (.int .i64 0) (.int .i64 0) (.int .i64 0)
        try simp only [Exit.inBlock,Exit.then]
        refine bodyPost_ret (v:=.agg #[.int .i64 0,.int .i64 0,.int .i64 0]) (by simp [results,Tryz.results90,go_sem,z0,z1,z2,Result.andThen]) rfl ?_
        exact EN.out w3 _ _ _ 0 (hz3) (heap_lt H3.out.2.1)
    · rw [if_neg h2]
      clear hq0 hq
      go_enter Tryz.func90,Tryz.ntmps90
      go_wp2_with fail
      refine hd_region w.heap.size sa (by rfl) (by rw [two_size];omega) (by rw [Lib.cell_of_heap (two_first w _ _)];rfl) (by rfl) ?_
      intro g W hbW hg1 hg2 hT hF
      obtain ⟨hb0,H⟩:=hd_of hbW hg1 hg2 hT hF
      rw [writeAll_hd]
      simp only [hdV,List.setIfInBounds_toArray,List.set_cons_zero,List.set_cons_succ]
      obtain ⟨⟨x0,x1,x2,x3,x4,x5,x6⟩,⟨r0,r1,r2⟩,⟨t0,t1,t2⟩,⟨e0,e1,e2⟩,f0,f1,f2⟩:=H.cells
      have HH:=Lib.hid H
      clear hbW hg1 hg2 hT hF H
      go_wp2_with (first
        | (go_at_call 72;refine (PJ _ _ (by rw [Lib.cell_of_heap (two_second _ _ _)];rfl) (by rw [Lib.cell_of_heap (two_second _ _ _)];rfl)).mono ?_;rintro ed w3 ⟨rfl,hw3⟩;have hb3:Below w2.heap.size w2 w3:=(by rw [hw3];exact ((Below.refl _ _).alloc (Nat.le_refl _) _).alloc (by rw [alloc_size];omega) _);have H3:=Lib.hid (H2.out.on hb3);have hz3:=hz2.trans (hb3.mono hz2.size);clear hw3;obtain ⟨⟨cx0,cx1,cx2,cx3,cx4,cx5,cx6⟩,⟨cr0,cr1,cr2⟩,⟨ct0,ct1,ct2⟩,⟨ce0,ce1,ce2⟩,cf0,cf1,cf2⟩:=H3.out.cells)
        | (go_at_call 22;refine (PE _ hz1).mono ?_;rintro ed w2 ⟨rfl,hb2⟩;have H2:=Lib.hid (H1.out.on hb2);have hz2:=hz1.trans (hb2.mono hz1.size);have bx0:=fun o=>((H2.out.alloc o).cells).1.1;have bx1:=fun o=>((H2.out.alloc o).cells).1.2.1;have bx2:=fun o=>((H2.out.alloc o).cells).1.2.2.1;have bx3:=fun o=>((H2.out.alloc o).cells).1.2.2.2.1;have bx4:=fun o=>((H2.out.alloc o).cells).1.2.2.2.2.1;have bx5:=fun o=>((H2.out.alloc o).cells).1.2.2.2.2.2.1;have bx6:=fun o=>((H2.out.alloc o).cells).1.2.2.2.2.2.2;have br0:=fun o=>((H2.out.alloc o).cells).2.1.1;have br1:=fun o=>((H2.out.alloc o).cells).2.1.2.1;have br2:=fun o=>((H2.out.alloc o).cells).2.1.2.2;have bt0:=fun o=>((H2.out.alloc o).cells).2.2.1.1;have bt1:=fun o=>((H2.out.alloc o).cells).2.2.1.2.1;have bt2:=fun o=>((H2.out.alloc o).cells).2.2.1.2.2;have be0:=fun o=>((H2.out.alloc o).cells).2.2.2.1.1;have be1:=fun o=>((H2.out.alloc o).cells).2.2.2.1.2.1;have be2:=fun o=>((H2.out.alloc o).cells).2.2.2.1.2.2;have bf0:=fun o=>((H2.out.alloc o).cells).2.2.2.2.1;have bf1:=fun o=>((H2.out.alloc o).cells).2.2.2.2.2.1;have bf2:=fun o=>((H2.out.alloc o).cells).2.2.2.2.2.2)
        | (go_at_call 45;refine (PF _ hb0).mono ?_;rintro ed w1 ⟨rfl,hb1⟩;have H1:=Lib.hid (HH.out.on hb1);have hz1:=hb0.trans (hb1.mono hb0.size);obtain ⟨⟨ax0,ax1,ax2,ax3,ax4,ax5,ax6⟩,⟨ar0,ar1,ar2⟩,⟨at0,at1,at2⟩,⟨ae0,ae1,ae2⟩,af0,af1,af2⟩:=H1.out.cells;have k0:=(hz1.cell (p:=⟨gx,ox,none⟩) hgx).trans i0;have k1:=(hz1.cell (p:=⟨gx,ox+1,none⟩) hgx).trans i1;have k2:=(hz1.cell (p:=⟨gx,ox+2,none⟩) hgx).trans i2;have k3:=(hz1.cell (p:=⟨gx,ox+3,none⟩) hgx).trans i3;have k4:=(hz1.cell (p:=⟨gx,ox+4,none⟩) hgx).trans i4;have k5:=(hz1.cell (p:=⟨gx,ox+5,none⟩) hgx).trans i5;have hgw:gx<w1.heap.size:=Nat.lt_of_lt_of_le hgx hz1.size))
      obtain ⟨z0,z1,z2,_⟩:=put3 H3.out.2.1 (.int .i64 3) (.int .i64 sa) (.int .i64 0)
      try simp only [Exit.inBlock,Exit.then]
      refine bodyPost_ret (v:=.agg #[.int .i64 3,.int .i64 sa,.int .i64 0]) (by simp [results,Tryz.results90,go_sem,z0,z1,z2,Result.andThen]) rfl ?_
      exact ER.out w3 _ _ _ (3,sa) (by simp) (hz3) (heap_lt H3.out.2.1)
theorem os_1 {m B:Nat} {e:Tree} {pc:Int} {X:Nat->Prop} {bs k d:Nat} {st:St} {sn:ByteArray} {sc sa:Int} {ea ba la:Option Addr} {nB nL ec bc lc:Nat} {w:World} (hS:ScAt X bs k st.f st.ls w) (hX:∀ j,X j->j<w.heap.size) (hXB:∀ j,j<B->X j) (hf:okF st.f) (hfb:okB st.f) (hl:st.ls.length<=k) (hns:sn.size<=35184372088832) (hE:Kids 0 B w (fun v' t'=>ERep 0 B w m v' t') (.slice ea 1 ec) [e]) (hn:nmE m e):
    Calls Tryz.prog 90 #[.pointer (some ⟨bs,0,none⟩),.agg #[.int .i64 1,.string sn,.slice ea 1 ec,.int .i64 sc,.slice ba nB bc,.slice la nL lc,.int .i64 sa],.int .i64 pc] w (OwnX X bs (k+d) w (match labelP st.f m e with | .error x=>.error x | .ok l=>(if (st.f sn).kind=4\/(st.f sn).kind=2 then (if joinI l pc≠0/\(st.f sn).label=0 then .error (4,sa) else .ok st) else .error (3,sa)))):=by
  have PF:=fun W (hb:Below w.heap.size w W)=>Sc.find_any (hS.below hb) sn (nm_le hns)
  obtain ⟨gx,ox,kx,cx,rfl,hgx,i0,i1,i2,i3,i4,i5,hR⟩:=kid_first hE rfl (below_size hX hXB)
  have PE:=fun W (hb:Below w.heap.size w W)=>ownE_all m 0 bs k st _ e W ((hS.more fun j _ h=>absurd h (Nat.not_lt_zero _):ScAt (· < 0) bs k st.f st.ls w).below hb) hf hfb (hR.mono hb.size hb) hn
  have EN:=Lib.hid (fun wz (u0 u1 u2:Value) (l:Int) (hb:Below w.heap.size w wz) (hgz:w.heap.size+1<wz.heap.size)=>own_ok0 (d:=d) (g:=w.heap.size+1) hS hX hf hfb hl l u0 u1 u2 hb (by omega) hgz)
  have ER:=Lib.hid (fun wz (u0 u1 u2:Value) (x:Er) (hx:x.1≠0) (hb:Below w.heap.size w wz) (hgz:w.heap.size+1<wz.heap.size)=>own_err0 (d:=d) (g:=w.heap.size+1) hS hX hl x hx u0 u1 u2 hb (by omega) hgz)
  have PJ:=fun (l:Int) (g:Nat) (w:World) h0 h1=>join_two g l pc w h0 h1
  cases hL:labelP st.f m e with
  | error y=>
    rw [hL] at PE
    have hy:=label_err _ _ _ _ hL
    have hyb:(y.1 != 0)=true:=by simpa using hy
    show Calls _ _ _ _ (OwnX X bs (k+d) w (.error y))
    generalize st.f sn=mm at PF
    obtain ⟨mk,ml,mc,mb⟩:=mm
    simp only at PF
    clear hS hX hXB hf hfb hl hns hE hn hL EN hR
    go_enter Tryz.func90,Tryz.ntmps90
    go_wp2_with fail
    refine hd_region w.heap.size sa (by rfl) (by rw [two_size];omega) (by rw [Lib.cell_of_heap (two_first w _ _)];rfl) (by rfl) ?_
    intro g W hbW hg1 hg2 hT hF
    obtain ⟨hb0,H⟩:=hd_of hbW hg1 hg2 hT hF
    rw [writeAll_hd]
    simp only [hdV,List.setIfInBounds_toArray,List.set_cons_zero,List.set_cons_succ]
    obtain ⟨⟨x0,x1,x2,x3,x4,x5,x6⟩,⟨r0,r1,r2⟩,⟨t0,t1,t2⟩,⟨e0,e1,e2⟩,f0,f1,f2⟩:=H.cells
    have HH:=Lib.hid H
    clear hbW hg1 hg2 hT hF H
    go_wp2_with (first
     | (go_at_call 22;refine (PE _ hz1).mono ?_;rintro ed w2 ⟨rfl,hb2⟩;have H2:=Lib.hid (H1.out.on hb2);have hz2:=hz1.trans (hb2.mono hz1.size);have bx0:=fun o=>((H2.out.alloc o).cells).1.1;have bx1:=fun o=>((H2.out.alloc o).cells).1.2.1;have bx2:=fun o=>((H2.out.alloc o).cells).1.2.2.1;have bx3:=fun o=>((H2.out.alloc o).cells).1.2.2.2.1;have bx4:=fun o=>((H2.out.alloc o).cells).1.2.2.2.2.1;have bx5:=fun o=>((H2.out.alloc o).cells).1.2.2.2.2.2.1;have bx6:=fun o=>((H2.out.alloc o).cells).1.2.2.2.2.2.2;have br0:=fun o=>((H2.out.alloc o).cells).2.1.1;have br1:=fun o=>((H2.out.alloc o).cells).2.1.2.1;have br2:=fun o=>((H2.out.alloc o).cells).2.1.2.2;have bt0:=fun o=>((H2.out.alloc o).cells).2.2.1.1;have bt1:=fun o=>((H2.out.alloc o).cells).2.2.1.2.1;have bt2:=fun o=>((H2.out.alloc o).cells).2.2.1.2.2;have be0:=fun o=>((H2.out.alloc o).cells).2.2.2.1.1;have be1:=fun o=>((H2.out.alloc o).cells).2.2.2.1.2.1;have be2:=fun o=>((H2.out.alloc o).cells).2.2.2.1.2.2;have bf0:=fun o=>((H2.out.alloc o).cells).2.2.2.2.1;have bf1:=fun o=>((H2.out.alloc o).cells).2.2.2.2.2.1;have bf2:=fun o=>((H2.out.alloc o).cells).2.2.2.2.2.2)
     | (go_at_call 45;refine (PF _ hb0).mono ?_;rintro ed w1 ⟨rfl,hb1⟩;have H1:=Lib.hid (HH.out.on hb1);have hz1:=hb0.trans (hb1.mono hb0.size);obtain ⟨⟨ax0,ax1,ax2,ax3,ax4,ax5,ax6⟩,⟨ar0,ar1,ar2⟩,⟨at0,at1,at2⟩,⟨ae0,ae1,ae2⟩,af0,af1,af2⟩:=H1.out.cells;have k0:=(hz1.cell (p:=⟨gx,ox,none⟩) hgx).trans i0;have k1:=(hz1.cell (p:=⟨gx,ox+1,none⟩) hgx).trans i1;have k2:=(hz1.cell (p:=⟨gx,ox+2,none⟩) hgx).trans i2;have k3:=(hz1.cell (p:=⟨gx,ox+3,none⟩) hgx).trans i3;have k4:=(hz1.cell (p:=⟨gx,ox+4,none⟩) hgx).trans i4;have k5:=(hz1.cell (p:=⟨gx,ox+5,none⟩) hgx).trans i5;have hgw:gx<w1.heap.size:=Nat.lt_of_lt_of_le hgx hz1.size))
    have H3:=H2.out.alloc (.cells #[.int .i64 y.1,.int .i64 y.2,.int .i64 0] 67)
    obtain ⟨z0,z1,z2,_⟩:=put3 H3.2.1 (.int .i64 y.1) (.int .i64 y.2) (.int .i64 0)
    try simp only [Exit.inBlock,Exit.then]
    refine bodyPost_ret (v:=.agg #[.int .i64 y.1,.int .i64 y.2,.int .i64 0]) (by simp [results,Tryz.results90,go_sem,z0,z1,z2,Result.andThen]) rfl ?_
    exact ER.out _ _ _ _ y hy (hz2.alloc hz2.size _) (heap_lt H3.2.1)
  | ok l=>
    rw [hL] at PE
    replace PJ:=PJ l
    obtain ⟨q,hq⟩:∃ q,joinI l pc=q:=⟨_,rfl⟩
    simp only [hq] at PJ
    show Calls _ _ _ _ (OwnX X bs (k+d) w (if (st.f sn).kind=4\/(st.f sn).kind=2 then (if joinI l pc≠0/\(st.f sn).label=0 then .error (4,sa) else .ok st) else .error (3,sa)))
    rw [hq]
    obtain ⟨mm,hmm⟩:∃ mm,st.f sn=mm:=⟨_,rfl⟩
    rw [hmm] at PF ⊢
    obtain ⟨mk,ml,mc,mb⟩:=mm
    simp only at PF ⊢
    clear hS hX hXB hf hfb hl hns hE hn hL hR hmm
    by_cases h2:mk=4\/mk=2
    · rw [if_pos h2]
      by_cases h4:q≠0/\ml=0
      · rw [if_pos h4]
        obtain ⟨h4a,rfl⟩:=h4
        have PY:=flows_no q h4a
        clear h4a hq
        rcases h2 with rfl | rfl
        · go_enter Tryz.func90,Tryz.ntmps90
          go_wp2_with fail
          refine hd_region w.heap.size sa (by rfl) (by rw [two_size];omega) (by rw [Lib.cell_of_heap (two_first w _ _)];rfl) (by rfl) ?_
          intro g W hbW hg1 hg2 hT hF
          obtain ⟨hb0,H⟩:=hd_of hbW hg1 hg2 hT hF
          rw [writeAll_hd]
          simp only [hdV,List.setIfInBounds_toArray,List.set_cons_zero,List.set_cons_succ]
          obtain ⟨⟨x0,x1,x2,x3,x4,x5,x6⟩,⟨r0,r1,r2⟩,⟨t0,t1,t2⟩,⟨e0,e1,e2⟩,f0,f1,f2⟩:=H.cells
          have HH:=Lib.hid H
          clear hbW hg1 hg2 hT hF H
          go_wp2_with (first
            | (go_at_call 124;refine (PY _).mono ?_;rintro ed w4 ⟨rfl,hw4⟩;obtain rfl:=hw4.symm)
            | (go_at_call 72;refine (PJ _ _ (by rw [Lib.cell_of_heap (two_second _ _ _)];rfl) (by rw [Lib.cell_of_heap (two_second _ _ _)];rfl)).mono ?_;rintro ed w3 ⟨rfl,hw3⟩;have hb3:Below w2.heap.size w2 w3:=(by rw [hw3];exact ((Below.refl _ _).alloc (Nat.le_refl _) _).alloc (by rw [alloc_size];omega) _);have H3:=Lib.hid (H2.out.on hb3);have hz3:=hz2.trans (hb3.mono hz2.size);clear hw3;obtain ⟨⟨cx0,cx1,cx2,cx3,cx4,cx5,cx6⟩,⟨cr0,cr1,cr2⟩,⟨ct0,ct1,ct2⟩,⟨ce0,ce1,ce2⟩,cf0,cf1,cf2⟩:=H3.out.cells)
            | (go_at_call 22;refine (PE _ hz1).mono ?_;rintro ed w2 ⟨rfl,hb2⟩;have H2:=Lib.hid (H1.out.on hb2);have hz2:=hz1.trans (hb2.mono hz1.size);have bx0:=fun o=>((H2.out.alloc o).cells).1.1;have bx1:=fun o=>((H2.out.alloc o).cells).1.2.1;have bx2:=fun o=>((H2.out.alloc o).cells).1.2.2.1;have bx3:=fun o=>((H2.out.alloc o).cells).1.2.2.2.1;have bx4:=fun o=>((H2.out.alloc o).cells).1.2.2.2.2.1;have bx5:=fun o=>((H2.out.alloc o).cells).1.2.2.2.2.2.1;have bx6:=fun o=>((H2.out.alloc o).cells).1.2.2.2.2.2.2;have br0:=fun o=>((H2.out.alloc o).cells).2.1.1;have br1:=fun o=>((H2.out.alloc o).cells).2.1.2.1;have br2:=fun o=>((H2.out.alloc o).cells).2.1.2.2;have bt0:=fun o=>((H2.out.alloc o).cells).2.2.1.1;have bt1:=fun o=>((H2.out.alloc o).cells).2.2.1.2.1;have bt2:=fun o=>((H2.out.alloc o).cells).2.2.1.2.2;have be0:=fun o=>((H2.out.alloc o).cells).2.2.2.1.1;have be1:=fun o=>((H2.out.alloc o).cells).2.2.2.1.2.1;have be2:=fun o=>((H2.out.alloc o).cells).2.2.2.1.2.2;have bf0:=fun o=>((H2.out.alloc o).cells).2.2.2.2.1;have bf1:=fun o=>((H2.out.alloc o).cells).2.2.2.2.2.1;have bf2:=fun o=>((H2.out.alloc o).cells).2.2.2.2.2.2)
            | (go_at_call 45;refine (PF _ hb0).mono ?_;rintro ed w1 ⟨rfl,hb1⟩;have H1:=Lib.hid (HH.out.on hb1);have hz1:=hb0.trans (hb1.mono hb0.size);obtain ⟨⟨ax0,ax1,ax2,ax3,ax4,ax5,ax6⟩,⟨ar0,ar1,ar2⟩,⟨at0,at1,at2⟩,⟨ae0,ae1,ae2⟩,af0,af1,af2⟩:=H1.out.cells;have k0:=(hz1.cell (p:=⟨gx,ox,none⟩) hgx).trans i0;have k1:=(hz1.cell (p:=⟨gx,ox+1,none⟩) hgx).trans i1;have k2:=(hz1.cell (p:=⟨gx,ox+2,none⟩) hgx).trans i2;have k3:=(hz1.cell (p:=⟨gx,ox+3,none⟩) hgx).trans i3;have k4:=(hz1.cell (p:=⟨gx,ox+4,none⟩) hgx).trans i4;have k5:=(hz1.cell (p:=⟨gx,ox+5,none⟩) hgx).trans i5;have hgw:gx<w1.heap.size:=Nat.lt_of_lt_of_le hgx hz1.size))
          obtain ⟨z0,z1,z2,_⟩:=put3 H3.out.2.1 (.int .i64 4) (.int .i64 sa) (.int .i64 0)
          try simp only [Exit.inBlock,Exit.then]
          refine bodyPost_ret (v:=.agg #[.int .i64 4,.int .i64 sa,.int .i64 0]) (by simp [results,Tryz.results90,go_sem,z0,z1,z2,Result.andThen]) rfl ?_
          exact ER.out w3 _ _ _ (4,sa) (by simp) (hz3) (heap_lt H3.out.2.1)
        · go_enter Tryz.func90,Tryz.ntmps90
          go_wp2_with fail
          refine hd_region w.heap.size sa (by rfl) (by rw [two_size];omega) (by rw [Lib.cell_of_heap (two_first w _ _)];rfl) (by rfl) ?_
          intro g W hbW hg1 hg2 hT hF
          obtain ⟨hb0,H⟩:=hd_of hbW hg1 hg2 hT hF
          rw [writeAll_hd]
          simp only [hdV,List.setIfInBounds_toArray,List.set_cons_zero,List.set_cons_succ]
          obtain ⟨⟨x0,x1,x2,x3,x4,x5,x6⟩,⟨r0,r1,r2⟩,⟨t0,t1,t2⟩,⟨e0,e1,e2⟩,f0,f1,f2⟩:=H.cells
          have HH:=Lib.hid H
          clear hbW hg1 hg2 hT hF H
          go_wp2_with (first
            | (go_at_call 124;refine (PY _).mono ?_;rintro ed w4 ⟨rfl,hw4⟩;obtain rfl:=hw4.symm)
            | (go_at_call 72;refine (PJ _ _ (by rw [Lib.cell_of_heap (two_second _ _ _)];rfl) (by rw [Lib.cell_of_heap (two_second _ _ _)];rfl)).mono ?_;rintro ed w3 ⟨rfl,hw3⟩;have hb3:Below w2.heap.size w2 w3:=(by rw [hw3];exact ((Below.refl _ _).alloc (Nat.le_refl _) _).alloc (by rw [alloc_size];omega) _);have H3:=Lib.hid (H2.out.on hb3);have hz3:=hz2.trans (hb3.mono hz2.size);clear hw3;obtain ⟨⟨cx0,cx1,cx2,cx3,cx4,cx5,cx6⟩,⟨cr0,cr1,cr2⟩,⟨ct0,ct1,ct2⟩,⟨ce0,ce1,ce2⟩,cf0,cf1,cf2⟩:=H3.out.cells)
            | (go_at_call 22;refine (PE _ hz1).mono ?_;rintro ed w2 ⟨rfl,hb2⟩;have H2:=Lib.hid (H1.out.on hb2);have hz2:=hz1.trans (hb2.mono hz1.size);have bx0:=fun o=>((H2.out.alloc o).cells).1.1;have bx1:=fun o=>((H2.out.alloc o).cells).1.2.1;have bx2:=fun o=>((H2.out.alloc o).cells).1.2.2.1;have bx3:=fun o=>((H2.out.alloc o).cells).1.2.2.2.1;have bx4:=fun o=>((H2.out.alloc o).cells).1.2.2.2.2.1;have bx5:=fun o=>((H2.out.alloc o).cells).1.2.2.2.2.2.1;have bx6:=fun o=>((H2.out.alloc o).cells).1.2.2.2.2.2.2;have br0:=fun o=>((H2.out.alloc o).cells).2.1.1;have br1:=fun o=>((H2.out.alloc o).cells).2.1.2.1;have br2:=fun o=>((H2.out.alloc o).cells).2.1.2.2;have bt0:=fun o=>((H2.out.alloc o).cells).2.2.1.1;have bt1:=fun o=>((H2.out.alloc o).cells).2.2.1.2.1;have bt2:=fun o=>((H2.out.alloc o).cells).2.2.1.2.2;have be0:=fun o=>((H2.out.alloc o).cells).2.2.2.1.1;have be1:=fun o=>((H2.out.alloc o).cells).2.2.2.1.2.1;have be2:=fun o=>((H2.out.alloc o).cells).2.2.2.1.2.2;have bf0:=fun o=>((H2.out.alloc o).cells).2.2.2.2.1;have bf1:=fun o=>((H2.out.alloc o).cells).2.2.2.2.2.1;have bf2:=fun o=>((H2.out.alloc o).cells).2.2.2.2.2.2)
            | (go_at_call 45;refine (PF _ hb0).mono ?_;rintro ed w1 ⟨rfl,hb1⟩;have H1:=Lib.hid (HH.out.on hb1);have hz1:=hb0.trans (hb1.mono hb0.size);obtain ⟨⟨ax0,ax1,ax2,ax3,ax4,ax5,ax6⟩,⟨ar0,ar1,ar2⟩,⟨at0,at1,at2⟩,⟨ae0,ae1,ae2⟩,af0,af1,af2⟩:=H1.out.cells;have k0:=(hz1.cell (p:=⟨gx,ox,none⟩) hgx).trans i0;have k1:=(hz1.cell (p:=⟨gx,ox+1,none⟩) hgx).trans i1;have k2:=(hz1.cell (p:=⟨gx,ox+2,none⟩) hgx).trans i2;have k3:=(hz1.cell (p:=⟨gx,ox+3,none⟩) hgx).trans i3;have k4:=(hz1.cell (p:=⟨gx,ox+4,none⟩) hgx).trans i4;have k5:=(hz1.cell (p:=⟨gx,ox+5,none⟩) hgx).trans i5;have hgw:gx<w1.heap.size:=Nat.lt_of_lt_of_le hgx hz1.size))
          obtain ⟨z0,z1,z2,_⟩:=put3 H3.out.2.1 (.int .i64 4) (.int .i64 sa) (.int .i64 0)
          try simp only [Exit.inBlock,Exit.then]
          refine bodyPost_ret (v:=.agg #[.int .i64 4,.int .i64 sa,.int .i64 0]) (by simp [results,Tryz.results90,go_sem,z0,z1,z2,Result.andThen]) rfl ?_
          exact ER.out w3 _ _ _ (4,sa) (by simp) (hz3) (heap_lt H3.out.2.1)
      · rw [if_neg h4]
        have PY:=flows_yes q ml (by rcases Int.instDecidableEq q 0 with h | h;exact .inr fun e=>h4 ⟨h,e⟩;exact .inl h)
        clear h4 hq
        rcases h2 with rfl | rfl
        · go_enter Tryz.func90,Tryz.ntmps90
          go_wp2_with fail
          refine hd_region w.heap.size sa (by rfl) (by rw [two_size];omega) (by rw [Lib.cell_of_heap (two_first w _ _)];rfl) (by rfl) ?_
          intro g W hbW hg1 hg2 hT hF
          obtain ⟨hb0,H⟩:=hd_of hbW hg1 hg2 hT hF
          rw [writeAll_hd]
          simp only [hdV,List.setIfInBounds_toArray,List.set_cons_zero,List.set_cons_succ]
          obtain ⟨⟨x0,x1,x2,x3,x4,x5,x6⟩,⟨r0,r1,r2⟩,⟨t0,t1,t2⟩,⟨e0,e1,e2⟩,f0,f1,f2⟩:=H.cells
          have HH:=Lib.hid H
          clear hbW hg1 hg2 hT hF H
          go_wp2_with (first
            | (go_at_call 124;refine (PY _).mono ?_;rintro ed w4 ⟨rfl,hw4⟩;obtain rfl:=hw4.symm)
            | (go_at_call 72;refine (PJ _ _ (by rw [Lib.cell_of_heap (two_second _ _ _)];rfl) (by rw [Lib.cell_of_heap (two_second _ _ _)];rfl)).mono ?_;rintro ed w3 ⟨rfl,hw3⟩;have hb3:Below w2.heap.size w2 w3:=(by rw [hw3];exact ((Below.refl _ _).alloc (Nat.le_refl _) _).alloc (by rw [alloc_size];omega) _);have H3:=Lib.hid (H2.out.on hb3);have hz3:=hz2.trans (hb3.mono hz2.size);clear hw3;obtain ⟨⟨cx0,cx1,cx2,cx3,cx4,cx5,cx6⟩,⟨cr0,cr1,cr2⟩,⟨ct0,ct1,ct2⟩,⟨ce0,ce1,ce2⟩,cf0,cf1,cf2⟩:=H3.out.cells)
            | (go_at_call 22;refine (PE _ hz1).mono ?_;rintro ed w2 ⟨rfl,hb2⟩;have H2:=Lib.hid (H1.out.on hb2);have hz2:=hz1.trans (hb2.mono hz1.size);have bx0:=fun o=>((H2.out.alloc o).cells).1.1;have bx1:=fun o=>((H2.out.alloc o).cells).1.2.1;have bx2:=fun o=>((H2.out.alloc o).cells).1.2.2.1;have bx3:=fun o=>((H2.out.alloc o).cells).1.2.2.2.1;have bx4:=fun o=>((H2.out.alloc o).cells).1.2.2.2.2.1;have bx5:=fun o=>((H2.out.alloc o).cells).1.2.2.2.2.2.1;have bx6:=fun o=>((H2.out.alloc o).cells).1.2.2.2.2.2.2;have br0:=fun o=>((H2.out.alloc o).cells).2.1.1;have br1:=fun o=>((H2.out.alloc o).cells).2.1.2.1;have br2:=fun o=>((H2.out.alloc o).cells).2.1.2.2;have bt0:=fun o=>((H2.out.alloc o).cells).2.2.1.1;have bt1:=fun o=>((H2.out.alloc o).cells).2.2.1.2.1;have bt2:=fun o=>((H2.out.alloc o).cells).2.2.1.2.2;have be0:=fun o=>((H2.out.alloc o).cells).2.2.2.1.1;have be1:=fun o=>((H2.out.alloc o).cells).2.2.2.1.2.1;have be2:=fun o=>((H2.out.alloc o).cells).2.2.2.1.2.2;have bf0:=fun o=>((H2.out.alloc o).cells).2.2.2.2.1;have bf1:=fun o=>((H2.out.alloc o).cells).2.2.2.2.2.1;have bf2:=fun o=>((H2.out.alloc o).cells).2.2.2.2.2.2)
            | (go_at_call 45;refine (PF _ hb0).mono ?_;rintro ed w1 ⟨rfl,hb1⟩;have H1:=Lib.hid (HH.out.on hb1);have hz1:=hb0.trans (hb1.mono hb0.size);obtain ⟨⟨ax0,ax1,ax2,ax3,ax4,ax5,ax6⟩,⟨ar0,ar1,ar2⟩,⟨at0,at1,at2⟩,⟨ae0,ae1,ae2⟩,af0,af1,af2⟩:=H1.out.cells;have k0:=(hz1.cell (p:=⟨gx,ox,none⟩) hgx).trans i0;have k1:=(hz1.cell (p:=⟨gx,ox+1,none⟩) hgx).trans i1;have k2:=(hz1.cell (p:=⟨gx,ox+2,none⟩) hgx).trans i2;have k3:=(hz1.cell (p:=⟨gx,ox+3,none⟩) hgx).trans i3;have k4:=(hz1.cell (p:=⟨gx,ox+4,none⟩) hgx).trans i4;have k5:=(hz1.cell (p:=⟨gx,ox+5,none⟩) hgx).trans i5;have hgw:gx<w1.heap.size:=Nat.lt_of_lt_of_le hgx hz1.size))
          obtain ⟨z0,z1,z2,_⟩:=put3 H3.out.2.1 (.int .i64 0) (.int .i64 0) (.int .i64 0)
          try simp only [Exit.inBlock,Exit.then]
          refine bodyPost_ret (v:=.agg #[.int .i64 0,.int .i64 0,.int .i64 0]) (by simp [results,Tryz.results90,go_sem,z0,z1,z2,Result.andThen]) rfl ?_
          exact EN.out w3 _ _ _ 0 (hz3) (heap_lt H3.out.2.1)
        · go_enter Tryz.func90,Tryz.ntmps90
          go_wp2_with fail
          refine hd_region w.heap.size sa (by rfl) (by rw [two_size];omega) (by rw [Lib.cell_of_heap (two_first w _ _)];rfl) (by rfl) ?_
          intro g W hbW hg1 hg2 hT hF
          obtain ⟨hb0,H⟩:=hd_of hbW hg1 hg2 hT hF
          rw [writeAll_hd]
          simp only [hdV,List.setIfInBounds_toArray,List.set_cons_zero,List.set_cons_succ]
          obtain ⟨⟨x0,x1,x2,x3,x4,x5,x6⟩,⟨r0,r1,r2⟩,⟨t0,t1,t2⟩,⟨e0,e1,e2⟩,f0,f1,f2⟩:=H.cells
          have HH:=Lib.hid H
          clear hbW hg1 hg2 hT hF H
          go_wp2_with (first
            | (go_at_call 124;refine (PY _).mono ?_;rintro ed w4 ⟨rfl,hw4⟩;obtain rfl:=hw4.symm)
            | (go_at_call 72;refine (PJ _ _ (by rw [Lib.cell_of_heap (two_second _ _ _)];rfl) (by rw [Lib.cell_of_heap (two_second _ _ _)];rfl)).mono ?_;rintro ed w3 ⟨rfl,hw3⟩;have hb3:Below w2.heap.size w2 w3:=(by rw [hw3];exact ((Below.refl _ _).alloc (Nat.le_refl _) _).alloc (by rw [alloc_size];omega) _);have H3:=Lib.hid (H2.out.on hb3);have hz3:=hz2.trans (hb3.mono hz2.size);clear hw3;obtain ⟨⟨cx0,cx1,cx2,cx3,cx4,cx5,cx6⟩,⟨cr0,cr1,cr2⟩,⟨ct0,ct1,ct2⟩,⟨ce0,ce1,ce2⟩,cf0,cf1,cf2⟩:=H3.out.cells)
            | (go_at_call 22;refine (PE _ hz1).mono ?_;rintro ed w2 ⟨rfl,hb2⟩;have H2:=Lib.hid (H1.out.on hb2);have hz2:=hz1.trans (hb2.mono hz1.size);have bx0:=fun o=>((H2.out.alloc o).cells).1.1;have bx1:=fun o=>((H2.out.alloc o).cells).1.2.1;have bx2:=fun o=>((H2.out.alloc o).cells).1.2.2.1;have bx3:=fun o=>((H2.out.alloc o).cells).1.2.2.2.1;have bx4:=fun o=>((H2.out.alloc o).cells).1.2.2.2.2.1;have bx5:=fun o=>((H2.out.alloc o).cells).1.2.2.2.2.2.1;have bx6:=fun o=>((H2.out.alloc o).cells).1.2.2.2.2.2.2;have br0:=fun o=>((H2.out.alloc o).cells).2.1.1;have br1:=fun o=>((H2.out.alloc o).cells).2.1.2.1;have br2:=fun o=>((H2.out.alloc o).cells).2.1.2.2;have bt0:=fun o=>((H2.out.alloc o).cells).2.2.1.1;have bt1:=fun o=>((H2.out.alloc o).cells).2.2.1.2.1;have bt2:=fun o=>((H2.out.alloc o).cells).2.2.1.2.2;have be0:=fun o=>((H2.out.alloc o).cells).2.2.2.1.1;have be1:=fun o=>((H2.out.alloc o).cells).2.2.2.1.2.1;have be2:=fun o=>((H2.out.alloc o).cells).2.2.2.1.2.2;have bf0:=fun o=>((H2.out.alloc o).cells).2.2.2.2.1;have bf1:=fun o=>((H2.out.alloc o).cells).2.2.2.2.2.1;have bf2:=fun o=>((H2.out.alloc o).cells).2.2.2.2.2.2)
            | (go_at_call 45;refine (PF _ hb0).mono ?_;rintro ed w1 ⟨rfl,hb1⟩;have H1:=Lib.hid (HH.out.on hb1);have hz1:=hb0.trans (hb1.mono hb0.size);obtain ⟨⟨ax0,ax1,ax2,ax3,ax4,ax5,ax6⟩,⟨ar0,ar1,ar2⟩,⟨at0,at1,at2⟩,⟨ae0,ae1,ae2⟩,af0,af1,af2⟩:=H1.out.cells;have k0:=(hz1.cell (p:=⟨gx,ox,none⟩) hgx).trans i0;have k1:=(hz1.cell (p:=⟨gx,ox+1,none⟩) hgx).trans i1;have k2:=(hz1.cell (p:=⟨gx,ox+2,none⟩) hgx).trans i2;have k3:=(hz1.cell (p:=⟨gx,ox+3,none⟩) hgx).trans i3;have k4:=(hz1.cell (p:=⟨gx,ox+4,none⟩) hgx).trans i4;have k5:=(hz1.cell (p:=⟨gx,ox+5,none⟩) hgx).trans i5;have hgw:gx<w1.heap.size:=Nat.lt_of_lt_of_le hgx hz1.size))
          obtain ⟨z0,z1,z2,_⟩:=put3 H3.out.2.1 (.int .i64 0) (.int .i64 0) (.int .i64 0)
          try simp only [Exit.inBlock,Exit.then]
          refine bodyPost_ret (v:=.agg #[.int .i64 0,.int .i64 0,.int .i64 0]) (by simp [results,Tryz.results90,go_sem,z0,z1,z2,Result.andThen]) rfl ?_
          exact EN.out w3 _ _ _ 0 (hz3) (heap_lt H3.out.2.1)
    · rw [if_neg h2]
      have h2a:(mk != 4)=true:=by simpa using fun h=>h2 (.inl h)
      have h2b:(mk != 2)=true:=by simpa using fun h=>h2 (.inr h)
      clear h2 hq
      go_enter Tryz.func90,Tryz.ntmps90
      go_wp2_with fail
      refine hd_region w.heap.size sa (by rfl) (by rw [two_size];omega) (by rw [Lib.cell_of_heap (two_first w _ _)];rfl) (by rfl) ?_
      intro g W hbW hg1 hg2 hT hF
      obtain ⟨hb0,H⟩:=hd_of hbW hg1 hg2 hT hF
      rw [writeAll_hd]
      simp only [hdV,List.setIfInBounds_toArray,List.set_cons_zero,List.set_cons_succ]
      obtain ⟨⟨x0,x1,x2,x3,x4,x5,x6⟩,⟨r0,r1,r2⟩,⟨t0,t1,t2⟩,⟨e0,e1,e2⟩,f0,f1,f2⟩:=H.cells
      have HH:=Lib.hid H
      clear hbW hg1 hg2 hT hF H
      go_wp2_with (first
        | (go_at_call 72;refine (PJ _ _ (by rw [Lib.cell_of_heap (two_second _ _ _)];rfl) (by rw [Lib.cell_of_heap (two_second _ _ _)];rfl)).mono ?_;rintro ed w3 ⟨rfl,hw3⟩;have hb3:Below w2.heap.size w2 w3:=(by rw [hw3];exact ((Below.refl _ _).alloc (Nat.le_refl _) _).alloc (by rw [alloc_size];omega) _);have H3:=Lib.hid (H2.out.on hb3);have hz3:=hz2.trans (hb3.mono hz2.size);clear hw3;obtain ⟨⟨cx0,cx1,cx2,cx3,cx4,cx5,cx6⟩,⟨cr0,cr1,cr2⟩,⟨ct0,ct1,ct2⟩,⟨ce0,ce1,ce2⟩,cf0,cf1,cf2⟩:=H3.out.cells)
        | (go_at_call 22;refine (PE _ hz1).mono ?_;rintro ed w2 ⟨rfl,hb2⟩;have H2:=Lib.hid (H1.out.on hb2);have hz2:=hz1.trans (hb2.mono hz1.size);have bx0:=fun o=>((H2.out.alloc o).cells).1.1;have bx1:=fun o=>((H2.out.alloc o).cells).1.2.1;have bx2:=fun o=>((H2.out.alloc o).cells).1.2.2.1;have bx3:=fun o=>((H2.out.alloc o).cells).1.2.2.2.1;have bx4:=fun o=>((H2.out.alloc o).cells).1.2.2.2.2.1;have bx5:=fun o=>((H2.out.alloc o).cells).1.2.2.2.2.2.1;have bx6:=fun o=>((H2.out.alloc o).cells).1.2.2.2.2.2.2;have br0:=fun o=>((H2.out.alloc o).cells).2.1.1;have br1:=fun o=>((H2.out.alloc o).cells).2.1.2.1;have br2:=fun o=>((H2.out.alloc o).cells).2.1.2.2;have bt0:=fun o=>((H2.out.alloc o).cells).2.2.1.1;have bt1:=fun o=>((H2.out.alloc o).cells).2.2.1.2.1;have bt2:=fun o=>((H2.out.alloc o).cells).2.2.1.2.2;have be0:=fun o=>((H2.out.alloc o).cells).2.2.2.1.1;have be1:=fun o=>((H2.out.alloc o).cells).2.2.2.1.2.1;have be2:=fun o=>((H2.out.alloc o).cells).2.2.2.1.2.2;have bf0:=fun o=>((H2.out.alloc o).cells).2.2.2.2.1;have bf1:=fun o=>((H2.out.alloc o).cells).2.2.2.2.2.1;have bf2:=fun o=>((H2.out.alloc o).cells).2.2.2.2.2.2)
        | (go_at_call 45;refine (PF _ hb0).mono ?_;rintro ed w1 ⟨rfl,hb1⟩;have H1:=Lib.hid (HH.out.on hb1);have hz1:=hb0.trans (hb1.mono hb0.size);obtain ⟨⟨ax0,ax1,ax2,ax3,ax4,ax5,ax6⟩,⟨ar0,ar1,ar2⟩,⟨at0,at1,at2⟩,⟨ae0,ae1,ae2⟩,af0,af1,af2⟩:=H1.out.cells;have k0:=(hz1.cell (p:=⟨gx,ox,none⟩) hgx).trans i0;have k1:=(hz1.cell (p:=⟨gx,ox+1,none⟩) hgx).trans i1;have k2:=(hz1.cell (p:=⟨gx,ox+2,none⟩) hgx).trans i2;have k3:=(hz1.cell (p:=⟨gx,ox+3,none⟩) hgx).trans i3;have k4:=(hz1.cell (p:=⟨gx,ox+4,none⟩) hgx).trans i4;have k5:=(hz1.cell (p:=⟨gx,ox+5,none⟩) hgx).trans i5;have hgw:gx<w1.heap.size:=Nat.lt_of_lt_of_le hgx hz1.size))
      obtain ⟨z0,z1,z2,_⟩:=put3 H3.out.2.1 (.int .i64 3) (.int .i64 sa) (.int .i64 0)
      try simp only [Exit.inBlock,Exit.then]
      refine bodyPost_ret (v:=.agg #[.int .i64 3,.int .i64 sa,.int .i64 0]) (by simp [results,Tryz.results90,go_sem,z0,z1,z2,Result.andThen]) rfl ?_
      exact ER.out w3 _ _ _ (3,sa) (by simp) (hz3) (heap_lt H3.out.2.1)
@[reducible] def SZ (X:Nat->Prop) (w W:World):Nat->Prop:=fun j=>(X j\/w.heap.size<=j)/\j<W.heap.size
theorem okB_put {f:ByteArray->Mng} (h:okB f) (s:ByteArray) (m:Mng) (hm:m.kind=5->m.count<=1073741825):okB (put f s m):=fun t ht=>by
  by_cases e:t=s
  · subst e;rw [Sc.put_same] at ht ⊢;exact hm ht
  · rw [Sc.put_ne _ _ _ _ e] at ht ⊢;exact h t ht
theorem okB_enter {f:ByteArray->Mng} (h:okB f) (s:ByteArray) (l c:Int) (hc:c<=1073741825):okB (put f s (localM l c)):=okB_put h s _ fun hk=>by
  unfold localM at hk ⊢
  by_cases h0:0<c
  · rw [if_pos h0];exact hc
  · rw [if_neg h0] at hk;simp at hk
theorem okB_putAll:∀ (ss:List ByteArray) {f:ByteArray->Mng},okB f->okB (putAll f ss)
  | [],f,h=>h
  | s :: ss,f,h=>okB_putAll ss (f:=put f s mnone) (okB_put h s mnone fun hk=>by simp [mnone] at hk)
theorem okB_leave {st:St} (h:okB st.f) (mark:Nat):okB (leaveP st mark).f:=by
  unfold leaveP
  split
  · exact okB_putAll _ h
  · exact h
theorem leave_all {X:Nat->Prop} {bs n:Nat} {st:St} {w:World} (h:ScAt X bs n st.f st.ls w) (hlen:st.ls.length<1000000) (mark:Nat):
    Calls Tryz.prog 69 #[.pointer (some ⟨bs,0,none⟩),.int .i64 mark] w fun e w'=>e=.returned (.tuple #[])/\ScAt X bs n (leaveP st mark).f (leaveP st mark).ls w'/\KeepX X w w':=by
  by_cases hm:mark<st.ls.length
  · have e:leaveP st mark=⟨putAll st.f (st.ls.drop mark),st.ls.take mark⟩:=by unfold leaveP;rw [if_pos hm]
    rw [e]
    exact Sc.leave_yes h hlen mark hm
  · have e:leaveP st mark=st:=by unfold leaveP;rw [if_neg hm]
    rw [e]
    refine (Sc.leave_no h mark (.inr (by omega))).mono ?_
    rintro e w' ⟨rfl,rfl⟩
    exact ⟨rfl,h,KeepX.refl _ _⟩
theorem own_endZ {X Z:Nat->Prop} {bs k:Nat} {w w3 w4 wz:World} {g:Nat} {f:ByteArray->Mng} {ls:List ByteArray} (hX:∀ j,X j->j<w.heap.size) (hXZ:∀ j,X j->Z j) (h3:KeepX X w w3) (hk4:KeepX Z w3 w4) (hS4:ScAt Z bs k f ls w4) (hb:Below w4.heap.size w4 wz) (hg:w.heap.size<=g) (hZg:Z g) (hgz:g<wz.heap.size) (u0 u1 u2:Value):
    KeepX X w (putW wz g u0 u1 u2)/\ScAt X bs k f ls (putW wz g u0 u1 u2):=
  end_keep (scat_full hS4 hb) ⟨.inl hZg,hgz⟩ (fun j h=>⟨.inl (hXZ j h),by have:=hX j h;have:=h3.size;have:=hk4.size;have:=hb.size;omega⟩) (h3.trans ((hk4.mono fun j _ h=>hXZ j h).trans (KeepX.of_below hb))) hg u0 u1 u2
def BlockW (m n:Nat):Prop:=∀ (X:Nat->Prop) (B bs k:Nat) (st:St) (pc:Int) (v:Value) (ss:List Stm) (w:World),ScAt X bs k st.f st.ls w->(∀ j,X j->j<w.heap.size)->(∀ j,j<B->X j)->okF st.f->okB st.f->st.ls.length<=k->k+tot (cntS n) ss<=900000 ->
  Stms 0 B w (fun v' s'=>SRep 0 B w m n v' s') v ss->(∀ s ∈ ss,nmS m n s)->(∀ s ∈ ss,Pr.gS m n s) ->
  Calls Tryz.prog 62 #[.pointer (some ⟨bs,0,none⟩),v,.int .i64 pc] w (OwnX X bs (k+tot (cntS n) ss) w (blkP (stmtP m n) st pc ss))
theorem join_comm (a b:Int):joinI a b=joinI b a:=by
  unfold joinI
  by_cases h:a=0 <;> by_cases h2:b=0 <;> simp [h,h2]
theorem os_0 {m B:Nat} {e:Tree} {pc:Int} {X:Nat->Prop} {bs k d:Nat} {st:St} {sn:ByteArray} {sc sa:Int} {ea ba la:Option Addr} {nB nL ec bc lc:Nat} {w:World} (hS:ScAt X bs k st.f st.ls w) (hX:∀ j,X j->j<w.heap.size) (hXB:∀ j,j<B->X j) (hf:okF st.f) (hfb:okB st.f) (hl:st.ls.length<=k) (hns:sn.size<=35184372088832) (hE:Kids 0 B w (fun v' t'=>ERep 0 B w m v' t') (.slice ea 1 ec) [e]) (hn:nmE m e) (hk:k+(d+1)<=900000):
    Calls Tryz.prog 90 #[.pointer (some ⟨bs,0,none⟩),.agg #[.int .i64 0,.string sn,.slice ea 1 ec,.int .i64 sc,.slice ba nB bc,.slice la nL lc,.int .i64 sa],.int .i64 pc] w (OwnX X bs (k+(d+1)) w (match labelP st.f m e with | .error x=>.error x | .ok l=>(match enterP st sn (joinI l pc) 0 with | none=>.error (3,sa) | some st'=>.ok st'))):=by
  have PF:=fun W (hb:Below w.heap.size w W)=>Sc.find_any (hS.below hb) sn (nm_le hns)
  obtain ⟨gx,ox,kx,cx,rfl,hgx,i0,i1,i2,i3,i4,i5,hR⟩:=kid_first hE rfl (below_size hX hXB)
  have PE:=fun W (hb:Below w.heap.size w W)=>ownE_all m 0 bs k st _ e W ((hS.more fun j _ h=>absurd h (Nat.not_lt_zero _):ScAt (· < 0) bs k st.f st.ls w).below hb) hf hfb (hR.mono hb.size hb) hn
  have EN:=Lib.hid (fun wz (u0 u1 u2:Value) (l:Int) (hb:Below w.heap.size w wz) (hgz:w.heap.size+1<wz.heap.size)=>own_ok0 (d:=d+1) (g:=w.heap.size+1) hS hX hf hfb hl l u0 u1 u2 hb (by omega) hgz)
  have ER:=Lib.hid (fun wz (u0 u1 u2:Value) (x:Er) (hx:x.1≠0) (hb:Below w.heap.size w wz) (hgz:w.heap.size+1<wz.heap.size)=>own_err0 (d:=d+1) (g:=w.heap.size+1) hS hX hl x hx u0 u1 u2 hb (by omega) hgz)
  have PJ:=fun (l:Int) (g:Nat) (w:World) h0 h1=>join_two g l pc w h0 h1
  cases hL:labelP st.f m e with
  | error y=>
    rw [hL] at PE
    have hy:=label_err _ _ _ _ hL
    have hyb:(y.1 != 0)=true:=by simpa using hy
    show Calls _ _ _ _ (OwnX X bs (k+(d+1)) w (.error y))
    generalize st.f sn=mm at PF
    obtain ⟨mk,ml,mc,mb⟩:=mm
    simp only at PF
    clear hS hX hXB hf hfb hl hns hE hn hL EN hR hk
    go_enter Tryz.func90,Tryz.ntmps90
    go_wp2_with fail
    refine hd_region w.heap.size sa (by rfl) (by rw [two_size];omega) (by rw [Lib.cell_of_heap (two_first w _ _)];rfl) (by rfl) ?_
    intro g W hbW hg1 hg2 hT hF
    obtain ⟨hb0,H⟩:=hd_of hbW hg1 hg2 hT hF
    rw [writeAll_hd]
    simp only [hdV,List.setIfInBounds_toArray,List.set_cons_zero,List.set_cons_succ]
    obtain ⟨⟨x0,x1,x2,x3,x4,x5,x6⟩,⟨r0,r1,r2⟩,⟨t0,t1,t2⟩,⟨e0,e1,e2⟩,f0,f1,f2⟩:=H.cells
    have HH:=Lib.hid H
    clear hbW hg1 hg2 hT hF H
    go_wp2_with (first
     | (go_at_call 22;refine (PE _ hz1).mono ?_;rintro ed w2 ⟨rfl,hb2⟩;have H2:=Lib.hid (H1.out.on hb2);have hz2:=hz1.trans (hb2.mono hz1.size);have bx0:=fun o=>((H2.out.alloc o).cells).1.1;have bx1:=fun o=>((H2.out.alloc o).cells).1.2.1;have bx2:=fun o=>((H2.out.alloc o).cells).1.2.2.1;have bx3:=fun o=>((H2.out.alloc o).cells).1.2.2.2.1;have bx4:=fun o=>((H2.out.alloc o).cells).1.2.2.2.2.1;have bx5:=fun o=>((H2.out.alloc o).cells).1.2.2.2.2.2.1;have bx6:=fun o=>((H2.out.alloc o).cells).1.2.2.2.2.2.2;have br0:=fun o=>((H2.out.alloc o).cells).2.1.1;have br1:=fun o=>((H2.out.alloc o).cells).2.1.2.1;have br2:=fun o=>((H2.out.alloc o).cells).2.1.2.2;have bt0:=fun o=>((H2.out.alloc o).cells).2.2.1.1;have bt1:=fun o=>((H2.out.alloc o).cells).2.2.1.2.1;have bt2:=fun o=>((H2.out.alloc o).cells).2.2.1.2.2;have be0:=fun o=>((H2.out.alloc o).cells).2.2.2.1.1;have be1:=fun o=>((H2.out.alloc o).cells).2.2.2.1.2.1;have be2:=fun o=>((H2.out.alloc o).cells).2.2.2.1.2.2;have bf0:=fun o=>((H2.out.alloc o).cells).2.2.2.2.1;have bf1:=fun o=>((H2.out.alloc o).cells).2.2.2.2.2.1;have bf2:=fun o=>((H2.out.alloc o).cells).2.2.2.2.2.2)
     | (go_at_call 45;refine (PF _ hb0).mono ?_;rintro ed w1 ⟨rfl,hb1⟩;have H1:=Lib.hid (HH.out.on hb1);have hz1:=hb0.trans (hb1.mono hb0.size);obtain ⟨⟨ax0,ax1,ax2,ax3,ax4,ax5,ax6⟩,⟨ar0,ar1,ar2⟩,⟨at0,at1,at2⟩,⟨ae0,ae1,ae2⟩,af0,af1,af2⟩:=H1.out.cells;have k0:=(hz1.cell (p:=⟨gx,ox,none⟩) hgx).trans i0;have k1:=(hz1.cell (p:=⟨gx,ox+1,none⟩) hgx).trans i1;have k2:=(hz1.cell (p:=⟨gx,ox+2,none⟩) hgx).trans i2;have k3:=(hz1.cell (p:=⟨gx,ox+3,none⟩) hgx).trans i3;have k4:=(hz1.cell (p:=⟨gx,ox+4,none⟩) hgx).trans i4;have k5:=(hz1.cell (p:=⟨gx,ox+5,none⟩) hgx).trans i5;have hgw:gx<w1.heap.size:=Nat.lt_of_lt_of_le hgx hz1.size))
    have H3:=H2.out.alloc (.cells #[.int .i64 y.1,.int .i64 y.2,.int .i64 0] 67)
    obtain ⟨z0,z1,z2,_⟩:=put3 H3.2.1 (.int .i64 y.1) (.int .i64 y.2) (.int .i64 0)
    try simp only [Exit.inBlock,Exit.then]
    refine bodyPost_ret (v:=.agg #[.int .i64 y.1,.int .i64 y.2,.int .i64 0]) (by simp [results,Tryz.results90,go_sem,z0,z1,z2,Result.andThen]) rfl ?_
    exact ER.out _ _ _ _ y hy (hz2.alloc hz2.size _) (heap_lt H3.2.1)
  | ok l=>
    rw [hL] at PE
    replace PJ:=PJ l
    obtain ⟨q,hq⟩:∃ q,joinI l pc=q:=⟨_,rfl⟩
    simp only [hq] at PJ
    show Calls _ _ _ _ (OwnX X bs (k+(d+1)) w (match enterP st sn (joinI l pc) 0 with | none=>.error (3,sa) | some st'=>.ok st'))
    rw [hq]
    by_cases h0:(st.f sn).kind=0
    · have hP:enterP st sn q 0=some ⟨put st.f sn (localM q 0),st.ls++[sn]⟩:=by unfold enterP;rw [if_pos h0]
      rw [hP]
      show Calls _ _ _ _ (OwnX X bs (k+(d+1)) w (.ok ⟨put st.f sn (localM q 0),st.ls++[sn]⟩))
      have EY:=fun W (hz:Below w.heap.size w W)=>Sc.enter_yes (scat_full hS hz) (fun j h=>h.2) (by unfold maxLen;omega) (by omega) sn (nm_le hns) q 0 h0
      have FIN:=Lib.hid (fun w3 w4 (u0 u1 u2:Value) (hz:Below w.heap.size w w3) (hk4:KeepX (SZ X w w3) w3 w4) (hS4:ScAt (SZ X w w3) bs (k+1) (put st.f sn (localM q 0)) (st.ls++[sn]) w4) (hg3:w.heap.size+1<w3.heap.size)=>
        (show OwnX X bs (k+(d+1)) w (.ok ⟨put st.f sn (localM q 0),st.ls++[sn]⟩) (.returned (.agg #[.int .i64 0,.int .i64 0,.int .i64 0])) (putW w4 (w.heap.size+1) u0 u1 u2) from by
          obtain ⟨h1,h2⟩:=own_endZ (Z:=SZ X w w3) hX (fun j h=>⟨.inl h,Nat.lt_of_lt_of_le (hX j h) hz.size⟩) (KeepX.of_below hz) hk4 hS4 (Below.refl _ _) (show w.heap.size<=w.heap.size+1 by omega) ⟨.inr (by omega),hg3⟩ (Nat.lt_of_lt_of_le hg3 hk4.size) u0 u1 u2
          exact ⟨h1,⟨0,rfl⟩,h2.mono (by omega),okF_enter hf _ _ _ (by omega),okB_enter hfb _ _ _ (by omega),by simp;omega⟩))
      generalize put st.f sn (localM q 0)=f2 at EY FIN ⊢
      generalize st.ls++[sn]=ls2 at EY FIN ⊢
      generalize st.f sn=mm at PF
      obtain ⟨mk,ml,mc,mb⟩:=mm
      simp only at PF
      clear hS hX hXB hf hfb hl hns hE hn hL hR h0 hP hq EN ER hk
      go_enter Tryz.func90,Tryz.ntmps90
      go_wp2_with fail
      refine hd_region w.heap.size sa (by rfl) (by rw [two_size];omega) (by rw [Lib.cell_of_heap (two_first w _ _)];rfl) (by rfl) ?_
      intro g W hbW hg1 hg2 hT hF
      obtain ⟨hb0,H⟩:=hd_of hbW hg1 hg2 hT hF
      rw [writeAll_hd]
      simp only [hdV,List.setIfInBounds_toArray,List.set_cons_zero,List.set_cons_succ]
      obtain ⟨⟨x0,x1,x2,x3,x4,x5,x6⟩,⟨r0,r1,r2⟩,⟨t0,t1,t2⟩,⟨e0,e1,e2⟩,f0,f1,f2⟩:=H.cells
      have HH:=Lib.hid H
      clear hbW hg1 hg2 hT hF H
      go_wp2_with (first
        | (go_at_call 18;refine (EY w3 hz3).mono ?_;rintro ed w4 ⟨rfl,hS4,hk4⟩;have H4:=Lib.hid (H3.out.keep H3.out hk4 (fun j a b=>⟨.inr a,b⟩));obtain ⟨⟨dx0,dx1,dx2,dx3,dx4,dx5,dx6⟩,⟨dr0,dr1,dr2⟩,⟨dt0,dt1,dt2⟩,⟨de0,de1,de2⟩,df0,df1,df2⟩:=H4.out.cells)
        | (go_at_call 72;refine (PJ _ _ (by rw [Lib.cell_of_heap (two_second _ _ _)];rfl) (by rw [Lib.cell_of_heap (two_second _ _ _)];rfl)).mono ?_;rintro ed w3 ⟨rfl,hw3⟩;have hb3:Below w2.heap.size w2 w3:=(by rw [hw3];exact ((Below.refl _ _).alloc (Nat.le_refl _) _).alloc (by rw [alloc_size];omega) _);have H3:=Lib.hid (H2.out.on hb3);have hz3:=hz2.trans (hb3.mono hz2.size);clear hw3;obtain ⟨⟨cx0,cx1,cx2,cx3,cx4,cx5,cx6⟩,⟨cr0,cr1,cr2⟩,⟨ct0,ct1,ct2⟩,⟨ce0,ce1,ce2⟩,cf0,cf1,cf2⟩:=H3.out.cells)
        | (go_at_call 22;refine (PE _ hz1).mono ?_;rintro ed w2 ⟨rfl,hb2⟩;have H2:=Lib.hid (H1.out.on hb2);have hz2:=hz1.trans (hb2.mono hz1.size);have bx0:=fun o=>((H2.out.alloc o).cells).1.1;have bx1:=fun o=>((H2.out.alloc o).cells).1.2.1;have bx2:=fun o=>((H2.out.alloc o).cells).1.2.2.1;have bx3:=fun o=>((H2.out.alloc o).cells).1.2.2.2.1;have bx4:=fun o=>((H2.out.alloc o).cells).1.2.2.2.2.1;have bx5:=fun o=>((H2.out.alloc o).cells).1.2.2.2.2.2.1;have bx6:=fun o=>((H2.out.alloc o).cells).1.2.2.2.2.2.2;have br0:=fun o=>((H2.out.alloc o).cells).2.1.1;have br1:=fun o=>((H2.out.alloc o).cells).2.1.2.1;have br2:=fun o=>((H2.out.alloc o).cells).2.1.2.2;have bt0:=fun o=>((H2.out.alloc o).cells).2.2.1.1;have bt1:=fun o=>((H2.out.alloc o).cells).2.2.1.2.1;have bt2:=fun o=>((H2.out.alloc o).cells).2.2.1.2.2;have be0:=fun o=>((H2.out.alloc o).cells).2.2.2.1.1;have be1:=fun o=>((H2.out.alloc o).cells).2.2.2.1.2.1;have be2:=fun o=>((H2.out.alloc o).cells).2.2.2.1.2.2;have bf0:=fun o=>((H2.out.alloc o).cells).2.2.2.2.1;have bf1:=fun o=>((H2.out.alloc o).cells).2.2.2.2.2.1;have bf2:=fun o=>((H2.out.alloc o).cells).2.2.2.2.2.2)
        | (go_at_call 45;refine (PF _ hb0).mono ?_;rintro ed w1 ⟨rfl,hb1⟩;have H1:=Lib.hid (HH.out.on hb1);have hz1:=hb0.trans (hb1.mono hb0.size);obtain ⟨⟨ax0,ax1,ax2,ax3,ax4,ax5,ax6⟩,⟨ar0,ar1,ar2⟩,⟨at0,at1,at2⟩,⟨ae0,ae1,ae2⟩,af0,af1,af2⟩:=H1.out.cells;have k0:=(hz1.cell (p:=⟨gx,ox,none⟩) hgx).trans i0;have k1:=(hz1.cell (p:=⟨gx,ox+1,none⟩) hgx).trans i1;have k2:=(hz1.cell (p:=⟨gx,ox+2,none⟩) hgx).trans i2;have k3:=(hz1.cell (p:=⟨gx,ox+3,none⟩) hgx).trans i3;have k4:=(hz1.cell (p:=⟨gx,ox+4,none⟩) hgx).trans i4;have k5:=(hz1.cell (p:=⟨gx,ox+5,none⟩) hgx).trans i5;have hgw:gx<w1.heap.size:=Nat.lt_of_lt_of_le hgx hz1.size))
      obtain ⟨z0,z1,z2,_⟩:=put3 H4.out.2.1 (.int .i64 0) (.int .i64 0) (.int .i64 0)
      try simp only [Exit.inBlock,Exit.then]
      refine bodyPost_ret (v:=.agg #[.int .i64 0,.int .i64 0,.int .i64 0]) (by simp [results,Tryz.results90,go_sem,z0,z1,z2,Result.andThen]) rfl ?_
      exact FIN.out w3 w4 _ _ _ hz3 hk4 hS4 (heap_lt H3.out.2.1)
    · have hP:enterP st sn q 0=none:=by unfold enterP;rw [if_neg h0]
      rw [hP]
      show Calls _ _ _ _ (OwnX X bs (k+(d+1)) w (.error (3,sa)))
      have EO:=fun W (hz:Below w.heap.size w W)=>Sc.enter_no (hS.below hz) sn (nm_le hns) q 0 h0
      generalize st.f sn=mm at PF
      obtain ⟨mk,ml,mc,mb⟩:=mm
      simp only at PF
      clear hS hX hXB hf hfb hl hns hE hn hL hR h0 hP hq EN hk
      go_enter Tryz.func90,Tryz.ntmps90
      go_wp2_with fail
      refine hd_region w.heap.size sa (by rfl) (by rw [two_size];omega) (by rw [Lib.cell_of_heap (two_first w _ _)];rfl) (by rfl) ?_
      intro g W hbW hg1 hg2 hT hF
      obtain ⟨hb0,H⟩:=hd_of hbW hg1 hg2 hT hF
      rw [writeAll_hd]
      simp only [hdV,List.setIfInBounds_toArray,List.set_cons_zero,List.set_cons_succ]
      obtain ⟨⟨x0,x1,x2,x3,x4,x5,x6⟩,⟨r0,r1,r2⟩,⟨t0,t1,t2⟩,⟨e0,e1,e2⟩,f0,f1,f2⟩:=H.cells
      have HH:=Lib.hid H
      clear hbW hg1 hg2 hT hF H
      go_wp2_with (first
        | (go_at_call 18;refine (EO w3 hz3).mono ?_;rintro ed w4 ⟨rfl,hw4⟩;obtain rfl:=hw4.symm)
        | (go_at_call 72;refine (PJ _ _ (by rw [Lib.cell_of_heap (two_second _ _ _)];rfl) (by rw [Lib.cell_of_heap (two_second _ _ _)];rfl)).mono ?_;rintro ed w3 ⟨rfl,hw3⟩;have hb3:Below w2.heap.size w2 w3:=(by rw [hw3];exact ((Below.refl _ _).alloc (Nat.le_refl _) _).alloc (by rw [alloc_size];omega) _);have H3:=Lib.hid (H2.out.on hb3);have hz3:=hz2.trans (hb3.mono hz2.size);clear hw3;obtain ⟨⟨cx0,cx1,cx2,cx3,cx4,cx5,cx6⟩,⟨cr0,cr1,cr2⟩,⟨ct0,ct1,ct2⟩,⟨ce0,ce1,ce2⟩,cf0,cf1,cf2⟩:=H3.out.cells)
        | (go_at_call 22;refine (PE _ hz1).mono ?_;rintro ed w2 ⟨rfl,hb2⟩;have H2:=Lib.hid (H1.out.on hb2);have hz2:=hz1.trans (hb2.mono hz1.size);have bx0:=fun o=>((H2.out.alloc o).cells).1.1;have bx1:=fun o=>((H2.out.alloc o).cells).1.2.1;have bx2:=fun o=>((H2.out.alloc o).cells).1.2.2.1;have bx3:=fun o=>((H2.out.alloc o).cells).1.2.2.2.1;have bx4:=fun o=>((H2.out.alloc o).cells).1.2.2.2.2.1;have bx5:=fun o=>((H2.out.alloc o).cells).1.2.2.2.2.2.1;have bx6:=fun o=>((H2.out.alloc o).cells).1.2.2.2.2.2.2;have br0:=fun o=>((H2.out.alloc o).cells).2.1.1;have br1:=fun o=>((H2.out.alloc o).cells).2.1.2.1;have br2:=fun o=>((H2.out.alloc o).cells).2.1.2.2;have bt0:=fun o=>((H2.out.alloc o).cells).2.2.1.1;have bt1:=fun o=>((H2.out.alloc o).cells).2.2.1.2.1;have bt2:=fun o=>((H2.out.alloc o).cells).2.2.1.2.2;have be0:=fun o=>((H2.out.alloc o).cells).2.2.2.1.1;have be1:=fun o=>((H2.out.alloc o).cells).2.2.2.1.2.1;have be2:=fun o=>((H2.out.alloc o).cells).2.2.2.1.2.2;have bf0:=fun o=>((H2.out.alloc o).cells).2.2.2.2.1;have bf1:=fun o=>((H2.out.alloc o).cells).2.2.2.2.2.1;have bf2:=fun o=>((H2.out.alloc o).cells).2.2.2.2.2.2)
        | (go_at_call 45;refine (PF _ hb0).mono ?_;rintro ed w1 ⟨rfl,hb1⟩;have H1:=Lib.hid (HH.out.on hb1);have hz1:=hb0.trans (hb1.mono hb0.size);obtain ⟨⟨ax0,ax1,ax2,ax3,ax4,ax5,ax6⟩,⟨ar0,ar1,ar2⟩,⟨at0,at1,at2⟩,⟨ae0,ae1,ae2⟩,af0,af1,af2⟩:=H1.out.cells;have k0:=(hz1.cell (p:=⟨gx,ox,none⟩) hgx).trans i0;have k1:=(hz1.cell (p:=⟨gx,ox+1,none⟩) hgx).trans i1;have k2:=(hz1.cell (p:=⟨gx,ox+2,none⟩) hgx).trans i2;have k3:=(hz1.cell (p:=⟨gx,ox+3,none⟩) hgx).trans i3;have k4:=(hz1.cell (p:=⟨gx,ox+4,none⟩) hgx).trans i4;have k5:=(hz1.cell (p:=⟨gx,ox+5,none⟩) hgx).trans i5;have hgw:gx<w1.heap.size:=Nat.lt_of_lt_of_le hgx hz1.size))
      obtain ⟨z0,z1,z2,_⟩:=put3 H3.out.2.1 (.int .i64 3) (.int .i64 sa) (.int .i64 0)
      try simp only [Exit.inBlock,Exit.then]
      refine bodyPost_ret (v:=.agg #[.int .i64 3,.int .i64 sa,.int .i64 0]) (by simp [results,Tryz.results90,go_sem,z0,z1,z2,Result.andThen]) rfl ?_
      exact ER.out w3 _ _ _ (3,sa) (by simp) (hz3) (heap_lt H3.out.2.1)
theorem os_3 {m B:Nat} {e:Tree} {pc:Int} {X:Nat->Prop} {bs k d:Nat} {st:St} {sn:ByteArray} {sc sa:Int} {ea ba la:Option Addr} {n ec bc lc:Nat} {sb sl:List Stm} {w:World} (hS:ScAt X bs k st.f st.ls w) (hX:∀ j,X j->j<w.heap.size) (hXB:∀ j,j<B->X j) (hf:okF st.f) (hfb:okB st.f) (hl:st.ls.length<=k) (hns:sn.size<=35184372088832) (hE:Kids 0 B w (fun v' t'=>ERep 0 B w m v' t') (.slice ea 1 ec) [e]) (hn:nmE m e) (hk:k+d<=900000) (hd:tot (cntS n) sb+tot (cntS n) sl<=d) (ih:BlockW m n) (hbd:Stms 0 B w (fun v' s'=>SRep 0 B w m n v' s') (.slice ba sb.length bc) sb) (hel:Stms 0 B w (fun v' s'=>SRep 0 B w m n v' s') (.slice la sl.length lc) sl) (hnb:∀ t ∈ sb,nmS m n t) (hne:∀ t ∈ sl,nmS m n t) (hgb:∀ t ∈ sb,Pr.gS m n t) (hge:∀ t ∈ sl,Pr.gS m n t):
    Calls Tryz.prog 90 #[.pointer (some ⟨bs,0,none⟩),.agg #[.int .i64 3,.string sn,.slice ea 1 ec,.int .i64 sc,.slice ba sb.length bc,.slice la sl.length lc,.int .i64 sa],.int .i64 pc] w (OwnX X bs (k+d) w (match labelP st.f m e with | .error x=>.error x | .ok l=>match blkP (stmtP m n) st (joinI pc l) sb with | .error x=>.error x | .ok st'=>blkP (stmtP m n) st' (joinI pc l) sl)):=by
  have PF:=fun W (hb:Below w.heap.size w W)=>Sc.find_any (hS.below hb) sn (nm_le hns)
  obtain ⟨gx,ox,kx,cx,rfl,hgx,i0,i1,i2,i3,i4,i5,hR⟩:=kid_first hE rfl (below_size hX hXB)
  have PE:=fun W (hb:Below w.heap.size w W)=>ownE_all m 0 bs k st _ e W ((hS.more fun j _ h=>absurd h (Nat.not_lt_zero _):ScAt (· < 0) bs k st.f st.ls w).below hb) hf hfb (hR.mono hb.size hb) hn
  have EN:=Lib.hid (fun wz (u0 u1 u2:Value) (l:Int) (hb:Below w.heap.size w wz) (hgz:w.heap.size+1<wz.heap.size)=>own_ok0 (d:=d) (g:=w.heap.size+1) hS hX hf hfb hl l u0 u1 u2 hb (by omega) hgz)
  have ER:=Lib.hid (fun wz (u0 u1 u2:Value) (x:Er) (hx:x.1≠0) (hb:Below w.heap.size w wz) (hgz:w.heap.size+1<wz.heap.size)=>own_err0 (d:=d) (g:=w.heap.size+1) hS hX hl x hx u0 u1 u2 hb (by omega) hgz)
  have PJ:=fun (l:Int) (g:Nat) (w:World) h0 h1=>join_two g l pc w h0 h1
  cases hL:labelP st.f m e with
  | error y=>
    rw [hL] at PE
    have hy:=label_err _ _ _ _ hL
    have hyb:(y.1 != 0)=true:=by simpa using hy
    show Calls _ _ _ _ (OwnX X bs (k+d) w (.error y))
    generalize st.f sn=mm at PF
    obtain ⟨mk,ml,mc,mb⟩:=mm
    simp only at PF
    clear hS hX hXB hf hfb hl hns hE hn hL EN hR hk hd ih hbd hel hnb hne hgb hge
    go_enter Tryz.func90,Tryz.ntmps90
    go_wp2_with fail
    refine hd_region w.heap.size sa (by rfl) (by rw [two_size];omega) (by rw [Lib.cell_of_heap (two_first w _ _)];rfl) (by rfl) ?_
    intro g W hbW hg1 hg2 hT hF
    obtain ⟨hb0,H⟩:=hd_of hbW hg1 hg2 hT hF
    rw [writeAll_hd]
    simp only [hdV,List.setIfInBounds_toArray,List.set_cons_zero,List.set_cons_succ]
    obtain ⟨⟨x0,x1,x2,x3,x4,x5,x6⟩,⟨r0,r1,r2⟩,⟨t0,t1,t2⟩,⟨e0,e1,e2⟩,f0,f1,f2⟩:=H.cells
    have HH:=Lib.hid H
    clear hbW hg1 hg2 hT hF H
    go_wp2_with (first
     | (go_at_call 22;refine (PE _ hz1).mono ?_;rintro ed w2 ⟨rfl,hb2⟩;have H2:=Lib.hid (H1.out.on hb2);have hz2:=hz1.trans (hb2.mono hz1.size);have bx0:=fun o=>((H2.out.alloc o).cells).1.1;have bx1:=fun o=>((H2.out.alloc o).cells).1.2.1;have bx2:=fun o=>((H2.out.alloc o).cells).1.2.2.1;have bx3:=fun o=>((H2.out.alloc o).cells).1.2.2.2.1;have bx4:=fun o=>((H2.out.alloc o).cells).1.2.2.2.2.1;have bx5:=fun o=>((H2.out.alloc o).cells).1.2.2.2.2.2.1;have bx6:=fun o=>((H2.out.alloc o).cells).1.2.2.2.2.2.2;have br0:=fun o=>((H2.out.alloc o).cells).2.1.1;have br1:=fun o=>((H2.out.alloc o).cells).2.1.2.1;have br2:=fun o=>((H2.out.alloc o).cells).2.1.2.2;have bt0:=fun o=>((H2.out.alloc o).cells).2.2.1.1;have bt1:=fun o=>((H2.out.alloc o).cells).2.2.1.2.1;have bt2:=fun o=>((H2.out.alloc o).cells).2.2.1.2.2;have be0:=fun o=>((H2.out.alloc o).cells).2.2.2.1.1;have be1:=fun o=>((H2.out.alloc o).cells).2.2.2.1.2.1;have be2:=fun o=>((H2.out.alloc o).cells).2.2.2.1.2.2;have bf0:=fun o=>((H2.out.alloc o).cells).2.2.2.2.1;have bf1:=fun o=>((H2.out.alloc o).cells).2.2.2.2.2.1;have bf2:=fun o=>((H2.out.alloc o).cells).2.2.2.2.2.2)
     | (go_at_call 45;refine (PF _ hb0).mono ?_;rintro ed w1 ⟨rfl,hb1⟩;have H1:=Lib.hid (HH.out.on hb1);have hz1:=hb0.trans (hb1.mono hb0.size);obtain ⟨⟨ax0,ax1,ax2,ax3,ax4,ax5,ax6⟩,⟨ar0,ar1,ar2⟩,⟨at0,at1,at2⟩,⟨ae0,ae1,ae2⟩,af0,af1,af2⟩:=H1.out.cells;have k0:=(hz1.cell (p:=⟨gx,ox,none⟩) hgx).trans i0;have k1:=(hz1.cell (p:=⟨gx,ox+1,none⟩) hgx).trans i1;have k2:=(hz1.cell (p:=⟨gx,ox+2,none⟩) hgx).trans i2;have k3:=(hz1.cell (p:=⟨gx,ox+3,none⟩) hgx).trans i3;have k4:=(hz1.cell (p:=⟨gx,ox+4,none⟩) hgx).trans i4;have k5:=(hz1.cell (p:=⟨gx,ox+5,none⟩) hgx).trans i5;have hgw:gx<w1.heap.size:=Nat.lt_of_lt_of_le hgx hz1.size))
    have H3:=H2.out.alloc (.cells #[.int .i64 y.1,.int .i64 y.2,.int .i64 0] 67)
    obtain ⟨z0,z1,z2,_⟩:=put3 H3.2.1 (.int .i64 y.1) (.int .i64 y.2) (.int .i64 0)
    try simp only [Exit.inBlock,Exit.then]
    refine bodyPost_ret (v:=.agg #[.int .i64 y.1,.int .i64 y.2,.int .i64 0]) (by simp [results,Tryz.results90,go_sem,z0,z1,z2,Result.andThen]) rfl ?_
    exact ER.out _ _ _ _ y hy (hz2.alloc hz2.size _) (heap_lt H3.2.1)
  | ok l=>
    rw [hL] at PE
    replace PJ:=PJ l
    obtain ⟨q,hq⟩:∃ q,joinI l pc=q:=⟨_,rfl⟩
    simp only [hq] at PJ
    have hB:=below_size hX hXB
    have PB1:=fun W (hz:Below w.heap.size w W)=>ih (SZ X w W) B bs k st q _ sb W (scat_full hS hz) (fun j h=>h.2) (fun j h=>⟨.inl (hXB j h),by have:=hz.size;omega⟩) hf hfb hl (by omega) (hbd.on (hz.mono hB)) hnb hgb
    have PB2:=fun (st1:St) (w3 w4:World) (o:Obj) (hz:Below w.heap.size w w3) (hk4:KeepX (SZ X w w3) w3 w4) (hS4:ScAt (SZ X w w3) bs (k+tot (cntS n) sb) st1.f st1.ls w4) (hf1:okF st1.f) (hfb1:okB st1.f) (hl1:st1.ls.length<=k+tot (cntS n) sb)=>
     ih (fun j=>(SZ X w w3 j\/w4.heap.size<=j)/\j<(w4.alloc o).heap.size) B bs (k+tot (cntS n) sb) st1 q _ sl (w4.alloc o) (scat_full hS4 ((Below.refl _ _).alloc (Nat.le_refl _) o)) (fun j h=>h.2) (fun j h=>⟨.inl ⟨.inl (hXB j h),by have:=hz.size;omega⟩,by have:=hz.size;have:=hk4.size;rw [alloc_size];omega⟩) hf1 hfb1 hl1 (by omega)
        (hel.on ((hz.mono hB).trans (((hk4.mono fun j _ (h:j<B)=>⟨.inl (hXB j h),by have:=hz.size;omega⟩).below (by have:=hz.size;omega)).alloc (by have:=hz.size;have:=hk4.size;omega) o))) hne hge
    show Calls _ _ _ _ (OwnX X bs (k+d) w (match blkP (stmtP m n) st (joinI pc l) sb with | .error x=>.error x | .ok st'=>blkP (stmtP m n) st' (joinI pc l) sl))
    rw [join_comm pc l,hq]
    obtain ⟨R1,hR1⟩:∃ R,blkP (stmtP m n) st q sb=R:=⟨_,rfl⟩
    rw [hR1] at PB1 ⊢
    clear hR1
    cases R1 with
    | error x=>
      show Calls _ _ _ _ (OwnX X bs (k+d) w (.error x))
      have FIN:=Lib.hid (fun w3 w4 f4 ls4 (o:Obj) (u0 u1 u2:Value) (hx:x.1≠0) (hz:Below w.heap.size w w3) (hk4:KeepX (SZ X w w3) w3 w4) (hS4:ScAt (SZ X w w3) bs (k+tot (cntS n) sb) f4 ls4 w4) (hl4:ls4.length<=k+tot (cntS n) sb) (hg3:w.heap.size+1<w3.heap.size)=>
        (show OwnX X bs (k+d) w (.error x) (.returned (.agg #[.int .i64 x.1,.int .i64 x.2,.int .i64 0])) (putW (w4.alloc o) (w.heap.size+1) u0 u1 u2) from by
          obtain ⟨h1,h2⟩:=own_endZ (Z:=SZ X w w3) hX (fun j h=>⟨.inl h,Nat.lt_of_lt_of_le (hX j h) hz.size⟩) (KeepX.of_below hz) hk4 hS4 ((Below.refl _ _).alloc (Nat.le_refl _) o) (show w.heap.size<=w.heap.size+1 by omega) ⟨.inr (by omega),hg3⟩ (by rw [alloc_size];have:=hk4.size;omega) u0 u1 u2
          exact ⟨h1,rfl,hx,f4,ls4,h2.mono (by omega),by omega⟩))
      generalize st.f sn=mm at PF
      obtain ⟨mk,ml,mc,mb⟩:=mm
      simp only at PF
      clear hS hX hXB hf hfb hl hns hE hn hL hR hq EN ER hk hd ih hbd hel hnb hne hgb hge PB2
      go_enter Tryz.func90,Tryz.ntmps90
      go_wp2_with fail
      refine hd_region w.heap.size sa (by rfl) (by rw [two_size];omega) (by rw [Lib.cell_of_heap (two_first w _ _)];rfl) (by rfl) ?_
      intro g W hbW hg1 hg2 hT hF
      obtain ⟨hb0,H⟩:=hd_of hbW hg1 hg2 hT hF
      rw [writeAll_hd]
      simp only [hdV,List.setIfInBounds_toArray,List.set_cons_zero,List.set_cons_succ]
      obtain ⟨⟨x0,x1,x2,x3,x4,x5,x6⟩,⟨r0,r1,r2⟩,⟨t0,t1,t2⟩,⟨e0,e1,e2⟩,f0,f1,f2⟩:=H.cells
      have HH:=Lib.hid H
      clear hbW hg1 hg2 hT hF H
      go_wp2_with (first
        | (go_at_call 62;refine (PB1 w3 hz3).mono ?_;rintro ed w4 ⟨hk4,rfl,hx,f4,ls4,hS4,hl4⟩;have hxb:(x.1 != 0)=true:=(by simpa using hx);have H4:=Lib.hid (H3.out.keep H3.out hk4 (fun j a b=>⟨.inr a,b⟩));have dx0:=fun o=>((H4.out.alloc o).cells).1.1;have dx1:=fun o=>((H4.out.alloc o).cells).1.2.1;have dx2:=fun o=>((H4.out.alloc o).cells).1.2.2.1;have dx3:=fun o=>((H4.out.alloc o).cells).1.2.2.2.1;have dx4:=fun o=>((H4.out.alloc o).cells).1.2.2.2.2.1;have dx5:=fun o=>((H4.out.alloc o).cells).1.2.2.2.2.2.1;have dx6:=fun o=>((H4.out.alloc o).cells).1.2.2.2.2.2.2;have dr0:=fun o=>((H4.out.alloc o).cells).2.1.1;have dr1:=fun o=>((H4.out.alloc o).cells).2.1.2.1;have dr2:=fun o=>((H4.out.alloc o).cells).2.1.2.2;have dt0:=fun o=>((H4.out.alloc o).cells).2.2.1.1;have dt1:=fun o=>((H4.out.alloc o).cells).2.2.1.2.1;have dt2:=fun o=>((H4.out.alloc o).cells).2.2.1.2.2;have de0:=fun o=>((H4.out.alloc o).cells).2.2.2.1.1;have de1:=fun o=>((H4.out.alloc o).cells).2.2.2.1.2.1;have de2:=fun o=>((H4.out.alloc o).cells).2.2.2.1.2.2;have df0:=fun o=>((H4.out.alloc o).cells).2.2.2.2.1;have df1:=fun o=>((H4.out.alloc o).cells).2.2.2.2.2.1;have df2:=fun o=>((H4.out.alloc o).cells).2.2.2.2.2.2)
        | (go_at_call 72;refine (PJ _ _ (by rw [Lib.cell_of_heap (two_second _ _ _)];rfl) (by rw [Lib.cell_of_heap (two_second _ _ _)];rfl)).mono ?_;rintro ed w3 ⟨rfl,hw3⟩;have hb3:Below w2.heap.size w2 w3:=(by rw [hw3];exact ((Below.refl _ _).alloc (Nat.le_refl _) _).alloc (by rw [alloc_size];omega) _);have H3:=Lib.hid (H2.out.on hb3);have hz3:=hz2.trans (hb3.mono hz2.size);clear hw3;obtain ⟨⟨cx0,cx1,cx2,cx3,cx4,cx5,cx6⟩,⟨cr0,cr1,cr2⟩,⟨ct0,ct1,ct2⟩,⟨ce0,ce1,ce2⟩,cf0,cf1,cf2⟩:=H3.out.cells)
        | (go_at_call 22;refine (PE _ hz1).mono ?_;rintro ed w2 ⟨rfl,hb2⟩;have H2:=Lib.hid (H1.out.on hb2);have hz2:=hz1.trans (hb2.mono hz1.size);have bx0:=fun o=>((H2.out.alloc o).cells).1.1;have bx1:=fun o=>((H2.out.alloc o).cells).1.2.1;have bx2:=fun o=>((H2.out.alloc o).cells).1.2.2.1;have bx3:=fun o=>((H2.out.alloc o).cells).1.2.2.2.1;have bx4:=fun o=>((H2.out.alloc o).cells).1.2.2.2.2.1;have bx5:=fun o=>((H2.out.alloc o).cells).1.2.2.2.2.2.1;have bx6:=fun o=>((H2.out.alloc o).cells).1.2.2.2.2.2.2;have br0:=fun o=>((H2.out.alloc o).cells).2.1.1;have br1:=fun o=>((H2.out.alloc o).cells).2.1.2.1;have br2:=fun o=>((H2.out.alloc o).cells).2.1.2.2;have bt0:=fun o=>((H2.out.alloc o).cells).2.2.1.1;have bt1:=fun o=>((H2.out.alloc o).cells).2.2.1.2.1;have bt2:=fun o=>((H2.out.alloc o).cells).2.2.1.2.2;have be0:=fun o=>((H2.out.alloc o).cells).2.2.2.1.1;have be1:=fun o=>((H2.out.alloc o).cells).2.2.2.1.2.1;have be2:=fun o=>((H2.out.alloc o).cells).2.2.2.1.2.2;have bf0:=fun o=>((H2.out.alloc o).cells).2.2.2.2.1;have bf1:=fun o=>((H2.out.alloc o).cells).2.2.2.2.2.1;have bf2:=fun o=>((H2.out.alloc o).cells).2.2.2.2.2.2)
        | (go_at_call 45;refine (PF _ hb0).mono ?_;rintro ed w1 ⟨rfl,hb1⟩;have H1:=Lib.hid (HH.out.on hb1);have hz1:=hb0.trans (hb1.mono hb0.size);obtain ⟨⟨ax0,ax1,ax2,ax3,ax4,ax5,ax6⟩,⟨ar0,ar1,ar2⟩,⟨at0,at1,at2⟩,⟨ae0,ae1,ae2⟩,af0,af1,af2⟩:=H1.out.cells;have k0:=(hz1.cell (p:=⟨gx,ox,none⟩) hgx).trans i0;have k1:=(hz1.cell (p:=⟨gx,ox+1,none⟩) hgx).trans i1;have k2:=(hz1.cell (p:=⟨gx,ox+2,none⟩) hgx).trans i2;have k3:=(hz1.cell (p:=⟨gx,ox+3,none⟩) hgx).trans i3;have k4:=(hz1.cell (p:=⟨gx,ox+4,none⟩) hgx).trans i4;have k5:=(hz1.cell (p:=⟨gx,ox+5,none⟩) hgx).trans i5;have hgw:gx<w1.heap.size:=Nat.lt_of_lt_of_le hgx hz1.size))
      have H5:=H4.out.alloc (.cells #[.int .i64 x.1,.int .i64 x.2,.int .i64 0] 67)
      obtain ⟨z0,z1,z2,_⟩:=put3 H5.2.1 (.int .i64 x.1) (.int .i64 x.2) (.int .i64 0)
      try simp only [Exit.inBlock,Exit.then]
      refine bodyPost_ret (v:=.agg #[.int .i64 x.1,.int .i64 x.2,.int .i64 0]) (by simp [results,Tryz.results90,go_sem,z0,z1,z2,Result.andThen]) rfl ?_
      exact FIN.out w3 w4 f4 ls4 _ _ _ _ hx hz3 hk4 hS4 hl4 (heap_lt H3.out.2.1)
    | ok st1=>
      replace PB2:=PB2 st1
      show Calls _ _ _ _ (OwnX X bs (k+d) w (blkP (stmtP m n) st1 q sl))
      obtain ⟨R2,hR2⟩:∃ R,blkP (stmtP m n) st1 q sl=R:=⟨_,rfl⟩
      rw [hR2] at PB2 ⊢
      clear hR2
      have FIN:=Lib.hid (fun w3 w4 w6 (r:Except Er St) (ed:Ending) (o:Obj) (u0 u1 u2:Value) (hz:Below w.heap.size w w3) (hk4:KeepX (SZ X w w3) w3 w4) (hr:OwnX (fun j=>(SZ X w w3 j\/w4.heap.size<=j)/\j<(w4.alloc o).heap.size) bs (k+tot (cntS n) sb+tot (cntS n) sl) (w4.alloc o) r ed w6) (hg3:w.heap.size+1<w3.heap.size)=>
        (show OwnX X bs (k+d) w r ed (putW w6 (w.heap.size+1) u0 u1 u2) from by
          obtain ⟨hk6,hr⟩:=hr
          have h3:KeepX X w (w4.alloc o):=(KeepX.of_below hz).trans ((hk4.mono fun j _ h=>⟨.inl h,Nat.lt_of_lt_of_le (hX j h) hz.size⟩).trans (KeepX.of_below ((Below.refl _ _).alloc (Nat.le_refl _) o)))
          have hXZ:∀ j,X j->(SZ X w w3 j\/w4.heap.size<=j)/\j<(w4.alloc o).heap.size:=fun j h=>⟨.inl ⟨.inl h,Nat.lt_of_lt_of_le (hX j h) hz.size⟩,by have:=hX j h;have:=h3.size;omega⟩
          have hZg:(SZ X w w3 (w.heap.size+1)\/w4.heap.size<=w.heap.size+1)/\w.heap.size+1<(w4.alloc o).heap.size:=⟨.inl ⟨.inr (by omega),hg3⟩,by rw [alloc_size];have:=hk4.size;omega⟩
          cases r with
          | error x=>
            obtain ⟨a,b,f6,ls6,hS6,hl6⟩:=hr
            obtain ⟨h1,h2⟩:=own_endZ hX hXZ h3 hk6 hS6 (Below.refl _ _) (show w.heap.size<=w.heap.size+1 by omega) hZg (Nat.lt_of_lt_of_le hZg.2 hk6.size) u0 u1 u2
            exact ⟨h1,a,b,f6,ls6,h2.mono (by omega),by omega⟩
          | ok st6=>
            obtain ⟨a,hS6,b,c,e⟩:=hr
            obtain ⟨h1,h2⟩:=own_endZ hX hXZ h3 hk6 hS6 (Below.refl _ _) (show w.heap.size<=w.heap.size+1 by omega) hZg (Nat.lt_of_lt_of_le hZg.2 hk6.size) u0 u1 u2
            exact ⟨h1,a,h2.mono (by omega),b,c,by omega⟩))
      generalize st.f sn=mm at PF
      obtain ⟨mk,ml,mc,mb⟩:=mm
      simp only at PF
      clear hS hX hXB hf hfb hl hns hE hn hL hR hq EN ER hk hd ih hbd hel hnb hne hgb hge
      cases R2 with
      | error x=>
        go_enter Tryz.func90,Tryz.ntmps90
        go_wp2_with fail
        refine hd_region w.heap.size sa (by rfl) (by rw [two_size];omega) (by rw [Lib.cell_of_heap (two_first w _ _)];rfl) (by rfl) ?_
        intro g W hbW hg1 hg2 hT hF
        obtain ⟨hb0,H⟩:=hd_of hbW hg1 hg2 hT hF
        rw [writeAll_hd]
        simp only [hdV,List.setIfInBounds_toArray,List.set_cons_zero,List.set_cons_succ]
        obtain ⟨⟨x0,x1,x2,x3,x4,x5,x6⟩,⟨r0,r1,r2⟩,⟨t0,t1,t2⟩,⟨e0,e1,e2⟩,f0,f1,f2⟩:=H.cells
        have HH:=Lib.hid H
        clear hbW hg1 hg2 hT hF H
        go_wp2_with (first
          | (go_at_call 62;refine (PB2 w3 w4 _ hz3 hk4 hS4 hf4 hfb4 hl4).mono ?_;rintro ed w6 ⟨hk6,rfl,hx,f6,ls6,hS6,hl6⟩;have H6:=Lib.hid (H3.out.keep (H4.out.alloc _) hk6 (fun j a b=>⟨.inl ⟨.inr a,b⟩,(by rw [alloc_size];have:=hk4.size;omega)⟩));obtain ⟨⟨gx0,gx1,gx2,gx3,gx4,gx5,gx6⟩,⟨gr0,gr1,gr2⟩,⟨gt0,gt1,gt2⟩,⟨ge0,ge1,ge2⟩,gf0,gf1,gf2⟩:=H6.out.cells)
          | (go_at_call 62;refine (PB1 w3 hz3).mono ?_;rintro ed w4 ⟨hk4,⟨l4,rfl⟩,hS4,hf4,hfb4,hl4⟩;have H4:=Lib.hid (H3.out.keep H3.out hk4 (fun j a b=>⟨.inr a,b⟩));have dx0:=fun o=>((H4.out.alloc o).cells).1.1;have dx1:=fun o=>((H4.out.alloc o).cells).1.2.1;have dx2:=fun o=>((H4.out.alloc o).cells).1.2.2.1;have dx3:=fun o=>((H4.out.alloc o).cells).1.2.2.2.1;have dx4:=fun o=>((H4.out.alloc o).cells).1.2.2.2.2.1;have dx5:=fun o=>((H4.out.alloc o).cells).1.2.2.2.2.2.1;have dx6:=fun o=>((H4.out.alloc o).cells).1.2.2.2.2.2.2;have dr0:=fun o=>((H4.out.alloc o).cells).2.1.1;have dr1:=fun o=>((H4.out.alloc o).cells).2.1.2.1;have dr2:=fun o=>((H4.out.alloc o).cells).2.1.2.2;have dt0:=fun o=>((H4.out.alloc o).cells).2.2.1.1;have dt1:=fun o=>((H4.out.alloc o).cells).2.2.1.2.1;have dt2:=fun o=>((H4.out.alloc o).cells).2.2.1.2.2;have de0:=fun o=>((H4.out.alloc o).cells).2.2.2.1.1;have de1:=fun o=>((H4.out.alloc o).cells).2.2.2.1.2.1;have de2:=fun o=>((H4.out.alloc o).cells).2.2.2.1.2.2;have df0:=fun o=>((H4.out.alloc o).cells).2.2.2.2.1;have df1:=fun o=>((H4.out.alloc o).cells).2.2.2.2.2.1;have df2:=fun o=>((H4.out.alloc o).cells).2.2.2.2.2.2)
          | (go_at_call 72;refine (PJ _ _ (by rw [Lib.cell_of_heap (two_second _ _ _)];rfl) (by rw [Lib.cell_of_heap (two_second _ _ _)];rfl)).mono ?_;rintro ed w3 ⟨rfl,hw3⟩;have hb3:Below w2.heap.size w2 w3:=(by rw [hw3];exact ((Below.refl _ _).alloc (Nat.le_refl _) _).alloc (by rw [alloc_size];omega) _);have H3:=Lib.hid (H2.out.on hb3);have hz3:=hz2.trans (hb3.mono hz2.size);clear hw3;obtain ⟨⟨cx0,cx1,cx2,cx3,cx4,cx5,cx6⟩,⟨cr0,cr1,cr2⟩,⟨ct0,ct1,ct2⟩,⟨ce0,ce1,ce2⟩,cf0,cf1,cf2⟩:=H3.out.cells)
          | (go_at_call 22;refine (PE _ hz1).mono ?_;rintro ed w2 ⟨rfl,hb2⟩;have H2:=Lib.hid (H1.out.on hb2);have hz2:=hz1.trans (hb2.mono hz1.size);have bx0:=fun o=>((H2.out.alloc o).cells).1.1;have bx1:=fun o=>((H2.out.alloc o).cells).1.2.1;have bx2:=fun o=>((H2.out.alloc o).cells).1.2.2.1;have bx3:=fun o=>((H2.out.alloc o).cells).1.2.2.2.1;have bx4:=fun o=>((H2.out.alloc o).cells).1.2.2.2.2.1;have bx5:=fun o=>((H2.out.alloc o).cells).1.2.2.2.2.2.1;have bx6:=fun o=>((H2.out.alloc o).cells).1.2.2.2.2.2.2;have br0:=fun o=>((H2.out.alloc o).cells).2.1.1;have br1:=fun o=>((H2.out.alloc o).cells).2.1.2.1;have br2:=fun o=>((H2.out.alloc o).cells).2.1.2.2;have bt0:=fun o=>((H2.out.alloc o).cells).2.2.1.1;have bt1:=fun o=>((H2.out.alloc o).cells).2.2.1.2.1;have bt2:=fun o=>((H2.out.alloc o).cells).2.2.1.2.2;have be0:=fun o=>((H2.out.alloc o).cells).2.2.2.1.1;have be1:=fun o=>((H2.out.alloc o).cells).2.2.2.1.2.1;have be2:=fun o=>((H2.out.alloc o).cells).2.2.2.1.2.2;have bf0:=fun o=>((H2.out.alloc o).cells).2.2.2.2.1;have bf1:=fun o=>((H2.out.alloc o).cells).2.2.2.2.2.1;have bf2:=fun o=>((H2.out.alloc o).cells).2.2.2.2.2.2)
          | (go_at_call 45;refine (PF _ hb0).mono ?_;rintro ed w1 ⟨rfl,hb1⟩;have H1:=Lib.hid (HH.out.on hb1);have hz1:=hb0.trans (hb1.mono hb0.size);obtain ⟨⟨ax0,ax1,ax2,ax3,ax4,ax5,ax6⟩,⟨ar0,ar1,ar2⟩,⟨at0,at1,at2⟩,⟨ae0,ae1,ae2⟩,af0,af1,af2⟩:=H1.out.cells;have k0:=(hz1.cell (p:=⟨gx,ox,none⟩) hgx).trans i0;have k1:=(hz1.cell (p:=⟨gx,ox+1,none⟩) hgx).trans i1;have k2:=(hz1.cell (p:=⟨gx,ox+2,none⟩) hgx).trans i2;have k3:=(hz1.cell (p:=⟨gx,ox+3,none⟩) hgx).trans i3;have k4:=(hz1.cell (p:=⟨gx,ox+4,none⟩) hgx).trans i4;have k5:=(hz1.cell (p:=⟨gx,ox+5,none⟩) hgx).trans i5;have hgw:gx<w1.heap.size:=Nat.lt_of_lt_of_le hgx hz1.size))
        obtain ⟨z0,z1,z2,_⟩:=put3 H6.out.2.1 (.int .i64 x.1) (.int .i64 x.2) (.int .i64 0)
        try simp only [Exit.inBlock,Exit.then]
        refine bodyPost_ret (v:=.agg #[.int .i64 x.1,.int .i64 x.2,.int .i64 0]) (by simp [results,Tryz.results90,go_sem,z0,z1,z2,Result.andThen]) rfl ?_
        exact FIN.out w3 w4 w6 (.error x) _ _ _ _ _ hz3 hk4 ⟨hk6,rfl,hx,f6,ls6,hS6,hl6⟩ (heap_lt H3.out.2.1)
      | ok st6=>
        go_enter Tryz.func90,Tryz.ntmps90
        go_wp2_with fail
        refine hd_region w.heap.size sa (by rfl) (by rw [two_size];omega) (by rw [Lib.cell_of_heap (two_first w _ _)];rfl) (by rfl) ?_
        intro g W hbW hg1 hg2 hT hF
        obtain ⟨hb0,H⟩:=hd_of hbW hg1 hg2 hT hF
        rw [writeAll_hd]
        simp only [hdV,List.setIfInBounds_toArray,List.set_cons_zero,List.set_cons_succ]
        obtain ⟨⟨x0,x1,x2,x3,x4,x5,x6⟩,⟨r0,r1,r2⟩,⟨t0,t1,t2⟩,⟨e0,e1,e2⟩,f0,f1,f2⟩:=H.cells
        have HH:=Lib.hid H
        clear hbW hg1 hg2 hT hF H
        go_wp2_with (first
          | (go_at_call 62;refine (PB2 w3 w4 _ hz3 hk4 hS4 hf4 hfb4 hl4).mono ?_;rintro ed w6 ⟨hk6,⟨l6,rfl⟩,hS6,hf6,hfb6,hl6⟩;have H6:=Lib.hid (H3.out.keep (H4.out.alloc _) hk6 (fun j a b=>⟨.inl ⟨.inr a,b⟩,(by rw [alloc_size];have:=hk4.size;omega)⟩));obtain ⟨⟨gx0,gx1,gx2,gx3,gx4,gx5,gx6⟩,⟨gr0,gr1,gr2⟩,⟨gt0,gt1,gt2⟩,⟨ge0,ge1,ge2⟩,gf0,gf1,gf2⟩:=H6.out.cells)
          | (go_at_call 62;refine (PB1 w3 hz3).mono ?_;rintro ed w4 ⟨hk4,⟨l4,rfl⟩,hS4,hf4,hfb4,hl4⟩;have H4:=Lib.hid (H3.out.keep H3.out hk4 (fun j a b=>⟨.inr a,b⟩));have dx0:=fun o=>((H4.out.alloc o).cells).1.1;have dx1:=fun o=>((H4.out.alloc o).cells).1.2.1;have dx2:=fun o=>((H4.out.alloc o).cells).1.2.2.1;have dx3:=fun o=>((H4.out.alloc o).cells).1.2.2.2.1;have dx4:=fun o=>((H4.out.alloc o).cells).1.2.2.2.2.1;have dx5:=fun o=>((H4.out.alloc o).cells).1.2.2.2.2.2.1;have dx6:=fun o=>((H4.out.alloc o).cells).1.2.2.2.2.2.2;have dr0:=fun o=>((H4.out.alloc o).cells).2.1.1;have dr1:=fun o=>((H4.out.alloc o).cells).2.1.2.1;have dr2:=fun o=>((H4.out.alloc o).cells).2.1.2.2;have dt0:=fun o=>((H4.out.alloc o).cells).2.2.1.1;have dt1:=fun o=>((H4.out.alloc o).cells).2.2.1.2.1;have dt2:=fun o=>((H4.out.alloc o).cells).2.2.1.2.2;have de0:=fun o=>((H4.out.alloc o).cells).2.2.2.1.1;have de1:=fun o=>((H4.out.alloc o).cells).2.2.2.1.2.1;have de2:=fun o=>((H4.out.alloc o).cells).2.2.2.1.2.2;have df0:=fun o=>((H4.out.alloc o).cells).2.2.2.2.1;have df1:=fun o=>((H4.out.alloc o).cells).2.2.2.2.2.1;have df2:=fun o=>((H4.out.alloc o).cells).2.2.2.2.2.2)
          | (go_at_call 72;refine (PJ _ _ (by rw [Lib.cell_of_heap (two_second _ _ _)];rfl) (by rw [Lib.cell_of_heap (two_second _ _ _)];rfl)).mono ?_;rintro ed w3 ⟨rfl,hw3⟩;have hb3:Below w2.heap.size w2 w3:=(by rw [hw3];exact ((Below.refl _ _).alloc (Nat.le_refl _) _).alloc (by rw [alloc_size];omega) _);have H3:=Lib.hid (H2.out.on hb3);have hz3:=hz2.trans (hb3.mono hz2.size);clear hw3;obtain ⟨⟨cx0,cx1,cx2,cx3,cx4,cx5,cx6⟩,⟨cr0,cr1,cr2⟩,⟨ct0,ct1,ct2⟩,⟨ce0,ce1,ce2⟩,cf0,cf1,cf2⟩:=H3.out.cells)
          | (go_at_call 22;refine (PE _ hz1).mono ?_;rintro ed w2 ⟨rfl,hb2⟩;have H2:=Lib.hid (H1.out.on hb2);have hz2:=hz1.trans (hb2.mono hz1.size);have bx0:=fun o=>((H2.out.alloc o).cells).1.1;have bx1:=fun o=>((H2.out.alloc o).cells).1.2.1;have bx2:=fun o=>((H2.out.alloc o).cells).1.2.2.1;have bx3:=fun o=>((H2.out.alloc o).cells).1.2.2.2.1;have bx4:=fun o=>((H2.out.alloc o).cells).1.2.2.2.2.1;have bx5:=fun o=>((H2.out.alloc o).cells).1.2.2.2.2.2.1;have bx6:=fun o=>((H2.out.alloc o).cells).1.2.2.2.2.2.2;have br0:=fun o=>((H2.out.alloc o).cells).2.1.1;have br1:=fun o=>((H2.out.alloc o).cells).2.1.2.1;have br2:=fun o=>((H2.out.alloc o).cells).2.1.2.2;have bt0:=fun o=>((H2.out.alloc o).cells).2.2.1.1;have bt1:=fun o=>((H2.out.alloc o).cells).2.2.1.2.1;have bt2:=fun o=>((H2.out.alloc o).cells).2.2.1.2.2;have be0:=fun o=>((H2.out.alloc o).cells).2.2.2.1.1;have be1:=fun o=>((H2.out.alloc o).cells).2.2.2.1.2.1;have be2:=fun o=>((H2.out.alloc o).cells).2.2.2.1.2.2;have bf0:=fun o=>((H2.out.alloc o).cells).2.2.2.2.1;have bf1:=fun o=>((H2.out.alloc o).cells).2.2.2.2.2.1;have bf2:=fun o=>((H2.out.alloc o).cells).2.2.2.2.2.2)
          | (go_at_call 45;refine (PF _ hb0).mono ?_;rintro ed w1 ⟨rfl,hb1⟩;have H1:=Lib.hid (HH.out.on hb1);have hz1:=hb0.trans (hb1.mono hb0.size);obtain ⟨⟨ax0,ax1,ax2,ax3,ax4,ax5,ax6⟩,⟨ar0,ar1,ar2⟩,⟨at0,at1,at2⟩,⟨ae0,ae1,ae2⟩,af0,af1,af2⟩:=H1.out.cells;have k0:=(hz1.cell (p:=⟨gx,ox,none⟩) hgx).trans i0;have k1:=(hz1.cell (p:=⟨gx,ox+1,none⟩) hgx).trans i1;have k2:=(hz1.cell (p:=⟨gx,ox+2,none⟩) hgx).trans i2;have k3:=(hz1.cell (p:=⟨gx,ox+3,none⟩) hgx).trans i3;have k4:=(hz1.cell (p:=⟨gx,ox+4,none⟩) hgx).trans i4;have k5:=(hz1.cell (p:=⟨gx,ox+5,none⟩) hgx).trans i5;have hgw:gx<w1.heap.size:=Nat.lt_of_lt_of_le hgx hz1.size))
        obtain ⟨z0,z1,z2,_⟩:=put3 H6.out.2.1 (.int .i64 0) (.int .i64 0) (.int .i64 l6)
        try simp only [Exit.inBlock,Exit.then]
        refine bodyPost_ret (v:=.agg #[.int .i64 0,.int .i64 0,.int .i64 l6]) (by simp [results,Tryz.results90,go_sem,z0,z1,z2,Result.andThen]) rfl ?_
        exact FIN.out w3 w4 w6 (.ok st6) _ _ _ _ _ hz3 hk4 ⟨hk6,⟨l6,rfl⟩,hS6,hf6,hfb6,hl6⟩ (heap_lt H3.out.2.1)
theorem os_4 {m n B:Nat} {pc:Int} {X:Nat->Prop} {bs k d:Nat} {st:St} {sn:ByteArray} {sc sa:Int} {ea ba la:Option Addr} {nE nL ec bc lc:Nat} {sb:List Stm} {w:World} (hS:ScAt X bs k st.f st.ls w) (hX:∀ j,X j->j<w.heap.size) (hXB:∀ j,j<B->X j) (hf:okF st.f) (hfb:okB st.f) (hl:st.ls.length<=k) (hns:sn.size<=35184372088832) (hc:sc<=256) (hk:k+(d+1)<=900000) (hd:tot (cntS n) sb<=d) (ih:BlockW m n) (hbd:Stms 0 B w (fun v' s'=>SRep 0 B w m n v' s') (.slice ba sb.length bc) sb) (hnb:∀ t ∈ sb,nmS m n t) (hgb:∀ t ∈ sb,Pr.gS m n t):
    Calls Tryz.prog 90 #[.pointer (some ⟨bs,0,none⟩),.agg #[.int .i64 4,.string sn,.slice ea nE ec,.int .i64 sc,.slice ba sb.length bc,.slice la nL lc,.int .i64 sa],.int .i64 pc] w (OwnX X bs (k+(d+1)) w (match enterP st sn 0 sc with | none=>.error (3,sa) | some st'=>match blkP (stmtP m n) st' pc sb with | .error x=>.error x | .ok st2=>.ok (leaveP st2 st.ls.length))):=by
  have hB:=below_size hX hXB
  have PM:=fun W (hz:Below w.heap.size w W)=>Sc.mark_any (hS.below hz)
  by_cases h0:(st.f sn).kind=0
  · have hP:enterP st sn 0 sc=some ⟨put st.f sn (localM 0 sc),st.ls++[sn]⟩:=by unfold enterP;rw [if_pos h0]
    rw [hP]
    have EY:=fun W (hz:Below w.heap.size w W)=>Sc.enter_yes (scat_full hS hz) (fun j h=>h.2) (by unfold maxLen;omega) (by omega) sn (nm_le hns) 0 sc h0
    have PB:=fun (W w2:World) (hz:Below w.heap.size w W) (hk2:KeepX (SZ X w W) W w2) (hS2:ScAt (SZ X w W) bs (k+1) (put st.f sn (localM 0 sc)) (st.ls++[sn]) w2)=>
     ih (SZ X w W) B bs (k+1) ⟨put st.f sn (localM 0 sc),st.ls++[sn]⟩ pc _ sb w2 hS2 (fun j h=>Nat.lt_of_lt_of_le h.2 hk2.size) (fun j h=>⟨.inl (hXB j h),by have:=hz.size;omega⟩) (okF_enter hf _ _ _ (by omega)) (okB_enter hfb _ _ _ (by omega)) (by simp;omega) (by omega)
        (hbd.on ((hz.mono hB).trans ((hk2.mono fun j _ (h:j<B)=>⟨.inl (hXB j h),by have:=hz.size;omega⟩).below (by have:=hz.size;omega)))) hnb hgb
    show Calls _ _ _ _ (OwnX X bs (k+(d+1)) w (match blkP (stmtP m n) ⟨put st.f sn (localM 0 sc),st.ls++[sn]⟩ pc sb with | .error x=>.error x | .ok st2=>.ok (leaveP st2 st.ls.length)))
    obtain ⟨R,hR⟩:∃ R,blkP (stmtP m n) ⟨put st.f sn (localM 0 sc),st.ls++[sn]⟩ pc sb=R:=⟨_,rfl⟩
    rw [hR]
    simp only [hR] at PB
    have FIN:=Lib.hid (fun (W w2 w5 w7:World) f7 ls7 (o:Obj) (u0 u1 u2:Value) (hz:Below w.heap.size w W) (hk2:KeepX (SZ X w W) W w2) (hk5:KeepX (SZ X w W) w2 w5) (hk7:KeepX (fun j=>(SZ X w W j\/w5.heap.size<=j)/\j<(w5.alloc o).heap.size) (w5.alloc o) w7)
     (hS7:ScAt (fun j=>(SZ X w W j\/w5.heap.size<=j)/\j<(w5.alloc o).heap.size) bs (k+1+tot (cntS n) sb) f7 ls7 w7) (hg:w.heap.size+1<W.heap.size)=>
        (show KeepX X w (putW w7 (w.heap.size+1) u0 u1 u2)/\ScAt X bs (k+(d+1)) f7 ls7 (putW w7 (w.heap.size+1) u0 u1 u2) from by
          have hXW:∀ j,X j->SZ X w W j:=fun j h=>⟨.inl h,Nat.lt_of_lt_of_le (hX j h) hz.size⟩
          have h3:KeepX X w (w5.alloc o):=(KeepX.of_below hz).trans (((hk2.trans hk5).mono fun j _ h=>hXW j h).trans (KeepX.of_below ((Below.refl _ _).alloc (Nat.le_refl _) o)))
          have hlt:w.heap.size+1<(w5.alloc o).heap.size:=by rw [alloc_size];have:=hk2.size;have:=hk5.size;omega
          obtain ⟨h1,h2⟩:=own_endZ hX (fun j h=>⟨.inl (hXW j h),by have:=hX j h;have:=h3.size;omega⟩) h3 hk7 hS7 (Below.refl _ _) (show w.heap.size<=w.heap.size+1 by omega) ⟨.inl ⟨.inr (by omega),hg⟩,hlt⟩ (Nat.lt_of_lt_of_le hlt hk7.size) u0 u1 u2
          exact ⟨h1,h2.mono (by omega)⟩))
    have HK:Hid (k+1+tot (cntS n) sb<1000000):=Lib.hid (by omega)
    have HD:=Lib.hid hd
    generalize put st.f sn (localM 0 sc)=f2 at EY PB
    generalize st.ls++[sn]=ls2 at EY PB
    clear hS hX hXB hf hfb hl hns hc hk hd ih hbd hnb hgb h0 hP hB hR
    cases R with
    | error x=>
      show Calls _ _ _ _ (OwnX X bs (k+(d+1)) w (.error x))
      go_enter Tryz.func90,Tryz.ntmps90
      go_wp2_with fail
      refine hd_region w.heap.size sa (by rfl) (by rw [two_size];omega) (by rw [Lib.cell_of_heap (two_first w _ _)];rfl) (by rfl) ?_
      intro g W hbW hg1 hg2 hT hF
      obtain ⟨hb0,H⟩:=hd_of hbW hg1 hg2 hT hF
      rw [writeAll_hd]
      simp only [hdV,List.setIfInBounds_toArray,List.set_cons_zero,List.set_cons_succ]
      obtain ⟨⟨x0,x1,x2,x3,x4,x5,x6⟩,⟨r0,r1,r2⟩,⟨t0,t1,t2⟩,⟨e0,e1,e2⟩,f0,f1,f2⟩:=H.cells
      have HH:=Lib.hid H
      clear hbW hg1 hg2 hT hF H
      go_wp2_with (first
        | (go_at_call 69;refine (leave_all (st:=⟨f5,ls5⟩) (scat_full hS5 ((Below.refl _ _).alloc (Nat.le_refl _) _)) (Nat.lt_of_le_of_lt hl5 HK.out) st.ls.length).mono ?_;rintro ed w7 ⟨rfl,hS7,hk7⟩;have H7:=Lib.hid (HH.out.keep (H5.out.alloc _) hk7 (fun j a b=>⟨.inl ⟨.inr a,b⟩,(by rw [alloc_size];have:=hk2.size;have:=hk5.size;omega)⟩));obtain ⟨⟨dx0,dx1,dx2,dx3,dx4,dx5,dx6⟩,⟨dr0,dr1,dr2⟩,⟨dt0,dt1,dt2⟩,⟨de0,de1,de2⟩,df0,df1,df2⟩:=H7.out.cells;obtain ⟨y0,y1,y2⟩:=wr_cells ((hk7.block w5.heap.size ⟨.inr (Nat.le_refl _),(by rw [alloc_size];omega)⟩ (by rw [alloc_size];omega)).trans (heap_alloc_new _ _)))
        | (go_at_call 62;refine (PB W w2 hb0 hk2 hS2).mono ?_;rintro ed w5 ⟨hk5,rfl,hx,f5,ls5,hS5,hl5⟩;have H5:=Lib.hid (HH.out.keep H2.out hk5 (fun j a b=>⟨.inr a,b⟩));have cx0:=fun o=>((H5.out.alloc o).cells).1.1;have cx1:=fun o=>((H5.out.alloc o).cells).1.2.1;have cx2:=fun o=>((H5.out.alloc o).cells).1.2.2.1;have cx3:=fun o=>((H5.out.alloc o).cells).1.2.2.2.1;have cx4:=fun o=>((H5.out.alloc o).cells).1.2.2.2.2.1;have cx5:=fun o=>((H5.out.alloc o).cells).1.2.2.2.2.2.1;have cx6:=fun o=>((H5.out.alloc o).cells).1.2.2.2.2.2.2;have cr0:=fun o=>((H5.out.alloc o).cells).2.1.1;have cr1:=fun o=>((H5.out.alloc o).cells).2.1.2.1;have cr2:=fun o=>((H5.out.alloc o).cells).2.1.2.2;have ct0:=fun o=>((H5.out.alloc o).cells).2.2.1.1;have ct1:=fun o=>((H5.out.alloc o).cells).2.2.1.2.1;have ct2:=fun o=>((H5.out.alloc o).cells).2.2.1.2.2;have ce0:=fun o=>((H5.out.alloc o).cells).2.2.2.1.1;have ce1:=fun o=>((H5.out.alloc o).cells).2.2.2.1.2.1;have ce2:=fun o=>((H5.out.alloc o).cells).2.2.2.1.2.2;have cf0:=fun o=>((H5.out.alloc o).cells).2.2.2.2.1;have cf1:=fun o=>((H5.out.alloc o).cells).2.2.2.2.2.1;have cf2:=fun o=>((H5.out.alloc o).cells).2.2.2.2.2.2)
        | (go_at_call 18;refine (EY W hb0).mono ?_;rintro ed w2 ⟨rfl,hS2,hk2⟩;have H2:=Lib.hid (HH.out.keep HH.out hk2 (fun j a b=>⟨.inr a,b⟩));obtain ⟨⟨bx0,bx1,bx2,bx3,bx4,bx5,bx6⟩,⟨br0,br1,br2⟩,⟨bt0,bt1,bt2⟩,⟨be0,be1,be2⟩,bf0,bf1,bf2⟩:=H2.out.cells)
        | (go_at_call 70;refine (PM W hb0).mono ?_;rintro ed w1 ⟨rfl,hw1⟩;obtain rfl:=hw1.symm))
      obtain ⟨z0,z1,z2,_⟩:=put3 H7.out.2.1 (.int .i64 x.1) (.int .i64 x.2) (.int .i64 0)
      try simp only [Exit.inBlock,Exit.then]
      refine bodyPost_ret (v:=.agg #[.int .i64 x.1,.int .i64 x.2,.int .i64 0]) (by simp [results,Tryz.results90,go_sem,z0,z1,z2,Result.andThen]) rfl ?_
      obtain ⟨h1,h2⟩:=FIN.out W w2 w5 w7 _ _ _ (.int .i64 x.1) (.int .i64 x.2) (.int .i64 0) hb0 hk2 hk5 hk7 hS7 (heap_lt HH.out.2.1)
      have hd:=HD.out
      exact ⟨h1,rfl,hx,_,_,h2,Nat.le_trans (leave_len _ _) (by simp only;omega)⟩
    | ok st2=>
      show Calls _ _ _ _ (OwnX X bs (k+(d+1)) w (.ok (leaveP st2 st.ls.length)))
      go_enter Tryz.func90,Tryz.ntmps90
      go_wp2_with fail
      refine hd_region w.heap.size sa (by rfl) (by rw [two_size];omega) (by rw [Lib.cell_of_heap (two_first w _ _)];rfl) (by rfl) ?_
      intro g W hbW hg1 hg2 hT hF
      obtain ⟨hb0,H⟩:=hd_of hbW hg1 hg2 hT hF
      rw [writeAll_hd]
      simp only [hdV,List.setIfInBounds_toArray,List.set_cons_zero,List.set_cons_succ]
      obtain ⟨⟨x0,x1,x2,x3,x4,x5,x6⟩,⟨r0,r1,r2⟩,⟨t0,t1,t2⟩,⟨e0,e1,e2⟩,f0,f1,f2⟩:=H.cells
      have HH:=Lib.hid H
      clear hbW hg1 hg2 hT hF H
      go_wp2_with (first
        | (go_at_call 69;refine (leave_all (st:=st2) (scat_full hS5 ((Below.refl _ _).alloc (Nat.le_refl _) _)) (Nat.lt_of_le_of_lt hl5 HK.out) st.ls.length).mono ?_;rintro ed w7 ⟨rfl,hS7,hk7⟩;have H7:=Lib.hid (HH.out.keep (H5.out.alloc _) hk7 (fun j a b=>⟨.inl ⟨.inr a,b⟩,(by rw [alloc_size];have:=hk2.size;have:=hk5.size;omega)⟩));obtain ⟨⟨dx0,dx1,dx2,dx3,dx4,dx5,dx6⟩,⟨dr0,dr1,dr2⟩,⟨dt0,dt1,dt2⟩,⟨de0,de1,de2⟩,df0,df1,df2⟩:=H7.out.cells;obtain ⟨y0,y1,y2⟩:=wr_cells ((hk7.block w5.heap.size ⟨.inr (Nat.le_refl _),(by rw [alloc_size];omega)⟩ (by rw [alloc_size];omega)).trans (heap_alloc_new _ _)))
        | (go_at_call 62;refine (PB W w2 hb0 hk2 hS2).mono ?_;rintro ed w5 ⟨hk5,⟨l5,rfl⟩,hS5,hf5,hfb5,hl5⟩;have H5:=Lib.hid (HH.out.keep H2.out hk5 (fun j a b=>⟨.inr a,b⟩));have cx0:=fun o=>((H5.out.alloc o).cells).1.1;have cx1:=fun o=>((H5.out.alloc o).cells).1.2.1;have cx2:=fun o=>((H5.out.alloc o).cells).1.2.2.1;have cx3:=fun o=>((H5.out.alloc o).cells).1.2.2.2.1;have cx4:=fun o=>((H5.out.alloc o).cells).1.2.2.2.2.1;have cx5:=fun o=>((H5.out.alloc o).cells).1.2.2.2.2.2.1;have cx6:=fun o=>((H5.out.alloc o).cells).1.2.2.2.2.2.2;have cr0:=fun o=>((H5.out.alloc o).cells).2.1.1;have cr1:=fun o=>((H5.out.alloc o).cells).2.1.2.1;have cr2:=fun o=>((H5.out.alloc o).cells).2.1.2.2;have ct0:=fun o=>((H5.out.alloc o).cells).2.2.1.1;have ct1:=fun o=>((H5.out.alloc o).cells).2.2.1.2.1;have ct2:=fun o=>((H5.out.alloc o).cells).2.2.1.2.2;have ce0:=fun o=>((H5.out.alloc o).cells).2.2.2.1.1;have ce1:=fun o=>((H5.out.alloc o).cells).2.2.2.1.2.1;have ce2:=fun o=>((H5.out.alloc o).cells).2.2.2.1.2.2;have cf0:=fun o=>((H5.out.alloc o).cells).2.2.2.2.1;have cf1:=fun o=>((H5.out.alloc o).cells).2.2.2.2.2.1;have cf2:=fun o=>((H5.out.alloc o).cells).2.2.2.2.2.2)
        | (go_at_call 18;refine (EY W hb0).mono ?_;rintro ed w2 ⟨rfl,hS2,hk2⟩;have H2:=Lib.hid (HH.out.keep HH.out hk2 (fun j a b=>⟨.inr a,b⟩));obtain ⟨⟨bx0,bx1,bx2,bx3,bx4,bx5,bx6⟩,⟨br0,br1,br2⟩,⟨bt0,bt1,bt2⟩,⟨be0,be1,be2⟩,bf0,bf1,bf2⟩:=H2.out.cells)
        | (go_at_call 70;refine (PM W hb0).mono ?_;rintro ed w1 ⟨rfl,hw1⟩;obtain rfl:=hw1.symm))
      obtain ⟨z0,z1,z2,_⟩:=put3 H7.out.2.1 (.int .i64 0) (.int .i64 0) (.int .i64 l5)
      try simp only [Exit.inBlock,Exit.then]
      refine bodyPost_ret (v:=.agg #[.int .i64 0,.int .i64 0,.int .i64 l5]) (by simp [results,Tryz.results90,go_sem,z0,z1,z2,Result.andThen]) rfl ?_
      obtain ⟨h1,h2⟩:=FIN.out W w2 w5 w7 _ _ _ (.int .i64 0) (.int .i64 0) (.int .i64 l5) hb0 hk2 hk5 hk7 hS7 (heap_lt HH.out.2.1)
      have hd:=HD.out
      exact ⟨h1,⟨l5,rfl⟩,h2,leave_ok hf5 _,okB_leave hfb5 _,Nat.le_trans (leave_len _ _) (by omega)⟩
  · have hP:enterP st sn 0 sc=none:=by unfold enterP;rw [if_neg h0]
    rw [hP]
    show Calls _ _ _ _ (OwnX X bs (k+(d+1)) w (.error (3,sa)))
    have EO:=fun W (hz:Below w.heap.size w W)=>Sc.enter_no (hS.below hz) sn (nm_le hns) 0 sc h0
    have ER:=Lib.hid (fun wz (u0 u1 u2:Value) (x:Er) (hx:x.1≠0) (hb:Below w.heap.size w wz) (hgz:w.heap.size+1<wz.heap.size)=>own_err0 (d:=d+1) (g:=w.heap.size+1) hS hX hl x hx u0 u1 u2 hb (by omega) hgz)
    clear hS hX hXB hf hfb hl hns hc hk hd ih hbd hnb hgb h0 hP hB
    go_enter Tryz.func90,Tryz.ntmps90
    go_wp2_with fail
    refine hd_region w.heap.size sa (by rfl) (by rw [two_size];omega) (by rw [Lib.cell_of_heap (two_first w _ _)];rfl) (by rfl) ?_
    intro g W hbW hg1 hg2 hT hF
    obtain ⟨hb0,H⟩:=hd_of hbW hg1 hg2 hT hF
    rw [writeAll_hd]
    simp only [hdV,List.setIfInBounds_toArray,List.set_cons_zero,List.set_cons_succ]
    obtain ⟨⟨x0,x1,x2,x3,x4,x5,x6⟩,⟨r0,r1,r2⟩,⟨t0,t1,t2⟩,⟨e0,e1,e2⟩,f0,f1,f2⟩:=H.cells
    have HH:=Lib.hid H
    clear hbW hg1 hg2 hT hF H
    go_wp2_with (first
     | (go_at_call 18;refine (EO W hb0).mono ?_;rintro ed w4 ⟨rfl,hw4⟩;obtain rfl:=hw4.symm)
     | (go_at_call 70;refine (PM W hb0).mono ?_;rintro ed w1 ⟨rfl,hw1⟩;obtain rfl:=hw1.symm))
    obtain ⟨z0,z1,z2,_⟩:=put3 HH.out.2.1 (.int .i64 3) (.int .i64 sa) (.int .i64 0)
    try simp only [Exit.inBlock,Exit.then]
    refine bodyPost_ret (v:=.agg #[.int .i64 3,.int .i64 sa,.int .i64 0]) (by simp [results,Tryz.results90,go_sem,z0,z1,z2,Result.andThen]) rfl ?_
    exact ER.out W _ _ _ (3,sa) (by simp) (hb0) (heap_lt HH.out.2.1)
theorem kid_two {B m:Nat} {w:World} {ea:Option Addr} {ec:Nat} {a b:Tree} (hE:Kids 0 B w (fun v' t'=>ERep 0 B w m v' t') (.slice ea 2 ec) [a,b]) (hB:B<=w.heap.size):
    ∃ gx ox kx cx,ea=some ⟨gx,ox,none⟩/\gx<w.heap.size/\2<=ec/\w.cell? ⟨gx,ox+6,none⟩=some (.int .i64 b.kind)/\w.cell? ⟨gx,ox+6+1,none⟩=some (.int .i64 b.op)/\w.cell? ⟨gx,ox+6+2,none⟩=some (.string b.name)/\w.cell? ⟨gx,ox+6+3,none⟩=some (.int .u64 b.value)/\w.cell? ⟨gx,ox+6+4,none⟩=some (.slice kx b.kids.length cx)/\w.cell? ⟨gx,ox+6+5,none⟩=some (.int .i64 b.at_) /\
      ERep 0 w.heap.size w m (.agg #[.int .i64 b.kind,.int .i64 b.op,.string b.name,.int .u64 b.value,.slice kx b.kids.length cx,.int .i64 b.at_]) b:=by
  obtain ⟨ao,cap,ev,⟨_,hcap⟩,hr⟩:=hE
  cases ev
  obtain ⟨g,off,c0,c1,c2,c3,c4,c5,rfl,_,hg,_,i0,i1,i2,i3,i4,i5,hR⟩:=hr 1 b rfl
  have hR2:=hR
  cases m with
  | zero=>exact hR.elim
  | succ m=>
  obtain ⟨_,kv,hv,ka,kc,rfl,_,_⟩:=hR
  simp only [Value.agg.injEq,Array.mk.injEq,List.cons.injEq,and_true] at hv
  obtain ⟨rfl,rfl,rfl,rfl,rfl,rfl⟩:=hv
  simp only [Nat.one_mul] at i0 i1 i2 i3 i4 i5
  exact ⟨g,off,ka,kc,rfl,by omega,hcap,i0,i1,i2,i3,i4,i5,hR2.mono hB (Below.refl _ _)⟩
theorem kids_head {B m:Nat} {w W:World} {ea:Option Addr} {ec:Nat} {a b:Tree} (hE:Kids 0 B w (fun v' t'=>ERep 0 B w m v' t') (.slice ea 2 ec) [a,b]) (hB:B<=w.heap.size) (hb:Below w.heap.size w W):Kids 0 W.heap.size W (fun v' t'=>ERep 0 W.heap.size W m v' t') (.slice ea 1 ec) [a]:=by
  obtain ⟨ao,cap,e,⟨h1,h2⟩,hr⟩:=(hE.carry (Nat.le_refl _) (Nat.le_trans hB hb.size) (Same35.of_below (hb.mono hB)) fun _ _ hr=>ERep.mono (Nat.le_trans hB hb.size) (hb.mono hB) hr:Kids 0 W.heap.size W (fun v' t'=>ERep 0 W.heap.size W m v' t') (.slice ea 2 ec) [a,b])
  cases e
  refine ⟨_,_,rfl,⟨by simp,by simp at h2 ⊢;omega⟩,fun i k hk=>?_⟩
  match i,hk with
  | 0,hk=>exact hr 0 k (by simpa using hk)
theorem wrong_agg (R:Except Er Int):∃ u0 u1 u2:Int,wrongV R=.agg #[.int .i64 u0,.int .i64 u1,.int .i64 u2]:=by
  cases R <;> exact ⟨_,_,_,rfl⟩
def resS (st:St) (sa pc:Int):Except Er Int->Except Er Int->Except Er St
  | .error x,_=>.error x
  | .ok _,.error x=>.error x
  | .ok to,.ok l=>if joinI l pc≠0/\to=0 then .error (4,sa) else .ok st
def misU (u0 u1 u2:Int) (b:Bool):Array Value:=if b then #[.int .i64 u0,.int .i64 u1,.int .i64 u2] else #[.int .i64 0,.int .i64 0,.int .i64 0]
def ceInv (W0:World) (u0 u1 u2:Int) (L:Nat->Bool) (q:Nat) (w:World):Prop:=
  Below W0.heap.size W0 w/\(L 9=true->W0.heap.size<=q/\w.heap[q]?=some (.cells (misU u0 u1 u2 (L 10)) 67 (0,0)))
theorem ceInv.move {W0:World} {u0 u1 u2:Int} {L:Nat->Bool} {q:Nat} {w w':World} (h:ceInv W0 u0 u1 u2 L q w) (hb:Below w.heap.size w w') (i:Nat) (hi:i<9):ceInv W0 u0 u1 u2 (fun j=>if j=i then true else L j) q w':=by
  obtain ⟨a,b⟩:=h
  have e:∀ j,9<=j->(if j=i then true else L j)=L j:=fun j hj=>if_neg (by omega)
  unfold ceInv
  simp only [e 9 (by omega),e 10 (by omega)]
  exact ⟨a.trans (hb.mono a.size),fun h=>⟨(b h).1,Fl.keep hb (b h).2⟩⟩
def ceV (bs xb gx ox ec:Nat) (sn:ByteArray) (sa u0 u1 u2:Int) (q:Nat):Nat->Value
  | 0=>.pointer (some ⟨bs,0,none⟩)
  | 1=>.pointer (some ⟨xb,1,none⟩)
  | 2=>.string sn
  | 3=>.pointer (some ⟨xb,2,none⟩)
  | 4=>.slice (some ⟨gx,ox,none⟩) 2 ec
  | 5=>.slice (some ⟨gx,ox,none⟩) 1 ec
  | 6=>.pointer (some ⟨xb,6,none⟩)
  | 7=>.int .i64 sa
  | 8=>.agg #[.int .i64 u0,.int .i64 u1,.int .i64 u2]
  | 9=>.pointer (some ⟨q,0,none⟩)
  | _=>undef
theorem os_2 {m B:Nat} {a b:Tree} {pc:Int} {X:Nat->Prop} {bs k d:Nat} {st:St} {sn:ByteArray} {sc sa:Int} {ea ba la:Option Addr} {nB nL ec bc lc:Nat} {w:World} (hS:ScAt X bs k st.f st.ls w) (hX:∀ j,X j->j<w.heap.size) (hXB:∀ j,j<B->X j) (hf:okF st.f) (hfb:okB st.f) (hl:st.ls.length<=k) (hns:sn.size<=35184372088832) (hE:Kids 0 B w (fun v' t'=>ERep 0 B w m v' t') (.slice ea 2 ec) [a,b]) (hna:nmE m a) (hnb:nmE m b):
    Calls Tryz.prog 90 #[.pointer (some ⟨bs,0,none⟩),.agg #[.int .i64 2,.string sn,.slice ea 2 ec,.int .i64 sc,.slice ba nB bc,.slice la nL lc,.int .i64 sa],.int .i64 pc] w (OwnX X bs (k+d) w (resS st sa pc (cellP st.f (labelP st.f m) (boundP st.f m) sn [a] sa) (labelP st.f m b))):=by
  have PF:=fun W (hb:Below w.heap.size w W)=>Sc.find_any (hS.below hb) sn (nm_le hns)
  have hB:=below_size hX hXB
  have PC:=fun W (hb:Below w.heap.size w W)=>ownCell_of (ownE_all m) (s:=sn) (at_:=sa) (kids:=[a]) ((hS.more fun j _ h=>absurd h (Nat.not_lt_zero _):ScAt (· < 0) bs k st.f st.ls w).below hb) hf hfb hns (fun k hk=>by simp at hk;subst hk;exact hna) (kids_head hE hB hb)
  obtain ⟨gx,ox,kx,cx,rfl,hgx,hec,i0,i1,i2,i3,i4,i5,hR⟩:=kid_two hE hB
  have PE:=fun W (hb:Below w.heap.size w W)=>ownE_all m 0 bs k st _ b W ((hS.more fun j _ h=>absurd h (Nat.not_lt_zero _):ScAt (· < 0) bs k st.f st.ls w).below hb) hf hfb (hR.mono hb.size hb) hnb
  have EN:=Lib.hid (fun wz (u0 u1 u2:Value) (l:Int) (hb:Below w.heap.size w wz) (hgz:w.heap.size+1<wz.heap.size)=>own_ok0 (d:=d) (g:=w.heap.size+1) hS hX hf hfb hl l u0 u1 u2 hb (by omega) hgz)
  have ER:=Lib.hid (fun wz (u0 u1 u2:Value) (x:Er) (hx:x.1≠0) (hb:Below w.heap.size w wz) (hgz:w.heap.size+1<wz.heap.size)=>own_err0 (d:=d) (g:=w.heap.size+1) hS hX hl x hx u0 u1 u2 hb (by omega) hgz)
  obtain ⟨R,hR0⟩:∃ R,cellP st.f (labelP st.f m) (boundP st.f m) sn [a] sa=R:=⟨_,rfl⟩
  have HX:Hid (∀ x,R=.error x->x.1≠0):=Lib.hid fun x h=>label_err st.f (m+1) ⟨2,0,sn,0,[a],sa⟩ x ((show labelP st.f (m+1) ⟨2,0,sn,0,[a],sa⟩=_ from by unfold labelP;rfl).trans (hR0.trans h))
  rw [hR0]
  simp only [hR0] at PC
  obtain ⟨u0,u1,u2,hu⟩:=wrong_agg R
  have PD:∀ W,Below w.heap.size w W->Calls Tryz.prog 50 #[.pointer (some ⟨bs,0,none⟩),.string sn,.slice (some ⟨gx,ox,none⟩) 1 ec,.int .i64 sa] W fun e w'=>e=.returned (.agg #[.int .i64 u0,.int .i64 u1,.int .i64 u2])/\Below W.heap.size W w':=fun W hb=>(PC W hb).mono fun e w' h=>⟨h.1.trans (by rw [hu]),h.2⟩
  obtain ⟨V2,hV2⟩:∃ V2,labelP st.f m b=V2:=⟨_,rfl⟩
  have HY:Hid (∀ x,V2=.error x->x.1≠0):=Lib.hid fun x h=>label_err st.f m b x (hV2.trans h)
  rw [hV2]
  simp only [hV2] at PE
  generalize st.f sn=mm at PF
  obtain ⟨mk,ml,mc,mb⟩:=mm
  simp only at PF
  have HU:=Lib.hid hu
  obtain ⟨RES,hRES⟩:∃ RES,resS st sa pc R V2=RES:=⟨_,rfl⟩
  rw [hRES]
  have HRES:=Lib.hid hRES
  clear hRES hS hX hXB hf hfb hl hns hE hna hnb hR hR0 hV2 PC hu hB
  go_enter Tryz.func90,Tryz.ntmps90
  go_wp2_with fail
  refine hd_region w.heap.size sa (by rfl) (by rw [two_size];omega) (by rw [Lib.cell_of_heap (two_first w _ _)];rfl) (by rfl) ?_
  intro g W hbW hg1 hg2 hT hF
  obtain ⟨hb0,H⟩:=hd_of hbW hg1 hg2 hT hF
  rw [writeAll_hd]
  simp only [hdV,List.setIfInBounds_toArray,List.set_cons_zero,List.set_cons_succ]
  obtain ⟨⟨x0,x1,x2,x3,x4,x5,x6⟩,⟨r0,r1,r2⟩,⟨t0,t1,t2⟩,⟨e0,e1,e2⟩,f0,f1,f2⟩:=H.cells
  have HH:=Lib.hid H
  clear hbW hg1 hg2 hT hF H
  go_wp2_with (go_at_call 45;refine (PF _ hb0).mono ?_;rintro ed w1 ⟨rfl,hb1⟩;have H1:=Lib.hid (HH.out.on hb1);have hz1:=hb0.trans (hb1.mono hb0.size);obtain ⟨⟨ax0,ax1,ax2,ax3,ax4,ax5,ax6⟩,⟨ar0,ar1,ar2⟩,⟨at0,at1,at2⟩,⟨ae0,ae1,ae2⟩,af0,af1,af2⟩:=H1.out.cells)
  have hgw:gx<w1.heap.size:=Nat.lt_of_lt_of_le hgx hz1.size
  refine wp_region_slots (by kernel_rfl) (by kernel_rfl) (by kernel_rfl) (by kernel_rfl) (ceV bs w.heap.size gx ox ec sn sa u0 u1 u2) (ceInv w1 u0 u1 u2) 0 ⟨(Below.refl _ _).drew,fun h=>(by cases h)⟩ ?_ ?_
  · intro L q a wr i op hop hLi hpre hC hI hSl K hK
    have s0:a.tmps[0]?.getD undef=.pointer (some ⟨bs,0,none⟩):=(hSl.old2 0 (by kernel_rfl)).trans rfl
    have s4:a.tmps[4]?.getD undef=.pointer (some ⟨w.heap.size,0,none⟩):=(hSl.old2 4 (by kernel_rfl)).trans rfl
    obtain ⟨⟨y0,y1,y2,y3,y4,y5,y6⟩,_⟩:=(H1.out.on hI.1).cells
    match i with
    | 0=>
      obtain rfl:=Option.some.inj hop
      go_simp
      exact hK _ _ ⟨q,fun _=>rfl,fun _ _ _=>rfl,hI.move (Below.refl _ _) 0 (by decide)⟩
    | 1=>
      obtain rfl:=Option.some.inj hop
      go_simp
      exact hK _ _ ⟨q,fun _=>rfl,fun _ _ _=>rfl,hI.move (Below.refl _ _) 1 (by decide)⟩
    | 2=>
      obtain rfl:=Option.some.inj hop
      have n1:=hSl.new2 1 80 (by kernel_rfl) (pre_at hpre 1 (by kernel_rfl)) (show 80<184 by decide)
      simp only [ceV] at n1
      go_simp
      exact hK _ _ ⟨q,fun _=>rfl,fun _ _ _=>rfl,hI.move (Below.refl _ _) 2 (by decide)⟩
    | 3=>
      obtain rfl:=Option.some.inj hop
      go_simp
      exact hK _ _ ⟨q,fun _=>rfl,fun _ _ _=>rfl,hI.move (Below.refl _ _) 3 (by decide)⟩
    | 4=>
      obtain rfl:=Option.some.inj hop
      have n3:=hSl.new2 3 82 (by kernel_rfl) (pre_at hpre 3 (by kernel_rfl)) (show 82<184 by decide)
      simp only [ceV] at n3
      go_simp
      exact hK _ _ ⟨q,fun _=>rfl,fun _ _ _=>rfl,hI.move (Below.refl _ _) 4 (by decide)⟩
    | 5=>
      obtain rfl:=Option.some.inj hop
      have n4:=hSl.new2 4 83 (by kernel_rfl) (pre_at hpre 4 (by kernel_rfl)) (show 83<184 by decide)
      simp only [ceV] at n4
      go_simp
      rw [if_pos (show (1:Int)<=(ec:Int) by omega)]
      go_simp
      exact hK _ _ ⟨q,fun _=>rfl,fun _ _ _=>rfl,hI.move (Below.refl _ _) 5 (by decide)⟩
    | 6=>
      obtain rfl:=Option.some.inj hop
      go_simp
      exact hK _ _ ⟨q,fun _=>rfl,fun _ _ _=>rfl,hI.move (Below.refl _ _) 6 (by decide)⟩
    | 7=>
      obtain rfl:=Option.some.inj hop
      have n6:=hSl.new2 6 85 (by kernel_rfl) (pre_at hpre 6 (by kernel_rfl)) (show 85<184 by decide)
      simp only [ceV] at n6
      go_simp
      exact hK _ _ ⟨q,fun _=>rfl,fun _ _ _=>rfl,hI.move (Below.refl _ _) 7 (by decide)⟩
    | 8=>
      obtain rfl:=Option.some.inj hop
      have n0:=hSl.new2 0 79 (by kernel_rfl) (pre_at hpre 0 (by kernel_rfl)) (show 79<184 by decide)
      simp only [ceV] at n0
      have n2:=hSl.new2 2 81 (by kernel_rfl) (pre_at hpre 2 (by kernel_rfl)) (show 81<184 by decide)
      simp only [ceV] at n2
      have n5:=hSl.new2 5 84 (by kernel_rfl) (pre_at hpre 5 (by kernel_rfl)) (show 84<184 by decide)
      simp only [ceV] at n5
      have n7:=hSl.new2 7 86 (by kernel_rfl) (pre_at hpre 7 (by kernel_rfl)) (show 86<184 by decide)
      simp only [ceV] at n7
      go_simp
      go_at_call 50
      refine (PD wr (hz1.trans (hI.1.mono hz1.size))).mono ?_
      rintro ed w5 ⟨rfl,hb5⟩
      go_simp
      exact hK _ _ ⟨q,fun _=>rfl,fun _ _ _=>rfl,hI.move hb5 8 (by decide)⟩
    | 9=>
      obtain rfl:=Option.some.inj hop
      have no10:L 10=false:=by cases h:L 10 with | false=>rfl | true=>exact absurd (hC.at 10 9 (by kernel_rfl) h) (by simp [hLi])
      obtain ⟨i1,i2⟩:=hI
      have hsz:=i1.size
      go_simp
      refine hK _ _ ⟨wr.heap.size,fun _=>rfl,fun j hj hLj=>?_,i1.alloc hsz _,fun h9=>⟨hsz,?_⟩⟩
      · unfold ceV;split <;> first | rfl | exact absurd rfl hj
      · show (wr.alloc _).heap[wr.heap.size]?=some (.cells (misU u0 u1 u2 (L 10)) 67 (0,0))
        rw [no10]
        exact heap_alloc_new _ _
    | 10=>
      obtain rfl:=Option.some.inj hop
      have n8:=hSl.new2 8 87 (by kernel_rfl) (pre_at hpre 8 (by kernel_rfl)) (show 87<184 by decide)
      simp only [ceV] at n8
      have n9:=hSl.new2 9 15 (by kernel_rfl) (pre_at hpre 9 (by kernel_rfl)) (show 15<184 by decide)
      simp only [ceV] at n9
      obtain ⟨i1,i2⟩:=hI
      have h9:L 9=true:=pre_at hpre 9 (by kernel_rfl)
      have hhd:=(i2 h9).2
      have hgd:=(i2 h9).1
      rw [hLi] at hhd
      obtain ⟨q0,q1,q2⟩:=wr_cells hhd
      have f0:=Lib.frozen_of_heap hhd 0
      have f1:=Lib.frozen_of_heap hhd 1
      have f2:=Lib.frozen_of_heap hhd 2
      go_simp
      exact hK undef _ ⟨q,fun h=>absurd rfl h,fun _ _ _=>rfl,put3_below i1 hgd _ _ _,fun _=>⟨hgd,put3_heap hhd _ _ _⟩⟩
    | _+11=>simp at hop
  · intro L q wz hL hI
    obtain ⟨hbz,hq⟩:=hI
    obtain ⟨hqs,hqh⟩:=hq (hL 9 (by decide))
    rw [hL 10 (by decide)] at hqh
    have HQ:Hid (wz.heap[q]?=some (.cells #[.int .i64 u0,.int .i64 u1,.int .i64 u2] 67 (0,0))):=Lib.hid hqh
    have H2:=Lib.hid (H1.out.on hbz)
    have hz2:=hz1.trans (hbz.mono hz1.size)
    have k0:=(hz2.cell (p:=⟨gx,ox+6,none⟩) hgx).trans i0
    have k1:=(hz2.cell (p:=⟨gx,ox+6+1,none⟩) hgx).trans i1
    have k2:=(hz2.cell (p:=⟨gx,ox+6+2,none⟩) hgx).trans i2
    have k3:=(hz2.cell (p:=⟨gx,ox+6+3,none⟩) hgx).trans i3
    have k4:=(hz2.cell (p:=⟨gx,ox+6+4,none⟩) hgx).trans i4
    have k5:=(hz2.cell (p:=⟨gx,ox+6+5,none⟩) hgx).trans i5
    obtain ⟨⟨bx0,bx1,bx2,bx3,bx4,bx5,bx6⟩,⟨br0,br1,br2⟩,⟨bt0,bt1,bt2⟩,⟨be0,be1,be2⟩,bf0,bf1,bf2⟩:=H2.out.cells
    obtain ⟨q0,q1,q2⟩:=wr_cells HQ.out
    clear hqh hq hbz hL PD i0 i1 i2 i3 i4 i5
    refine at_all (prs [79,80,81,82,83,84,85,86,87,15] (ceV bs w.heap.size gx ox ec sn sa u0 u1 u2 q)) (fun t=>by kernel_rfl) ?_
    simp only [prs,List.zipIdx,List.map,List.foldl,Nat.zero_add,Nat.reduceAdd,List.setIfInBounds_toArray,List.set_cons_zero,List.set_cons_succ,ceV]
    cases R with
    | error x=>
      have hx:=HX.out x rfl
      have hxb:(x.1 != 0)=true:=by simpa using hx
      have hu:=HU.out
      simp only [wrongV,Value.agg.injEq,Array.mk.injEq,List.cons.injEq,Value.int.injEq,true_and,and_true] at hu
      obtain ⟨rfl,rfl,rfl⟩:=hu
      go_wp2
      obtain ⟨z0,z1,z2,_⟩:=put3 H2.out.2.1 (.int .i64 x.1) (.int .i64 x.2) (.int .i64 0)
      try simp only [Exit.inBlock,Exit.then]
      refine bodyPost_ret (v:=.agg #[.int .i64 x.1,.int .i64 x.2,.int .i64 0]) (by simp [results,Tryz.results90,go_sem,z0,z1,z2,Result.andThen]) rfl ?_
      rw [<- HRES.out]
      exact ER.out wz _ _ _ x hx hz2 (heap_lt H2.out.2.1)
    | ok to=>
      have hu:=HU.out
      simp only [wrongV,Value.agg.injEq,Array.mk.injEq,List.cons.injEq,Value.int.injEq,true_and,and_true] at hu
      obtain ⟨rfl,rfl,rfl⟩:=hu
      cases V2 with
      | error y=>
        have hy:=HY.out y rfl
        have hyb:(y.1 != 0)=true:=by simpa using hy
        have hyq:(y.1 == 0)=false:=by simpa using hy
        go_wp2_with (go_at_call 22;refine (PE _ hz2).mono ?_;rintro ed w3 ⟨rfl,hb3⟩;have H3:=Lib.hid (H2.out.on hb3);have hz3:=hz2.trans (hb3.mono hz2.size);have cx0:=fun o=>((H3.out.alloc o).cells).1.1;have cx1:=fun o=>((H3.out.alloc o).cells).1.2.1;have cx2:=fun o=>((H3.out.alloc o).cells).1.2.2.1;have cx3:=fun o=>((H3.out.alloc o).cells).1.2.2.2.1;have cx4:=fun o=>((H3.out.alloc o).cells).1.2.2.2.2.1;have cx5:=fun o=>((H3.out.alloc o).cells).1.2.2.2.2.2.1;have cx6:=fun o=>((H3.out.alloc o).cells).1.2.2.2.2.2.2;have cr0:=fun o=>((H3.out.alloc o).cells).2.1.1;have cr1:=fun o=>((H3.out.alloc o).cells).2.1.2.1;have cr2:=fun o=>((H3.out.alloc o).cells).2.1.2.2;have ct0:=fun o=>((H3.out.alloc o).cells).2.2.1.1;have ct1:=fun o=>((H3.out.alloc o).cells).2.2.1.2.1;have ct2:=fun o=>((H3.out.alloc o).cells).2.2.1.2.2;have ce0:=fun o=>((H3.out.alloc o).cells).2.2.2.1.1;have ce1:=fun o=>((H3.out.alloc o).cells).2.2.2.1.2.1;have ce2:=fun o=>((H3.out.alloc o).cells).2.2.2.1.2.2;have cf0:=fun o=>((H3.out.alloc o).cells).2.2.2.2.1;have cf1:=fun o=>((H3.out.alloc o).cells).2.2.2.2.2.1;have cf2:=fun o=>((H3.out.alloc o).cells).2.2.2.2.2.2)
        obtain ⟨g9,hg9⟩:∃ g9,g9=w3.heap.size:=⟨_,rfl⟩
        have HV:Hid ((w3.alloc (.cells #[.int .i64 y.1,.int .i64 y.2,.int .i64 0] 67)).heap[g9]?=some (.cells #[.int .i64 y.1,.int .i64 y.2,.int .i64 0] 67 (0,0))):=Lib.hid (by rw [hg9];exact heap_alloc_new _ _)
        have H4:=Lib.hid (H3.out.alloc (.cells #[.int .i64 y.1,.int .i64 y.2,.int .i64 0] 67))
        have hz4:=hz3.alloc hz3.size (.cells #[.int .i64 y.1,.int .i64 y.2,.int .i64 0] 67)
        rw [<- hg9]
        clear hg9 cx0 cx1 cx2 cx3 cx4 cx5 cx6 cr0 cr1 cr2 ct0 ct1 ct2 ce0 ce1 ce2 cf0 cf1 cf2
        refine wp_region_mono2 (by kernel_rfl) (by kernel_rfl) (by kernel_rfl) (by kernel_rfl) (by kernel_rfl) (fun (i:Nat) (v:Value) (wv:World)=>match i with | 0=>v=.pointer (some ⟨g9,0,none⟩) | 1=>v=.int .i64 y.1 | 2=>v=.bool false | 3=>v=.bool false | 4=>True | 5=>True | 6=>True | 7=>True | 8=>True | 9=>True | 10=>True | 11=>True | 12=>True | 13=>v=.bool false | _=>True) ?_ [] [(3,true)] (by kernel_rfl) ?_ ?_ ?_ ?_ ?_
        · intro i v w w' hb h
          match i with
          | 0=>exact h
          | 1=>exact h
          | 2=>exact h
          | 3=>exact h
          | 4=>exact h
          | 5=>exact h
          | 6=>exact h
          | 7=>exact h
          | 8=>exact h
          | 9=>exact h
          | 10=>exact h
          | 11=>exact h
          | 12=>exact h
          | 13=>exact h
          | _+14=>trivial
        · intro p hp v w h
          cases hp
        · intro p hp v w h
          simp only [List.mem_cons,List.not_mem_nil,or_false] at hp
          subst hp
          exact h
        · intro i o p ho hg hp v w
          simp only [List.mem_cons,List.not_mem_nil,or_false] at hp
          subst hp
          match i with
          | 0=>first | trivial | (simp only [List.getElem?_toArray,List.getElem?_cons_zero,List.getElem?_cons_succ,Option.some.injEq] at ho;subst ho;simp at hg)
          | 1=>first | trivial | (simp only [List.getElem?_toArray,List.getElem?_cons_zero,List.getElem?_cons_succ,Option.some.injEq] at ho;subst ho;simp at hg)
          | 2=>first | trivial | (simp only [List.getElem?_toArray,List.getElem?_cons_zero,List.getElem?_cons_succ,Option.some.injEq] at ho;subst ho;simp at hg)
          | 3=>first | trivial | (simp only [List.getElem?_toArray,List.getElem?_cons_zero,List.getElem?_cons_succ,Option.some.injEq] at ho;subst ho;simp at hg)
          | 4=>first | trivial | (simp only [List.getElem?_toArray,List.getElem?_cons_zero,List.getElem?_cons_succ,Option.some.injEq] at ho;subst ho;simp at hg)
          | 5=>first | trivial | (simp only [List.getElem?_toArray,List.getElem?_cons_zero,List.getElem?_cons_succ,Option.some.injEq] at ho;subst ho;simp at hg)
          | 6=>first | trivial | (simp only [List.getElem?_toArray,List.getElem?_cons_zero,List.getElem?_cons_succ,Option.some.injEq] at ho;subst ho;simp at hg)
          | 7=>first | trivial | (simp only [List.getElem?_toArray,List.getElem?_cons_zero,List.getElem?_cons_succ,Option.some.injEq] at ho;subst ho;simp at hg)
          | 8=>first | trivial | (simp only [List.getElem?_toArray,List.getElem?_cons_zero,List.getElem?_cons_succ,Option.some.injEq] at ho;subst ho;simp at hg)
          | 9=>first | trivial | (simp only [List.getElem?_toArray,List.getElem?_cons_zero,List.getElem?_cons_succ,Option.some.injEq] at ho;subst ho;simp at hg)
          | 10=>first | trivial | (simp only [List.getElem?_toArray,List.getElem?_cons_zero,List.getElem?_cons_succ,Option.some.injEq] at ho;subst ho;simp at hg)
          | 11=>first | trivial | (simp only [List.getElem?_toArray,List.getElem?_cons_zero,List.getElem?_cons_succ,Option.some.injEq] at ho;subst ho;simp at hg)
          | 12=>first | trivial | (simp only [List.getElem?_toArray,List.getElem?_cons_zero,List.getElem?_cons_succ,Option.some.injEq] at ho;subst ho;simp at hg)
          | 13=>first | trivial | (simp only [List.getElem?_toArray,List.getElem?_cons_zero,List.getElem?_cons_succ,Option.some.injEq] at ho;subst ho;simp at hg)
          | _+14=>simp at ho
        · intro a wr i op hop hno hb hF hP K hK
          have s2:a.tmps[2]?.getD undef=.int .i64 pc:=(hF 2 (by kernel_rfl)).trans rfl
          have s15:a.tmps[15]?.getD undef=.pointer (some ⟨q,0,none⟩):=(hF 15 (by kernel_rfl)).trans rfl
          have s16:a.tmps[16]?.getD undef=.pointer (some ⟨g9,0,none⟩):=(hF 16 (by kernel_rfl)).trans rfl
          obtain ⟨z0,z1,z2⟩:=wr_cells (keep hb HV.out)
          match i with
          | 0=>
            obtain rfl:=Option.some.inj hop
            go_simp
            exact hK _ _ (Below.refl _ _) fun _=>by first | rfl | exact wrap_val (by omega)
          | 1=>
            obtain rfl:=Option.some.inj hop
            have n0:a.tmps[98]?.getD undef=.pointer (some ⟨g9,0,none⟩):=hP 0 98 (by kernel_rfl) (by kernel_rfl)
            go_simp
            exact hK _ _ (Below.refl _ _) fun _=>by first | rfl | exact wrap_val (by omega)
          | 2=>
            obtain rfl:=Option.some.inj hop
            have n1:a.tmps[99]?.getD undef=.int .i64 y.1:=hP 1 99 (by kernel_rfl) (by kernel_rfl)
            go_simp
            exact hK _ _ (Below.refl _ _) fun _=>by first | rfl | exact wrap_val (by omega)
          | 3=>
            obtain rfl:=Option.some.inj hop
            have n2:a.tmps[100]?.getD undef=.bool false:=hP 2 100 (by kernel_rfl) (by kernel_rfl)
            go_simp
            exact hK _ _ (Below.refl _ _) fun _=>by first | rfl | exact wrap_val (by omega)
          | 4=>
            obtain rfl:=Option.some.inj hop
            exact absurd (List.mem_singleton.2 rfl) (hno _ rfl)
          | 5=>
            obtain rfl:=Option.some.inj hop
            exact absurd (List.mem_singleton.2 rfl) (hno _ rfl)
          | 6=>
            obtain rfl:=Option.some.inj hop
            exact absurd (List.mem_singleton.2 rfl) (hno _ rfl)
          | 7=>
            obtain rfl:=Option.some.inj hop
            exact absurd (List.mem_singleton.2 rfl) (hno _ rfl)
          | 8=>
            obtain rfl:=Option.some.inj hop
            exact absurd (List.mem_singleton.2 rfl) (hno _ rfl)
          | 9=>
            obtain rfl:=Option.some.inj hop
            exact absurd (List.mem_singleton.2 rfl) (hno _ rfl)
          | 10=>
            obtain rfl:=Option.some.inj hop
            exact absurd (List.mem_singleton.2 rfl) (hno _ rfl)
          | 11=>
            obtain rfl:=Option.some.inj hop
            exact absurd (List.mem_singleton.2 rfl) (hno _ rfl)
          | 12=>
            obtain rfl:=Option.some.inj hop
            exact absurd (List.mem_singleton.2 rfl) (hno _ rfl)
          | 13=>
            obtain rfl:=Option.some.inj hop
            have n3:a.tmps[101]?.getD undef=.bool false:=hP 3 101 (by kernel_rfl) (by kernel_rfl)
            go_simp
            exact hK _ _ (Below.refl _ _) fun _=>by first | rfl | exact wrap_val (by omega)
          | _+14=>simp at hop
        · intro V wz hbz hR
          have H5:=H4.out.on hbz
          have hz5:=hz4.trans (hbz.mono hz4.size)
          obtain ⟨⟨dx0,dx1,dx2,dx3,dx4,dx5,dx6⟩,⟨dr0,dr1,dr2⟩,⟨dt0,dt1,dt2⟩,⟨de0,de1,de2⟩,df0,df1,df2⟩:=H5.cells
          obtain ⟨v0,v1,v2⟩:=wr_cells (keep hbz HV.out)
          have e13:V 13=.bool false:=hR 13 (by kernel_rfl)
          clear hR
          refine at_all (prs [98,99,100,101,102,103,104,105,106,107,108,109,110,111] V) (fun t=>by kernel_rfl) ?_
          simp only [prs,List.zipIdx,List.map,List.foldl,Nat.zero_add,Nat.reduceAdd,List.setIfInBounds_toArray,List.set_cons_zero,List.set_cons_succ,e13]
          go_wp2
          obtain ⟨z0,z1,z2,_⟩:=put3 H5.2.1 (.int .i64 y.1) (.int .i64 y.2) (.int .i64 0)
          try simp only [Exit.inBlock,Exit.then]
          refine bodyPost_ret (v:=.agg #[.int .i64 y.1,.int .i64 y.2,.int .i64 0]) (by simp [results,Tryz.results90,go_sem,z0,z1,z2,Result.andThen]) rfl ?_
          rw [<- HRES.out]
          exact ER.out wz _ _ _ y hy hz5 (heap_lt H5.2.1)
      | ok l=>
        have hyb:((0:Int) != 0)=false:=rfl
        obtain ⟨c,hc⟩:∃ c,joinI l pc=c:=⟨_,rfl⟩
        have PJ:=fun (g:Nat) (w:World) h0 h1=>join_two g l pc w h0 h1
        have HC0:=Lib.hid hc
        simp only [hc] at PJ
        obtain ⟨fl,hfl,PY⟩:∃ fl:Bool,(if c≠0/\to=0 then (.error (4,sa):Except Er St) else .ok st)=(if fl then .ok st else .error (4,sa))/\∀ w,Calls Tryz.prog 124 #[.int .i64 c,.int .i64 to] w fun e w'=>e=.returned (.bool fl)/\w'=w:=by
          by_cases h4:c≠0/\to=0
          · obtain ⟨h4a,rfl⟩:=h4
            exact ⟨false,by rw [if_pos ⟨h4a,rfl⟩];rfl,flows_no c h4a⟩
          · exact ⟨true,by rw [if_neg h4];rfl,flows_yes c to (by rcases Int.instDecidableEq c 0 with h | h;exact .inr fun e=>h4 ⟨h,e⟩;exact .inl h)⟩
        have HFL:=Lib.hid hfl
        clear hc hfl
        go_wp2_with (go_at_call 22;refine (PE _ hz2).mono ?_;rintro ed w3 ⟨rfl,hb3⟩;have H3:=Lib.hid (H2.out.on hb3);have hz3:=hz2.trans (hb3.mono hz2.size);have cx0:=fun o=>((H3.out.alloc o).cells).1.1;have cx1:=fun o=>((H3.out.alloc o).cells).1.2.1;have cx2:=fun o=>((H3.out.alloc o).cells).1.2.2.1;have cx3:=fun o=>((H3.out.alloc o).cells).1.2.2.2.1;have cx4:=fun o=>((H3.out.alloc o).cells).1.2.2.2.2.1;have cx5:=fun o=>((H3.out.alloc o).cells).1.2.2.2.2.2.1;have cx6:=fun o=>((H3.out.alloc o).cells).1.2.2.2.2.2.2;have cr0:=fun o=>((H3.out.alloc o).cells).2.1.1;have cr1:=fun o=>((H3.out.alloc o).cells).2.1.2.1;have cr2:=fun o=>((H3.out.alloc o).cells).2.1.2.2;have ct0:=fun o=>((H3.out.alloc o).cells).2.2.1.1;have ct1:=fun o=>((H3.out.alloc o).cells).2.2.1.2.1;have ct2:=fun o=>((H3.out.alloc o).cells).2.2.1.2.2;have ce0:=fun o=>((H3.out.alloc o).cells).2.2.2.1.1;have ce1:=fun o=>((H3.out.alloc o).cells).2.2.2.1.2.1;have ce2:=fun o=>((H3.out.alloc o).cells).2.2.2.1.2.2;have cf0:=fun o=>((H3.out.alloc o).cells).2.2.2.2.1;have cf1:=fun o=>((H3.out.alloc o).cells).2.2.2.2.2.1;have cf2:=fun o=>((H3.out.alloc o).cells).2.2.2.2.2.2)
        obtain ⟨g9,hg9⟩:∃ g9,g9=w3.heap.size:=⟨_,rfl⟩
        have HV:Hid ((w3.alloc (.cells #[.int .i64 0,.int .i64 0,.int .i64 l] 67)).heap[g9]?=some (.cells #[.int .i64 0,.int .i64 0,.int .i64 l] 67 (0,0))):=Lib.hid (by rw [hg9];exact heap_alloc_new _ _)
        have HC:=Lib.hid (alloc_keep (Fl.keep hb3 HQ.out) (.cells #[.int .i64 0,.int .i64 0,.int .i64 l] 67))
        have H4:=Lib.hid (H3.out.alloc (.cells #[.int .i64 0,.int .i64 0,.int .i64 l] 67))
        have hz4:=hz3.alloc hz3.size (.cells #[.int .i64 0,.int .i64 0,.int .i64 l] 67)
        rw [<- hg9]
        clear hg9 cx0 cx1 cx2 cx3 cx4 cx5 cx6 cr0 cr1 cr2 ct0 ct1 ct2 ce0 ce1 ce2 cf0 cf1 cf2
        refine wp_region_mono (by kernel_rfl) (by kernel_rfl) (by kernel_rfl) (by kernel_rfl) (by kernel_rfl) (fun (i:Nat) (v:Value) (wv:World)=>match i with | 0=>v=.pointer (some ⟨g9,0,none⟩) | 1=>v=.int .i64 0 | 2=>v=.bool true | 3=>v=.bool true | 4=>v=.pointer (some ⟨g9,2,none⟩) | 5=>v=.int .i64 l | 6=>v=.int .i64 pc | 7=>PairAt wv l pc v | 8=>v=.int .i64 c | 9=>v=.pointer (some ⟨q,2,none⟩) | 10=>v=.int .i64 to | 11=>v=.bool fl | 12=>v=.bool (!fl) | 13=>v=.bool (!fl) | _=>True) ?_ [(3,true)] (by kernel_rfl) ?_ ?_ ?_
        · intro i v w w' hb h
          match i with
          | 0=>exact h
          | 1=>exact h
          | 2=>exact h
          | 3=>exact h
          | 4=>exact h
          | 5=>exact h
          | 6=>exact h
          | 7=>exact PairAt.on h hb
          | 8=>exact h
          | 9=>exact h
          | 10=>exact h
          | 11=>exact h
          | 12=>exact h
          | 13=>exact h
          | _+14=>trivial
        · intro p hp v w h
          simp only [List.mem_cons,List.not_mem_nil,or_false] at hp
          subst hp
          exact h
        · intro a wr i op hop hb hF hP K hK
          have s2:a.tmps[2]?.getD undef=.int .i64 pc:=(hF 2 (by kernel_rfl)).trans rfl
          have s15:a.tmps[15]?.getD undef=.pointer (some ⟨q,0,none⟩):=(hF 15 (by kernel_rfl)).trans rfl
          have s16:a.tmps[16]?.getD undef=.pointer (some ⟨g9,0,none⟩):=(hF 16 (by kernel_rfl)).trans rfl
          obtain ⟨z0,z1,z2⟩:=wr_cells (keep hb HV.out)
          obtain ⟨y0,y1,y2⟩:=wr_cells (keep hb HC.out)
          match i with
          | 0=>
            obtain rfl:=Option.some.inj hop
            go_simp
            exact hK _ _ (Below.refl _ _) fun _=>by first | rfl | exact wrap_val (by omega)
          | 1=>
            obtain rfl:=Option.some.inj hop
            have n0:a.tmps[98]?.getD undef=.pointer (some ⟨g9,0,none⟩):=hP 0 98 (by kernel_rfl) (by kernel_rfl)
            go_simp
            exact hK _ _ (Below.refl _ _) fun _=>by first | rfl | exact wrap_val (by omega)
          | 2=>
            obtain rfl:=Option.some.inj hop
            have n1:a.tmps[99]?.getD undef=.int .i64 0:=hP 1 99 (by kernel_rfl) (by kernel_rfl)
            go_simp
            exact hK _ _ (Below.refl _ _) fun _=>by first | rfl | exact wrap_val (by omega)
          | 3=>
            obtain rfl:=Option.some.inj hop
            have n2:a.tmps[100]?.getD undef=.bool true:=hP 2 100 (by kernel_rfl) (by kernel_rfl)
            go_simp
            exact hK _ _ (Below.refl _ _) fun _=>by first | rfl | exact wrap_val (by omega)
          | 4=>
            obtain rfl:=Option.some.inj hop
            go_simp
            exact hK _ _ (Below.refl _ _) fun _=>by first | rfl | exact wrap_val (by omega)
          | 5=>
            obtain rfl:=Option.some.inj hop
            have n4:a.tmps[102]?.getD undef=.pointer (some ⟨g9,2,none⟩):=hP 4 102 (by kernel_rfl) (by kernel_rfl)
            go_simp
            exact hK _ _ (Below.refl _ _) fun _=>by first | rfl | exact wrap_val (by omega)
          | 6=>
            obtain rfl:=Option.some.inj hop
            go_simp
            exact hK _ _ (Below.refl _ _) fun _=>by first | rfl | exact wrap_val (by omega)
          | 7=>
            obtain rfl:=Option.some.inj hop
            have n5:a.tmps[103]?.getD undef=.int .i64 l:=hP 5 103 (by kernel_rfl) (by kernel_rfl)
            have n6:a.tmps[104]?.getD undef=.int .i64 pc:=hP 6 104 (by kernel_rfl) (by kernel_rfl)
            go_simp
            exact hK _ _ ((Below.refl _ _).alloc (Nat.le_refl _) _) fun _=>⟨wr.heap.size,rfl,by rw [alloc_size];omega,by rw [Lib.cell_of_heap (heap_alloc_new _ _)];rfl,by rw [Lib.cell_of_heap (heap_alloc_new _ _)];rfl⟩
          | 8=>
            obtain rfl:=Option.some.inj hop
            obtain ⟨gg,n7,hgl,hg0,hg1⟩:PairAt wr l pc (a.tmps[105]?.getD undef):=(hP 7 105 (by kernel_rfl) (by kernel_rfl))
            go_simp
            go_at_call 72
            refine (PJ gg wr hg0 hg1).mono ?_
            rintro ed w5 ⟨rfl,hw5⟩
            obtain rfl:=hw5.symm
            go_simp
            exact hK _ _ (Below.refl _ _) fun _=>by first | rfl | exact wrap_val (by omega)
          | 9=>
            obtain rfl:=Option.some.inj hop
            go_simp
            exact hK _ _ (Below.refl _ _) fun _=>by first | rfl | exact wrap_val (by omega)
          | 10=>
            obtain rfl:=Option.some.inj hop
            have n9:a.tmps[107]?.getD undef=.pointer (some ⟨q,2,none⟩):=hP 9 107 (by kernel_rfl) (by kernel_rfl)
            go_simp
            exact hK _ _ (Below.refl _ _) fun _=>by first | rfl | exact wrap_val (by omega)
          | 11=>
            obtain rfl:=Option.some.inj hop
            have n8:a.tmps[106]?.getD undef=.int .i64 c:=hP 8 106 (by kernel_rfl) (by kernel_rfl)
            have n10:a.tmps[108]?.getD undef=.int .i64 to:=hP 10 108 (by kernel_rfl) (by kernel_rfl)
            go_simp
            go_at_call 124
            refine (PY wr).mono ?_
            rintro ed w5 ⟨rfl,hw5⟩
            obtain rfl:=hw5.symm
            go_simp
            exact hK _ _ (Below.refl _ _) fun _=>by first | rfl | exact wrap_val (by omega)
          | 12=>
            obtain rfl:=Option.some.inj hop
            have n11:a.tmps[109]?.getD undef=.bool fl:=hP 11 109 (by kernel_rfl) (by kernel_rfl)
            go_simp
            exact hK _ _ (Below.refl _ _) fun _=>by first | rfl | exact wrap_val (by omega)
          | 13=>
            obtain rfl:=Option.some.inj hop
            have n3:a.tmps[101]?.getD undef=.bool true:=hP 3 101 (by kernel_rfl) (by kernel_rfl)
            have n12:a.tmps[110]?.getD undef=.bool (!fl):=hP 12 110 (by kernel_rfl) (by kernel_rfl)
            go_simp
            exact hK _ _ (Below.refl _ _) fun _=>by first | rfl | exact wrap_val (by omega)
          | _+14=>simp at hop
        · intro V wz hbz hR
          have H5:=H4.out.on hbz
          have hz5:=hz4.trans (hbz.mono hz4.size)
          obtain ⟨⟨dx0,dx1,dx2,dx3,dx4,dx5,dx6⟩,⟨dr0,dr1,dr2⟩,⟨dt0,dt1,dt2⟩,⟨de0,de1,de2⟩,df0,df1,df2⟩:=H5.cells
          obtain ⟨v0,v1,v2⟩:=wr_cells (keep hbz HV.out)
          have hR13:=hR 13 (by kernel_rfl)
          clear hR
          have e13:V 13=.bool (!fl):=hR13
          clear hR13
          refine at_all (prs [98,99,100,101,102,103,104,105,106,107,108,109,110,111] V) (fun t=>by kernel_rfl) ?_
          simp only [prs,List.zipIdx,List.map,List.foldl,Nat.zero_add,Nat.reduceAdd,List.setIfInBounds_toArray,List.set_cons_zero,List.set_cons_succ,e13]
          cases fl with
          | false=>
            go_wp2
            obtain ⟨z0,z1,z2,_⟩:=put3 H5.2.1 (.int .i64 4) (.int .i64 sa) (.int .i64 0)
            try simp only [Exit.inBlock,Exit.then]
            refine bodyPost_ret (v:=.agg #[.int .i64 4,.int .i64 sa,.int .i64 0]) (by simp [results,Tryz.results90,go_sem,z0,z1,z2,Result.andThen]) rfl ?_
            rw [<- HRES.out]
            show OwnX X bs (k+d) w (if joinI l pc≠0/\to=0 then .error (4,sa) else .ok st) _ _
            rw [HC0.out,HFL.out]
            exact ER.out wz _ _ _ (4,sa) (by simp) (hz5) (heap_lt H5.2.1)
          | true=>
            go_wp2
            obtain ⟨z0,z1,z2,_⟩:=put3 H5.2.1 (.int .i64 0) (.int .i64 0) (.int .i64 l)
            try simp only [Exit.inBlock,Exit.then]
            refine bodyPost_ret (v:=.agg #[.int .i64 0,.int .i64 0,.int .i64 l]) (by simp [results,Tryz.results90,go_sem,z0,z1,z2,Result.andThen]) rfl ?_
            rw [<- HRES.out]
            show OwnX X bs (k+d) w (if joinI l pc≠0/\to=0 then .error (4,sa) else .ok st) _ _
            rw [HC0.out,HFL.out]
            exact EN.out wz _ _ _ l (hz5) (heap_lt H5.2.1)
end Go.Proofs.YtlepckjmdjjolaaGreatDoor.Fl
