/- Own texts laid together: MakeLeaf, MakeRet, MakePub, MakeBin, MakeCell, MakePubAll, MakeSec, MakeSecAll. Conditions: as each theorem says. -/
import Derived.Test.YtlepckjmdjjolaaGreatDoorGMakeP
import Derived.Lib.ConvBytes
import Derived.Deep.RegionWith
import Derived.BigRegion
set_option maxHeartbeats 2000000
set_option maxRecDepth 100000
set_option linter.unusedVariables false
set_option linter.unusedSimpArgs false
namespace Go.Proofs.YtlepckjmdjjolaaGreatDoor
open Go.ChangeShapes Go.WideShapes Go.ChangeAt Go.RowKit
def NsAt (B:Nat) (w:World) (v:Value) (ns:List UInt8):Prop:=
 ∃ ao cap,v=.slice ao ns.length cap/\ns.length<=cap/\cap<=9223372036854775807/\∀ i x,ns[i]?=some x->∃ g off,ao=some ⟨g,off,none⟩/\g<B/\w.cell? ⟨g,off+i,none⟩=some (.int .u8 x.toNat)
theorem NsAt.on {B:Nat} {w w':World} {v:Value} {ns:List UInt8} (h:NsAt B w v ns) (hb:∀ k,k<B->w'.heap[k]?=w.heap[k]?):NsAt B w' v ns:=by
 obtain ⟨ao,cap,rfl,h1,h2,h3⟩:=h
 refine ⟨ao,cap,rfl,h1,h2,fun i x hx=>?_⟩
 obtain ⟨g,off,e,hg,hc⟩:=h3 i x hx
 exact ⟨g,off,e,hg,(World.cell?_of_block (hb g hg)).trans hc⟩
def MakerAt (B bm:Nat) (E:Env) (ns:List UInt8) (w:World):Prop:=
 B<=bm/\∃ nv lv sv cv,w.heap[bm]?=some (.cells #[nv,lv,sv,cv,.bool E.held,.int .i64 E.thread,.int .i64 E.deep] 92 (0,0))/\NsAt B w nv ns /\
  w.ownsRow B 9 1 lv E.loc.length (E.loc.map .string)/\w.ownsRow B 4 1 sv E.loc.length (E.sec.map .bool)/\w.ownsRow B 3 1 cv E.loc.length (E.cnt.map (.int .i64))/\E.thread<=9/\E.deep<=100/\E.loc.length<=100
theorem MakerAt.lt {B bm:Nat} {E:Env} {ns:List UInt8} {w:World} (h:MakerAt B bm E ns w):bm<w.heap.size:=by
 obtain ⟨_,nv,lv,sv,cv,hb,_⟩:=h
 exact heap_lt hb
theorem MakerAt.base {B bm:Nat} {E:Env} {ns:List UInt8} {w:World} (h:MakerAt B bm E ns w):B<=w.heap.size:=by have:=h.lt;have:=h.1;omega
theorem MakerAt.below {B bm:Nat} {E:Env} {ns:List UInt8} {w w':World} (h:MakerAt B bm E ns w) (hb:Below w.heap.size w w'):MakerAt B bm E ns w':=by
 have hB:=h.base
 obtain ⟨h1,nv,lv,sv,cv,h2,h3,h4,h5,h6,h7⟩:=h
 have hg:w.grownBy w' none:=⟨hb.os,hb.tape,hb.output,hb.size,fun k hk _=>hb.block k hk⟩
 have hn:∀ v:Value,v.ownBlock=none\/v.ownBlock≠none:=fun v=>by cases hv:v.ownBlock <;> simp
 exact ⟨h1,nv,lv,sv,cv,(hb.block bm (heap_lt h2)).trans h2,h3.on fun k hk=>hb.block k (by omega),h4.kept hg (hn _),h5.kept hg (hn _),h6.kept hg (hn _),h7⟩
theorem MakerAt.alloc {B bm:Nat} {E:Env} {ns:List UInt8} {w:World} (h:MakerAt B bm E ns w) (o:Obj):MakerAt B bm E ns (w.alloc o):=h.below ((Below.refl _ _).alloc (Nat.le_refl _) o)
theorem MakerAt.set {B bm:Nat} {E:Env} {ns:List UInt8} {w:World} (h:MakerAt B bm E ns w) {r:Nat} {cs:Array Value} {fr:Nat × Nat} (hr:w.heap[r]?=some (.cells cs 50 fr)) (hB:B<=r) (off:Nat) (u:Value):MakerAt B bm E ns (w.setCell ⟨r,off,none⟩ u):=by
 obtain ⟨h1,nv,lv,sv,cv,h2,h3,h4,h5,h6,h7⟩:=h
 have hne:bm≠r:=fun e=>by subst e;rw [hr] at h2;simp at h2
 have hg:w.grownBy (w.setCell ⟨r,off,none⟩ u) (some r):=⟨rfl,rfl,rfl,by simp [World.setCell],fun k _ hk=>Below.heap_setCell _ _ _ _ (fun e=>hk (by simp [e]))⟩
 exact ⟨h1,nv,lv,sv,cv,(Below.heap_setCell _ _ _ _ hne).trans h2,h3.on fun k hk=>Below.heap_setCell _ _ _ _ (show k≠r by omega),h4.kept hg (.inr (Lib.ownBlock_ne h4 hr (by decide))),h5.kept hg (.inr (Lib.ownBlock_ne h5 hr (by decide))),h6.kept hg (.inr (Lib.ownBlock_ne h6 hr (by decide))),h7⟩
theorem MakerAt.took {B bm:Nat} {E:Env} {ns:List UInt8} {w:World} {nv lv sv cv nv':Value} (h1:B<=bm) (h2:w.heap[bm]?=some (.cells #[nv,lv,sv,cv,.bool E.held,.int .i64 E.thread,.int .i64 E.deep] 92 (0,0))) (h3:NsAt B w nv' ns)
    (h4:w.ownsRow B 9 1 lv E.loc.length (E.loc.map .string)) (h5:w.ownsRow B 4 1 sv E.loc.length (E.sec.map .bool)) (h6:w.ownsRow B 3 1 cv E.loc.length (E.cnt.map (.int .i64))) (h7:E.thread<=9/\E.deep<=100/\E.loc.length<=100):
    MakerAt B bm E ns (w.setCell ⟨bm,0,none⟩ nv')/\w.grownBy (w.setCell ⟨bm,0,none⟩ nv') (some bm):=by
 have hg:w.grownBy (w.setCell ⟨bm,0,none⟩ nv') (some bm):=⟨rfl,rfl,rfl,by simp [World.setCell],fun k _ hk=>Below.heap_setCell _ _ _ _ (fun e=>hk (by simp [e]))⟩
 refine ⟨⟨h1,nv',lv,sv,cv,?_,h3.on fun k hk=>Below.heap_setCell _ _ _ _ (show k≠bm by omega),h4.kept hg (.inr (Lib.ownBlock_ne h4 h2 (by decide))),h5.kept hg (.inr (Lib.ownBlock_ne h5 h2 (by decide))),h6.kept hg (.inr (Lib.ownBlock_ne h6 h2 (by decide))),h7⟩,hg⟩
 simp [World.setCell,Array.getElem?_modify,h2]
theorem seven_cells {w:World} {k:Nat} {x0 x1 x2 x3 x4 x5 x6:Value} (h:w.heap[k]?=some (.cells #[x0,x1,x2,x3,x4,x5,x6] 92 (0,0))):
    w.cell? ⟨k,0,none⟩=some x0/\w.cell? ⟨k,1,none⟩=some x1/\w.cell? ⟨k,2,none⟩=some x2/\w.cell? ⟨k,3,none⟩=some x3/\w.cell? ⟨k,4,none⟩=some x4/\w.cell? ⟨k,5,none⟩=some x5/\w.cell? ⟨k,6,none⟩=some x6:=by
 refine ⟨?_,?_,?_,?_,?_,?_,?_⟩ <;> (rw [Lib.cell_of_heap h];rfl)
theorem next_keep (B bm:Nat) (E:Env) (ns:List UInt8) (k:Nat) (w:World) (h:MakerAt B bm E ns w) (hk:0<k) (hk1:k<=1000):
    Calls Tryz.prog 33 #[.pointer (some ⟨bm,0,none⟩),.int .i64 k] w fun e w'=>e=.returned (.int .i64 (nxV ns k:Int))/\MakerAt B bm E ns.tail w'/\w.grownBy w' (some bm)/\∀ j,j≠0->w'.cell? ⟨bm,j,none⟩=w.cell? ⟨bm,j,none⟩:=by
 have h0:=h
 obtain ⟨h1,nv,lv,sv,cv,h2,⟨ao,cap,rfl,hl,hc,hN⟩,h4,h5,h6,h7⟩:=h
 obtain ⟨a0,a1,a2,a3,a4,a5,a6⟩:=seven_cells h2
 have f0:w.frozen? ⟨bm,0,none⟩=false:=Lib.frozen_of_heap h2 0
 cases ns with
 | nil=>
   clear hN
   simp only [List.length_nil] at a0
   go_enter Tryz.func33,Tryz.ntmps33
   go_wp2
   go_ret
   exact ⟨rfl,h0,grownBy_refl _ _,fun _ _=>rfl⟩
 | cons x r=>
   obtain ⟨g,off,rfl,hg,hcell⟩:=hN 0 x rfl
   simp only [Nat.add_zero] at hcell
   have hx:=x.toNat_lt
   simp only [List.length_cons] at a0 hl
   have HN:=Lib.hid hN
   clear hN
   go_enter Tryz.func33,Tryz.ntmps33
   go_wp2
   case inl h=>
    go_ret
    have hr:r=[]:=by
        have hl':r.length=0:=by omega
        exact List.length_eq_zero_iff.1 hl'
    subst hr
    have T:=MakerAt.took (ns:=[]) h1 h2 (nv':=.slice (some ⟨g,off,none⟩) 0 0) ⟨_,0,rfl,by simp,by omega,fun i y hy=>by simp at hy⟩ h4 h5 h6 h7
    exact ⟨rfl,T.1,T.2,fun j hj=>World.cell?_setCell_other _ _ _ _ (by simp [hj])⟩
   case inr h=>
    go_ret
    have T:=MakerAt.took (ns:=r) h1 h2 (nv':=.slice (some ⟨g,off+1,none⟩) r.length (cap-1)) ⟨_,cap-1,rfl,by omega,by omega,fun i y hy=>by
        obtain ⟨g',off',e,hg',hc'⟩:=HN.out (i+1) y (by simpa using hy)
        simp only [Option.some.injEq,Addr.mk.injEq] at e
        obtain ⟨rfl,rfl,_⟩:=e
        exact ⟨g,off+1,rfl,hg',by rw [show off+1+i=off+(i+1) by omega];exact hc'⟩⟩ h4 h5 h6 h7
    exact ⟨rfl,T.1,T.2,fun j hj=>World.cell?_setCell_other _ _ _ _ (by simp [hj])⟩
theorem next_any (B bm:Nat) (E:Env) (ns:List UInt8) (k:Nat) (w:World) (h:MakerAt B bm E ns w) (hk:0<k) (hk1:k<=1000):
    Calls Tryz.prog 33 #[.pointer (some ⟨bm,0,none⟩),.int .i64 k] w fun e w'=>e=.returned (.int .i64 (nxV ns k:Int))/\MakerAt B bm E ns.tail w'/\w.grownBy w' (some bm):=
 (next_keep B bm E ns k w h hk hk1).mono fun _ _ ⟨h1,h2,h3,_⟩=>⟨h1,h2,h3⟩
theorem literal_any (bm:Nat) (k:Nat) (hk:k<=1000) (w:World):
    Calls Tryz.prog 126 #[.pointer (some ⟨bm,0,none⟩),.int .i64 k] w fun e w'=>e=.returned (.agg #[.int .i64 0,.int .i64 0,.string ⟨#[]⟩,.int .u64 (k:Int),.slice none 0 0,.int .i64 0])/\Below w.heap.size w w':=by
 go_enter Tryz.func126,Tryz.ntmps126
 go_wp2
 exact bodyPost_ret (v:=.agg #[.int .i64 0,.int .i64 0,.string ⟨#[]⟩,.int .u64 (k:Int),.slice none 0 0,.int .i64 0]) (by simp [results,Tryz.results126,go_sem]) rfl ⟨rfl,(Below.refl _ _).alloc (Nat.le_refl _) _⟩
theorem name_any (s:ByteArray) (w:World):
    Calls Tryz.prog 125 #[.string s] w fun e w'=>e=.returned (.agg #[.int .i64 1,.int .i64 0,.string s,.int .u64 0,.slice none 0 0,.int .i64 0])/\Below w.heap.size w w':=by
 go_enter Tryz.func125,Tryz.ntmps125
 go_wp2
 exact bodyPost_ret (v:=.agg #[.int .i64 1,.int .i64 0,.string s,.int .u64 0,.slice none 0 0,.int .i64 0]) (by simp [results,Tryz.results125,go_sem]) rfl ⟨rfl,(Below.refl _ _).alloc (Nat.le_refl _) _⟩
theorem enc_digit:∀ m:Fin 10,Utf8.encode (48+(m.val:Int))=⟨#[UInt8.ofNat (48+m.val)]⟩:=by decide
theorem enc_digit' (n:Nat):Utf8.encode (48+(n:Int) % 10)=⟨#[digitB n]⟩:=enc_digit ⟨n % 10,Nat.mod_lt _ (by decide)⟩
theorem digit_any (n:Nat) (hn:n<=1000) (w:World):
    Calls Tryz.prog 34 #[.int .i64 n] w fun e w'=>e=.returned (.string ⟨#[digitB n]⟩)/\w'=w:=by
 go_enter Tryz.func34,Tryz.ntmps34
 go_wp2
 go_ret
 exact ⟨by rw [enc_digit' n];rfl,rfl⟩
theorem put6_maker {B bm:Nat} {E:Env} {ns:List UInt8} {w:World} (h:MakerAt B bm E ns w) {r:Nat} {x0 x1 x2 x3 x4 x5:Value} (hr:w.heap[r]?=some (.cells #[x0,x1,x2,x3,x4,x5] 50 (0,0))) (hB:B<=r) (u0 u1 u2 u3 u4 u5:Value):MakerAt B bm E ns (put6 w r u0 u1 u2 u3 u4 u5):=by
 have r1:=set_heap hr 0 u0
 have r2:=set_heap r1 1 u1
 have r3:=set_heap r2 2 u2
 have r4:=set_heap r3 3 u3
 have r5:=set_heap r4 4 u4
 exact (((((h.set hr hB 0 u0).set r1 hB 1 u1).set r2 hB 2 u2).set r3 hB 3 u3).set r4 hB 4 u4).set r5 hB 5 u5
def Made (B bm:Nat) (E:Env) (n:Nat) (w:World) (tn:Tree × List UInt8) (e:Ending) (w':World):Prop:=
 ∃ v,e=.returned v/\ERep w.heap.size w'.heap.size w' n v tn.1/\MakerAt B bm E tn.2 w'/\w.grownBy w' (some bm)
theorem same35_grown {B bm:Nat} {E:Env} {ns:List UInt8} {w w':World} (h:MakerAt B bm E ns w) (hg:w.grownBy w' (some bm)) (lo:Nat):Same35 lo w.heap.size w w':=fun g cs fr _ hlt hc=>by
 obtain ⟨_,nv,lv,sv,cv,h2,_⟩:=h
 exact (hg.block g hlt (fun e=>by simp only [Option.some.injEq] at e;subst e;rw [h2] at hc;simp at hc)).trans hc
theorem heap_grown {B bm:Nat} {E:Env} {ns:List UInt8} {w w':World} (h:MakerAt B bm E ns w) (hg:w.grownBy w' (some bm)) {r:Nat} {cs:Array Value} {fr:Nat × Nat} (hr:w.heap[r]?=some (.cells cs 50 fr)):w'.heap[r]?=some (.cells cs 50 fr):=
 same35_grown h hg 0 r cs fr (Nat.zero_le _) (heap_lt hr) hr
theorem made_end {B bm:Nat} {E:Env} {n:Nat} {w w5:World} {o:Obj} {tn:Tree × List UInt8} {u0 u1 u2 u3 u4 u5 x0 x1 x2 x3 x4 x5:Value} (hB:B<=w.heap.size) (hg:(w.alloc o).grownBy w5 (some bm)) (hM:MakerAt B bm E tn.2 w5)
    (hr:w5.heap[w.heap.size]?=some (.cells #[x0,x1,x2,x3,x4,x5] 50 (0,0))) (hE:ERep (w.heap.size+1) w5.heap.size w5 n (.agg #[u0,u1,u2,u3,u4,u5]) tn.1):
    Made B bm E n w tn (.returned (.agg #[u0,u1,u2,u3,u4,u5])) (put6 w5 w.heap.size u0 u1 u2 u3 u4 u5):=by
 refine ⟨_,rfl,?_,put6_maker hM hr hB _ _ _ _ _ _,?_⟩
 · refine hE.carry (by omega) (by rw [put6_size];exact Nat.le_refl _) fun g cs fr hlo _ hc=>?_
   exact (put6_other _ _ _ _ _ _ _ _ g (by omega)).trans hc
 · have hs:=hg.size
   rw [alloc_size] at hs
   have hp:=put6_grown w5 w.heap.size u0 u1 u2 u3 u4 u5
   refine ⟨hp.os.trans hg.os,hp.tape.trans hg.tape,hp.output.trans hg.output,by rw [put6_size];omega,fun k hk hkr=>?_⟩
   rw [put6_other _ _ _ _ _ _ _ _ k (by omega),hg.block k (by rw [alloc_size];omega) hkr,alloc_at,if_neg (by omega)]
theorem made_end_alloc {B bm:Nat} {E:Env} {n:Nat} {w w5:World} {o o2:Obj} {tn:Tree × List UInt8} {u0 u1 u2 u3 u4 u5 x0 x1 x2 x3 x4 x5:Value} (hB:B<=w.heap.size) (hg:(w.alloc o).grownBy w5 (some bm)) (hM:MakerAt B bm E tn.2 w5)
    (hr:w5.heap[w.heap.size]?=some (.cells #[x0,x1,x2,x3,x4,x5] 50 (0,0))) (hE:ERep (w.heap.size+1) (w5.alloc o2).heap.size (w5.alloc o2) n (.agg #[u0,u1,u2,u3,u4,u5]) tn.1):
    Made B bm E n w tn (.returned (.agg #[u0,u1,u2,u3,u4,u5])) ((put6 w5 w.heap.size u0 u1 u2 u3 u4 u5).alloc o2):=by
 refine ⟨_,rfl,?_,(put6_maker hM hr hB _ _ _ _ _ _).alloc o2,?_⟩
 · refine hE.carry (by omega) (by rw [alloc_size,alloc_size,put6_size];exact Nat.le_refl _) fun g cs fr hlo _ hc=>?_
   rw [alloc_at,put6_size,put6_other _ _ _ _ _ _ _ _ g (by omega),<- alloc_at]
   exact hc
 · have hs:=hg.size
   rw [alloc_size] at hs
   have hp:=put6_grown w5 w.heap.size u0 u1 u2 u3 u4 u5
   have ha:=World.grownBy_alloc (put6 w5 w.heap.size u0 u1 u2 u3 u4 u5) o2 none
   refine ⟨(ha.os.trans hp.os).trans hg.os,(ha.tape.trans hp.tape).trans hg.tape,(ha.output.trans hp.output).trans hg.output,by rw [alloc_size,put6_size];omega,fun k hk hkr=>?_⟩
   rw [alloc_at,put6_size,if_neg (by omega),put6_other _ _ _ _ _ _ _ _ k (by omega),hg.block k (by rw [alloc_size];omega) hkr,alloc_at,if_neg (by omega)]
theorem box_later {w:World} {k:Nat} {x0 x1 x2 x3 x4 x5:Value} (h:w.heap[k]?=some (.cells #[x0,x1,x2,x3,x4,x5] 50 (0,0))):
    (∀ o,(w.alloc o).cell? ⟨k,0,none⟩=some x0)/\(∀ o,(w.alloc o).cell? ⟨k,1,none⟩=some x1)/\(∀ o,(w.alloc o).cell? ⟨k,2,none⟩=some x2)/\(∀ o,(w.alloc o).cell? ⟨k,3,none⟩=some x3)/\(∀ o,(w.alloc o).cell? ⟨k,4,none⟩=some x4)/\(∀ o,(w.alloc o).cell? ⟨k,5,none⟩=some x5) /\
    (∀ o,(w.alloc o).frozen? ⟨k,0,none⟩=false)/\(∀ o,(w.alloc o).frozen? ⟨k,1,none⟩=false)/\(∀ o,(w.alloc o).frozen? ⟨k,2,none⟩=false)/\(∀ o,(w.alloc o).frozen? ⟨k,3,none⟩=false)/\(∀ o,(w.alloc o).frozen? ⟨k,4,none⟩=false)/\(∀ o,(w.alloc o).frozen? ⟨k,5,none⟩=false):=by
 have h':∀ o,(w.alloc o).heap[k]?=some (.cells #[x0,x1,x2,x3,x4,x5] 50 (0,0)):=fun o=>(Lib.alloc_old w o k (heap_lt h)).trans h
 exact ⟨fun o=>(box_cells (h' o)).1,fun o=>(box_cells (h' o)).2.1,fun o=>(box_cells (h' o)).2.2.1,fun o=>(box_cells (h' o)).2.2.2.1,fun o=>(box_cells (h' o)).2.2.2.2.1,fun o=>(box_cells (h' o)).2.2.2.2.2,
    fun o=>(box_free (h' o)).1,fun o=>(box_free (h' o)).2.1,fun o=>(box_free (h' o)).2.2.1,fun o=>(box_free (h' o)).2.2.2.1,fun o=>(box_free (h' o)).2.2.2.2.1,fun o=>(box_free (h' o)).2.2.2.2.2⟩
theorem thread_cell {B bm:Nat} {E:Env} {ns:List UInt8} {w:World} (h:MakerAt B bm E ns w):w.cell? ⟨bm,5,none⟩=some (.int .i64 E.thread):=by
 obtain ⟨_,nv,lv,sv,cv,h2,_⟩:=h
 exact (seven_cells h2).2.2.2.2.2.1
theorem held_cell {B bm:Nat} {E:Env} {ns:List UInt8} {w:World} (h:MakerAt B bm E ns w):w.cell? ⟨bm,4,none⟩=some (.bool E.held):=by
 obtain ⟨_,nv,lv,sv,cv,h2,_⟩:=h
 exact (seven_cells h2).2.2.2.2.1
theorem thread_le {B bm:Nat} {E:Env} {ns:List UInt8} {w:World} (h:MakerAt B bm E ns w):E.thread<=1000:=by
 obtain ⟨_,nv,lv,sv,cv,h2,h3,h4,h5,h6,h7,_⟩:=h
 omega
theorem own_slice {w:World} {B:Nat} {e:TypeId} {v:Value} {n:Nat} {xs:List Value} (h:w.ownsRow B e 1 v n xs):∃ ao cap,v=.slice ao n cap/\∀ i u,xs[i]?=some u->∃ g,ao=some ⟨g,0,none⟩/\w.cell? ⟨g,i,none⟩=some u:=by
 rcases h.2 with ⟨rfl,rfl⟩ | ⟨g,cap,cur,rfl,_,hgg,_⟩
 · refine ⟨none,0,rfl,fun i u hu=>?_⟩
   have:=h.1
   simp at this
   subst this
   simp at hu
 · refine ⟨_,cap,rfl,fun i u hu=>⟨g,rfl,?_⟩⟩
   have:=h.cells (g:=g) rfl i u hu
   rwa [Lib.add_plain,Nat.zero_add] at this
theorem locals_cell {B bm:Nat} {E:Env} {ns:List UInt8} {w:World} (h:MakerAt B bm E ns w):∃ ao cap,w.cell? ⟨bm,1,none⟩=some (.slice ao E.loc.length cap)/\∀ i,i<E.loc.length->∃ g,ao=some ⟨g,0,none⟩/\w.cell? ⟨g,i,none⟩=some (.string (E.loc.getD i ⟨#[]⟩)):=by
 obtain ⟨_,nv,lv,sv,cv,h2,h3,h4,h5,h6,h7,_⟩:=h
 obtain ⟨ao,cap,rfl,hc⟩:=own_slice h4
 refine ⟨ao,cap,(seven_cells h2).2.1,fun i hi=>?_⟩
 obtain ⟨g,e,hg⟩:=hc i (.string (E.loc.getD i ⟨#[]⟩)) (by simp [hi])
 exact ⟨g,e,hg⟩
theorem secret_cell {B bm:Nat} {E:Env} {ns:List UInt8} {w:World} (h:MakerAt B bm E ns w):∃ ao cap,w.cell? ⟨bm,2,none⟩=some (.slice ao E.loc.length cap)/\∀ i,i<E.loc.length->∃ g,ao=some ⟨g,0,none⟩/\w.cell? ⟨g,i,none⟩=some (.bool (E.sec.getD i false)):=by
 obtain ⟨_,nv,lv,sv,cv,h2,h3,h4,h5,h6,h7,_⟩:=h
 have hl:E.sec.length=E.loc.length:=by have:=h5.1;simpa using this
 obtain ⟨ao,cap,rfl,hc⟩:=own_slice h5
 refine ⟨ao,cap,(seven_cells h2).2.2.1,fun i hi=>?_⟩
 obtain ⟨g,e,hg⟩:=hc i (.bool (E.sec.getD i false)) (by simp [show i<E.sec.length by omega])
 exact ⟨g,e,hg⟩
theorem count_cell {B bm:Nat} {E:Env} {ns:List UInt8} {w:World} (h:MakerAt B bm E ns w):∃ ao cap,w.cell? ⟨bm,3,none⟩=some (.slice ao E.loc.length cap)/\∀ i,i<E.loc.length->∃ g,ao=some ⟨g,0,none⟩/\w.cell? ⟨g,i,none⟩=some (.int .i64 (E.cnt.getD i 0)):=by
 obtain ⟨_,nv,lv,sv,cv,h2,h3,h4,h5,h6,h7,_⟩:=h
 have hl:E.cnt.length=E.loc.length:=by have:=h6.1;simpa using this
 obtain ⟨ao,cap,rfl,hc⟩:=own_slice h6
 refine ⟨ao,cap,(seven_cells h2).2.2.2.1,fun i hi=>?_⟩
 obtain ⟨g,e,hg⟩:=hc i (.int .i64 (E.cnt.getD i 0)) (by simp [show i<E.cnt.length by omega])
 exact ⟨g,e,hg⟩
theorem loc_le {B bm:Nat} {E:Env} {ns:List UInt8} {w:World} (h:MakerAt B bm E ns w):E.loc.length<=100:=by
 obtain ⟨_,nv,lv,sv,cv,h2,h3,h4,h5,h6,h7,h8,h9⟩:=h
 exact h9
theorem cat2 (c d:UInt8):(⟨#[c]⟩:ByteArray)++⟨#[d]⟩=⟨#[c,d]⟩:=by
 apply ByteArray.ext;simp [ByteArray.data_append]
def PubC (E:Env) (f:Nat):Prop:=∀ (B bm:Nat) (ns:List UInt8) (deep:Nat) (w:World),5<=deep+f->deep<=100->MakerAt B bm E ns w ->
 Calls Tryz.prog 94 #[.pointer (some ⟨bm,0,none⟩),.int .i64 deep] w (Made B bm E (2*f+1) w (pubM E f deep ns))
def SecC (E:Env) (f:Nat):Prop:=∀ (B bm:Nat) (ns:List UInt8) (deep:Nat) (w:World),6<=deep+f->deep<=99->MakerAt B bm E ns w ->
 Calls Tryz.prog 92 #[.pointer (some ⟨bm,0,none⟩),.int .i64 deep] w (Made B bm E (2*f+1) w (secM E f deep ns))
theorem public_lit (B bm:Nat) (E:Env) (n deep:Nat) (ns:List UInt8) (w:World) (hM:MakerAt B bm E ns w) (hd:deep<=100) (hcase:3<deep\/nxV ns 8=0):
    Calls Tryz.prog 94 #[.pointer (some ⟨bm,0,none⟩),.int .i64 deep] w (Made B bm E (n+1) w (litT (nxV ns.tail 256),ns.tail.tail)):=by
 have hB:=hM.base
 have hbm:=hM.lt
 have hMA:=hM.alloc zeroE
 have hth:=thread_cell hM
 have htl:=thread_le hM
 have H1:=next_any B bm E ns 8 _ hMA (by omega) (by omega)
 have HR:=Lib.hid (zeroE_at w)
 have HM:=Lib.hid hM
 have HMA:=Lib.hid hMA
 have H2:=fun w' h=>next_any B bm E ns.tail 256 w' h (by omega) (by omega)
 have hlt:=nxV_lt ns.tail 256 (by omega)
 obtain ⟨q,hq⟩:∃ q,q=nxV ns.tail 256:=⟨_,rfl⟩
 rw [<- hq] at H2 hlt ⊢
 obtain ⟨k,hk⟩:∃ k,k=nxV ns 8:=⟨_,rfl⟩
 rw [<- hk] at H1 hcase
 clear hq hk hM hMA
 by_cases h3:3<deep
 · clear hcase
   go_enter Tryz.func94,Tryz.ntmps94
   go_wp2_with (first
    | (go_at_call 34;refine (digit_any E.thread htl _).mono ?_;rintro e w' ⟨rfl,rfl⟩)
    | (go_at_call 126;refine (literal_any bm q (by omega) w2).mono ?_;rintro e w3 ⟨rfl,hb3⟩;have hr3:=(hb3.block _ (heap_lt hr2)).trans hr2;obtain ⟨c0,c1,c2,c3,c4,c5⟩:=box_cells hr3;obtain ⟨d0,d1,d2,d3,d4,d5⟩:=box_free hr3;have hz3:=heap_lt hr3)
    | (go_at_call 33;refine (H2 w1 hM1.out).mono ?_;rintro e w2 ⟨rfl,hM2,hg2⟩;have hr2:=heap_grown hM1.out hg2 hr1)
    | (go_at_call 33;refine H1.mono ?_;rintro e w1 ⟨rfl,hM1,hg1⟩;have hr1:=heap_grown HMA.out hg1 HR.out;replace hM1:=Lib.hid hM1))
   have hW:=put6_heap hr3 (.int .i64 0) (.int .i64 0) (.string ⟨#[]⟩) (.int .u64 (q:Int)) (.slice none 0 0) (.int .i64 0)
   obtain ⟨e0,e1,e2,e3,e4,e5⟩:=box_cells hW
   exact bodyPost_ret (v:=.agg #[.int .i64 0,.int .i64 0,.string ⟨#[]⟩,.int .u64 (q:Int),.slice none 0 0,.int .i64 0]) (by simp [results,Tryz.results94,go_sem,e0,e1,e2,e3,e4,e5]) rfl (made_end hB (grownBy_trans (grownBy_trans hg1 hg2) (grownBy_below hb3)) (hM2.below hb3) hr3 (erep_lit (by omega)))
 · obtain rfl:k=0:=by omega
   clear hcase
   go_enter Tryz.func94,Tryz.ntmps94
   go_wp2_with (first
    | (go_at_call 34;refine (digit_any E.thread htl _).mono ?_;rintro e w' ⟨rfl,rfl⟩)
    | (go_at_call 126;refine (literal_any bm q (by omega) w2).mono ?_;rintro e w3 ⟨rfl,hb3⟩;have hr3:=(hb3.block _ (heap_lt hr2)).trans hr2;obtain ⟨c0,c1,c2,c3,c4,c5⟩:=box_cells hr3;obtain ⟨d0,d1,d2,d3,d4,d5⟩:=box_free hr3;have hz3:=heap_lt hr3)
    | (go_at_call 33;refine (H2 w1 hM1.out).mono ?_;rintro e w2 ⟨rfl,hM2,hg2⟩;have hr2:=heap_grown hM1.out hg2 hr1)
    | (go_at_call 33;refine H1.mono ?_;rintro e w1 ⟨rfl,hM1,hg1⟩;have hr1:=heap_grown HMA.out hg1 HR.out;replace hM1:=Lib.hid hM1))
   have hW:=put6_heap hr3 (.int .i64 0) (.int .i64 0) (.string ⟨#[]⟩) (.int .u64 (q:Int)) (.slice none 0 0) (.int .i64 0)
   obtain ⟨e0,e1,e2,e3,e4,e5⟩:=box_cells hW
   exact bodyPost_ret (v:=.agg #[.int .i64 0,.int .i64 0,.string ⟨#[]⟩,.int .u64 (q:Int),.slice none 0 0,.int .i64 0]) (by simp [results,Tryz.results94,go_sem,e0,e1,e2,e3,e4,e5]) rfl (made_end hB (grownBy_trans (grownBy_trans hg1 hg2) (grownBy_below hb3)) (hM2.below hb3) hr3 (erep_lit (by omega)))
theorem public_own (B bm:Nat) (E:Env) (n deep:Nat) (ns:List UInt8) (w:World) (hM:MakerAt B bm E ns w) (hd:deep<=100) (h3:¬ 3<deep) (hcase:nxV ns 8=1):
    Calls Tryz.prog 94 #[.pointer (some ⟨bm,0,none⟩),.int .i64 deep] w (Made B bm E (n+1) w (nameT (dig 112 E),ns.tail)):=by
 have hB:=hM.base
 have hbm:=hM.lt
 have hMA:=hM.alloc zeroE
 have hth:=thread_cell hM
 have htl:=thread_le hM
 have H1:=next_any B bm E ns 8 _ hMA (by omega) (by omega)
 have HR:=Lib.hid (zeroE_at w)
 have HM:=Lib.hid hM
 have HMA:=Lib.hid hMA
 rw [hcase] at H1
 clear hcase hM hMA
 have hcat:=cat2 112 (digitB E.thread)
 unfold dig
 go_enter Tryz.func94,Tryz.ntmps94
 go_wp2_with (first
    | (go_at_call 34;refine (digit_any E.thread htl _).mono ?_;rintro e w' ⟨rfl,rfl⟩)
    | (go_at_call 125;refine (name_any _ w1).mono ?_;rintro e w3 ⟨rfl,hb3⟩;have hr3:=(hb3.block _ (heap_lt hr1)).trans hr1;obtain ⟨c0,c1,c2,c3,c4,c5⟩:=box_cells hr3;obtain ⟨d0,d1,d2,d3,d4,d5⟩:=box_free hr3;have hz3:=heap_lt hr3)
    | (go_at_call 33;refine H1.mono ?_;rintro e w1 ⟨rfl,hM1,hg1⟩;have hr1:=heap_grown HMA.out hg1 HR.out;replace hM1:=Lib.hid hM1))
 have hW:=put6_heap hr3 (.int .i64 1) (.int .i64 0) (.string (⟨#[112,digitB E.thread]⟩)) (.int .u64 0) (.slice none 0 0) (.int .i64 0)
 obtain ⟨e0,e1,e2,e3,e4,e5⟩:=box_cells hW
 exact bodyPost_ret (v:=.agg #[.int .i64 1,.int .i64 0,.string (⟨#[112,digitB E.thread]⟩),.int .u64 0,.slice none 0 0,.int .i64 0]) (by simp [results,Tryz.results94,go_sem,e0,e1,e2,e3,e4,e5]) rfl (made_end hB (grownBy_trans hg1 (grownBy_below hb3)) (hM1.out.below hb3) hr3 (erep_name _))
theorem public_shared (B bm:Nat) (E:Env) (n deep:Nat) (ns:List UInt8) (w:World) (hM:MakerAt B bm E ns w) (hd:deep<=100) (h3:¬ 3<deep) (hcase:nxV ns 8=2) (hh:E.held=true):
    Calls Tryz.prog 94 #[.pointer (some ⟨bm,0,none⟩),.int .i64 deep] w (Made B bm E (n+1) w (nameT sharedS,ns.tail)):=by
 have hB:=hM.base
 have hbm:=hM.lt
 have hMA:=hM.alloc zeroE
 have hth:=thread_cell hM
 have htl:=thread_le hM
 have H1:=next_any B bm E ns 8 _ hMA (by omega) (by omega)
 have HR:=Lib.hid (zeroE_at w)
 have HM:=Lib.hid hM
 have HMA:=Lib.hid hMA
 rw [hcase] at H1
 clear hcase hM hMA
 go_enter Tryz.func94,Tryz.ntmps94
 go_wp2_with (first
    | (go_at_call 34;refine (digit_any E.thread htl _).mono ?_;rintro e w' ⟨rfl,rfl⟩)
    | (go_at_call 125;refine (name_any _ w1).mono ?_;rintro e w3 ⟨rfl,hb3⟩;have hr3:=(hb3.block _ (heap_lt hr1)).trans hr1;obtain ⟨c0,c1,c2,c3,c4,c5⟩:=box_cells hr3;obtain ⟨d0,d1,d2,d3,d4,d5⟩:=box_free hr3;have hz3:=heap_lt hr3)
    | (go_at_call 33;refine H1.mono ?_;rintro e w1 ⟨rfl,hM1,hg1⟩;have hr1:=heap_grown HMA.out hg1 HR.out;replace hM1:=Lib.hid hM1;have hhe:=held_cell hM1.out;rw [hh] at hhe))
 have hW:=put6_heap hr3 (.int .i64 1) (.int .i64 0) (.string (⟨#[115,104,97,114,101,100]⟩)) (.int .u64 0) (.slice none 0 0) (.int .i64 0)
 obtain ⟨e0,e1,e2,e3,e4,e5⟩:=box_cells hW
 exact bodyPost_ret (v:=.agg #[.int .i64 1,.int .i64 0,.string (⟨#[115,104,97,114,101,100]⟩),.int .u64 0,.slice none 0 0,.int .i64 0]) (by simp [results,Tryz.results94,go_sem,e0,e1,e2,e3,e4,e5]) rfl (made_end hB (grownBy_trans hg1 (grownBy_below hb3)) (hM1.out.below hb3) hr3 (erep_name _))
theorem carry_grown {B bm lo lo' n m:Nat} {E:Env} {ns:List UInt8} {w3 w4:World} {v:Value} {t:Tree} (hE:ERep lo' w3.heap.size w3 n v t) (hM:MakerAt B bm E ns w3) (hg:w3.grownBy w4 (some bm)) (o:Obj) (hlo:lo<=lo') (hn:n<=m):ERep lo (w4.alloc o).heap.size (w4.alloc o) m v t:=by
 have h4:ERep lo w4.heap.size w4 n v t:=hE.carry hlo hg.size (same35_grown hM hg _)
 exact (h4.mono (by rw [alloc_size];omega) ((Below.refl _ _).alloc (Nat.le_refl _) o)).up hn
theorem carry_two {B bm lo lo' n m:Nat} {E:Env} {ns ns':List UInt8} {w3 w4 w5:World} {v:Value} {t:Tree} (hE:ERep lo' w3.heap.size w3 n v t) (hM:MakerAt B bm E ns w3) (hg:w3.grownBy w4 (some bm)) (hM':MakerAt B bm E ns' w4) (hg':w4.grownBy w5 (some bm)) (o:Obj) (hlo:lo<=lo') (hn:n<=m):ERep lo (w5.alloc o).heap.size (w5.alloc o) m v t:=
 carry_grown (hE.carry hlo hg.size (same35_grown hM hg _)) hM' hg' o (Nat.le_refl _) hn
theorem PubC.at {E:Env} {f:Nat} (ih:PubC E f) (B bm deep:Nat) (ns ns':List UInt8) (t:Tree) (h5:4<=deep+f) (hd:deep<=99) (hp:pubM E f (deep+1) ns=(t,ns')):∀ w,MakerAt B bm E ns w ->
    Calls Tryz.prog 94 #[.pointer (some ⟨bm,0,none⟩),.int .i64 ((deep:Int)+1)] w (Made B bm E (2*f+1) w (t,ns')):=fun w hM=>by
 have:=ih B bm ns (deep+1) w (by omega) (by omega) hM
 rw [hp] at this
 exact this
theorem SecC.at {E:Env} {f:Nat} (ih:SecC E f) (B bm deep:Nat) (ns ns':List UInt8) (t:Tree) (h5:5<=deep+f) (hd:deep<=98) (hp:secM E f (deep+1) ns=(t,ns')):∀ w,MakerAt B bm E ns w ->
    Calls Tryz.prog 92 #[.pointer (some ⟨bm,0,none⟩),.int .i64 ((deep:Int)+1)] w (Made B bm E (2*f+1) w (t,ns')):=fun w hM=>by
 have:=ih B bm ns (deep+1) w (by omega) (by omega) hM
 rw [hp] at this
 exact this
theorem public_bin (B bm:Nat) (E:Env) (f deep:Nat) (ns:List UInt8) (w:World) (hM:MakerAt B bm E ns w) (hd:deep<=100) (ih:PubC E f) (hf:5<=deep+(f+1)) (h3:¬ 3<deep) (hcase:nxV ns 8=6\/nxV ns 8=7\/(nxV ns 8=2/\E.held=false)\/(nxV ns 8=4/\E.loc.length=0)):
    Calls Tryz.prog 94 #[.pointer (some ⟨bm,0,none⟩),.int .i64 deep] w (Made B bm E (2*(f+1)+1) w (binM (pubM E f) deep ns.tail)):=by
 have hB:=hM.base
 have hbm:=hM.lt
 have hMA:=hM.alloc zeroE
 have hth:=thread_cell hM
 have htl:=thread_le hM
 have H1:=next_any B bm E ns 8 _ hMA (by omega) (by omega)
 have HR:=Lib.hid (zeroE_at w)
 have HM:=Lib.hid hM
 have HMA:=Lib.hid hMA
 have H10:=fun w' h=>next_any B bm E (ns.tail) 10 w' h (by omega) (by omega)
 obtain ⟨t1,n1,hp1⟩:∃ t n,pubM E f (deep+1) (ns.tail).tail=(t,n):=⟨_,_,rfl⟩
 obtain ⟨t2,n2,hp2⟩:∃ t n,pubM E f (deep+1) n1=(t,n):=⟨_,_,rfl⟩
 have P1:=ih.at B bm deep _ _ _ (by omega) (by omega) hp1
 have P2:=ih.at B bm deep _ _ _ (by omega) (by omega) hp2
 have hbin:binM (pubM E f) deep (ns.tail)=(binT (nxV (ns.tail) 10) t1 t2,n2):=by simp only [binM,hp1,hp2]
 rw [hbin]
 obtain ⟨q,hq⟩:∃ q,q=nxV (ns.tail) 10:=⟨_,rfl⟩
 rw [<- hq] at H10 ⊢
 clear hbin hp1 hp2 hq hM hMA
 rcases hcase with hk | hk | ⟨hk,hh⟩ | ⟨hk,hl⟩
 · rw [hk] at H1
   clear hk
   go_enter Tryz.func94,Tryz.ntmps94
   go_wp2_with (first
    | (go_at_call 34;refine (digit_any E.thread htl _).mono ?_;rintro e w' ⟨rfl,rfl⟩)
    | (go_at_call 94;refine (P2 w3 hM3.out).mono ?_;rintro e w4 ⟨v4,rfl,hE4,hM4,hg4⟩;have hr4:=heap_grown hM3.out hg4 hr3;replace hM4:=Lib.hid hM4;obtain ⟨_,kv4,rfl,_⟩:=id hE4;replace hE4:=Lib.hid hE4;obtain ⟨c0,c1,c2,c3,c4,c5⟩:=box_cells hr4;obtain ⟨d0,d1,d2,d3,d4,d5⟩:=box_free hr4;have hz4:=heap_lt hr4)
    | (go_at_call 94;refine (P1 w2 hM2.out).mono ?_;rintro e w3 ⟨v3,rfl,hE3,hM3,hg3⟩;have hr3:=heap_grown hM2.out hg3 hr2;replace hM3:=Lib.hid hM3;obtain ⟨_,kv3,rfl,_⟩:=id hE3;replace hE3:=Lib.hid hE3)
    | (go_at_call 33;refine (H10 w1 hM1.out).mono ?_;rintro e w2 ⟨rfl,hM2,hg2⟩;have hr2:=heap_grown hM1.out hg2 hr1;replace hM2:=Lib.hid hM2)
    | (go_at_call 33;refine H1.mono ?_;rintro e w1 ⟨rfl,hM1,hg1⟩;have hr1:=heap_grown HMA.out hg1 HR.out;replace hM1:=Lib.hid hM1;have hhe:=held_cell hM1.out;obtain ⟨lao,lcap,hlo,_⟩:=locals_cell hM1.out))
   have hs1:=hg1.size
   rw [alloc_size] at hs1
   have hs2:=hg2.size
   have hs3:=hg3.size
   have hs4:=hg4.size
   have hW:=(Lib.alloc_old _ (.cells #[.int .i64 t1.kind,.int .i64 t1.op,.string t1.name,.int .u64 t1.value,kv3,.int .i64 t1.at_,.int .i64 t2.kind,.int .i64 t2.op,.string t2.name,.int .u64 t2.value,kv4,.int .i64 t2.at_] 50) _ (heap_lt (put6_heap hr4 (.int .i64 3) (.int .i64 (q:Int)) (.string ⟨#[]⟩) (.int .u64 0) (.slice (some ⟨w4.heap.size,0,none⟩) 2 2) (.int .i64 0)))).trans (put6_heap hr4 (.int .i64 3) (.int .i64 (q:Int)) (.string ⟨#[]⟩) (.int .u64 0) (.slice (some ⟨w4.heap.size,0,none⟩) 2 2) (.int .i64 0))
   obtain ⟨e0,e1,e2,e3,e4,e5⟩:=box_cells hW
   exact bodyPost_ret (v:=.agg #[.int .i64 3,.int .i64 (q:Int),.string ⟨#[]⟩,.int .u64 0,.slice (some ⟨w4.heap.size,0,none⟩) 2 2,.int .i64 0]) (by simp [results,Tryz.results94,go_sem,e0,e1,e2,e3,e4,e5]) rfl (made_end_alloc hB (grownBy_trans (grownBy_trans (grownBy_trans hg1 hg2) hg3) hg4) hM4.out hr4 ⟨by simp [binT],_,rfl,kids2 (heap_alloc_new w4 _) (by omega) (by rw [alloc_size];omega) (carry_grown hE3.out hM3.out hg4 _ (by omega) (by omega)) (carry_alloc hE4.out _ (by omega) (by omega))⟩)
 · rw [hk] at H1
   clear hk
   go_enter Tryz.func94,Tryz.ntmps94
   go_wp2_with (first
    | (go_at_call 34;refine (digit_any E.thread htl _).mono ?_;rintro e w' ⟨rfl,rfl⟩)
    | (go_at_call 94;refine (P2 w3 hM3.out).mono ?_;rintro e w4 ⟨v4,rfl,hE4,hM4,hg4⟩;have hr4:=heap_grown hM3.out hg4 hr3;replace hM4:=Lib.hid hM4;obtain ⟨_,kv4,rfl,_⟩:=id hE4;replace hE4:=Lib.hid hE4;obtain ⟨c0,c1,c2,c3,c4,c5⟩:=box_cells hr4;obtain ⟨d0,d1,d2,d3,d4,d5⟩:=box_free hr4;have hz4:=heap_lt hr4)
    | (go_at_call 94;refine (P1 w2 hM2.out).mono ?_;rintro e w3 ⟨v3,rfl,hE3,hM3,hg3⟩;have hr3:=heap_grown hM2.out hg3 hr2;replace hM3:=Lib.hid hM3;obtain ⟨_,kv3,rfl,_⟩:=id hE3;replace hE3:=Lib.hid hE3)
    | (go_at_call 33;refine (H10 w1 hM1.out).mono ?_;rintro e w2 ⟨rfl,hM2,hg2⟩;have hr2:=heap_grown hM1.out hg2 hr1;replace hM2:=Lib.hid hM2)
    | (go_at_call 33;refine H1.mono ?_;rintro e w1 ⟨rfl,hM1,hg1⟩;have hr1:=heap_grown HMA.out hg1 HR.out;replace hM1:=Lib.hid hM1;have hhe:=held_cell hM1.out;obtain ⟨lao,lcap,hlo,_⟩:=locals_cell hM1.out))
   have hs1:=hg1.size
   rw [alloc_size] at hs1
   have hs2:=hg2.size
   have hs3:=hg3.size
   have hs4:=hg4.size
   have hW:=(Lib.alloc_old _ (.cells #[.int .i64 t1.kind,.int .i64 t1.op,.string t1.name,.int .u64 t1.value,kv3,.int .i64 t1.at_,.int .i64 t2.kind,.int .i64 t2.op,.string t2.name,.int .u64 t2.value,kv4,.int .i64 t2.at_] 50) _ (heap_lt (put6_heap hr4 (.int .i64 3) (.int .i64 (q:Int)) (.string ⟨#[]⟩) (.int .u64 0) (.slice (some ⟨w4.heap.size,0,none⟩) 2 2) (.int .i64 0)))).trans (put6_heap hr4 (.int .i64 3) (.int .i64 (q:Int)) (.string ⟨#[]⟩) (.int .u64 0) (.slice (some ⟨w4.heap.size,0,none⟩) 2 2) (.int .i64 0))
   obtain ⟨e0,e1,e2,e3,e4,e5⟩:=box_cells hW
   exact bodyPost_ret (v:=.agg #[.int .i64 3,.int .i64 (q:Int),.string ⟨#[]⟩,.int .u64 0,.slice (some ⟨w4.heap.size,0,none⟩) 2 2,.int .i64 0]) (by simp [results,Tryz.results94,go_sem,e0,e1,e2,e3,e4,e5]) rfl (made_end_alloc hB (grownBy_trans (grownBy_trans (grownBy_trans hg1 hg2) hg3) hg4) hM4.out hr4 ⟨by simp [binT],_,rfl,kids2 (heap_alloc_new w4 _) (by omega) (by rw [alloc_size];omega) (carry_grown hE3.out hM3.out hg4 _ (by omega) (by omega)) (carry_alloc hE4.out _ (by omega) (by omega))⟩)
 · rw [hk] at H1
   clear hk
   go_enter Tryz.func94,Tryz.ntmps94
   go_wp2_with (first
    | (go_at_call 34;refine (digit_any E.thread htl _).mono ?_;rintro e w' ⟨rfl,rfl⟩)
    | (go_at_call 94;refine (P2 w3 hM3.out).mono ?_;rintro e w4 ⟨v4,rfl,hE4,hM4,hg4⟩;have hr4:=heap_grown hM3.out hg4 hr3;replace hM4:=Lib.hid hM4;obtain ⟨_,kv4,rfl,_⟩:=id hE4;replace hE4:=Lib.hid hE4;obtain ⟨c0,c1,c2,c3,c4,c5⟩:=box_cells hr4;obtain ⟨d0,d1,d2,d3,d4,d5⟩:=box_free hr4;have hz4:=heap_lt hr4)
    | (go_at_call 94;refine (P1 w2 hM2.out).mono ?_;rintro e w3 ⟨v3,rfl,hE3,hM3,hg3⟩;have hr3:=heap_grown hM2.out hg3 hr2;replace hM3:=Lib.hid hM3;obtain ⟨_,kv3,rfl,_⟩:=id hE3;replace hE3:=Lib.hid hE3)
    | (go_at_call 33;refine (H10 w1 hM1.out).mono ?_;rintro e w2 ⟨rfl,hM2,hg2⟩;have hr2:=heap_grown hM1.out hg2 hr1;replace hM2:=Lib.hid hM2)
    | (go_at_call 33;refine H1.mono ?_;rintro e w1 ⟨rfl,hM1,hg1⟩;have hr1:=heap_grown HMA.out hg1 HR.out;replace hM1:=Lib.hid hM1;have hhe:=held_cell hM1.out;obtain ⟨lao,lcap,hlo,_⟩:=locals_cell hM1.out;rw [hh] at hhe))
   have hs1:=hg1.size
   rw [alloc_size] at hs1
   have hs2:=hg2.size
   have hs3:=hg3.size
   have hs4:=hg4.size
   have hW:=(Lib.alloc_old _ (.cells #[.int .i64 t1.kind,.int .i64 t1.op,.string t1.name,.int .u64 t1.value,kv3,.int .i64 t1.at_,.int .i64 t2.kind,.int .i64 t2.op,.string t2.name,.int .u64 t2.value,kv4,.int .i64 t2.at_] 50) _ (heap_lt (put6_heap hr4 (.int .i64 3) (.int .i64 (q:Int)) (.string ⟨#[]⟩) (.int .u64 0) (.slice (some ⟨w4.heap.size,0,none⟩) 2 2) (.int .i64 0)))).trans (put6_heap hr4 (.int .i64 3) (.int .i64 (q:Int)) (.string ⟨#[]⟩) (.int .u64 0) (.slice (some ⟨w4.heap.size,0,none⟩) 2 2) (.int .i64 0))
   obtain ⟨e0,e1,e2,e3,e4,e5⟩:=box_cells hW
   exact bodyPost_ret (v:=.agg #[.int .i64 3,.int .i64 (q:Int),.string ⟨#[]⟩,.int .u64 0,.slice (some ⟨w4.heap.size,0,none⟩) 2 2,.int .i64 0]) (by simp [results,Tryz.results94,go_sem,e0,e1,e2,e3,e4,e5]) rfl (made_end_alloc hB (grownBy_trans (grownBy_trans (grownBy_trans hg1 hg2) hg3) hg4) hM4.out hr4 ⟨by simp [binT],_,rfl,kids2 (heap_alloc_new w4 _) (by omega) (by rw [alloc_size];omega) (carry_grown hE3.out hM3.out hg4 _ (by omega) (by omega)) (carry_alloc hE4.out _ (by omega) (by omega))⟩)
 · rw [hk] at H1
   clear hk
   go_enter Tryz.func94,Tryz.ntmps94
   go_wp2_with (first
    | (go_at_call 34;refine (digit_any E.thread htl _).mono ?_;rintro e w' ⟨rfl,rfl⟩)
    | (go_at_call 94;refine (P2 w3 hM3.out).mono ?_;rintro e w4 ⟨v4,rfl,hE4,hM4,hg4⟩;have hr4:=heap_grown hM3.out hg4 hr3;replace hM4:=Lib.hid hM4;obtain ⟨_,kv4,rfl,_⟩:=id hE4;replace hE4:=Lib.hid hE4;obtain ⟨c0,c1,c2,c3,c4,c5⟩:=box_cells hr4;obtain ⟨d0,d1,d2,d3,d4,d5⟩:=box_free hr4;have hz4:=heap_lt hr4)
    | (go_at_call 94;refine (P1 w2 hM2.out).mono ?_;rintro e w3 ⟨v3,rfl,hE3,hM3,hg3⟩;have hr3:=heap_grown hM2.out hg3 hr2;replace hM3:=Lib.hid hM3;obtain ⟨_,kv3,rfl,_⟩:=id hE3;replace hE3:=Lib.hid hE3)
    | (go_at_call 33;refine (H10 w1 hM1.out).mono ?_;rintro e w2 ⟨rfl,hM2,hg2⟩;have hr2:=heap_grown hM1.out hg2 hr1;replace hM2:=Lib.hid hM2)
    | (go_at_call 33;refine H1.mono ?_;rintro e w1 ⟨rfl,hM1,hg1⟩;have hr1:=heap_grown HMA.out hg1 HR.out;replace hM1:=Lib.hid hM1;have hhe:=held_cell hM1.out;obtain ⟨lao,lcap,hlo,_⟩:=locals_cell hM1.out;rw [hl] at hlo))
   have hs1:=hg1.size
   rw [alloc_size] at hs1
   have hs2:=hg2.size
   have hs3:=hg3.size
   have hs4:=hg4.size
   have hW:=(Lib.alloc_old _ (.cells #[.int .i64 t1.kind,.int .i64 t1.op,.string t1.name,.int .u64 t1.value,kv3,.int .i64 t1.at_,.int .i64 t2.kind,.int .i64 t2.op,.string t2.name,.int .u64 t2.value,kv4,.int .i64 t2.at_] 50) _ (heap_lt (put6_heap hr4 (.int .i64 3) (.int .i64 (q:Int)) (.string ⟨#[]⟩) (.int .u64 0) (.slice (some ⟨w4.heap.size,0,none⟩) 2 2) (.int .i64 0)))).trans (put6_heap hr4 (.int .i64 3) (.int .i64 (q:Int)) (.string ⟨#[]⟩) (.int .u64 0) (.slice (some ⟨w4.heap.size,0,none⟩) 2 2) (.int .i64 0))
   obtain ⟨e0,e1,e2,e3,e4,e5⟩:=box_cells hW
   exact bodyPost_ret (v:=.agg #[.int .i64 3,.int .i64 (q:Int),.string ⟨#[]⟩,.int .u64 0,.slice (some ⟨w4.heap.size,0,none⟩) 2 2,.int .i64 0]) (by simp [results,Tryz.results94,go_sem,e0,e1,e2,e3,e4,e5]) rfl (made_end_alloc hB (grownBy_trans (grownBy_trans (grownBy_trans hg1 hg2) hg3) hg4) hM4.out hr4 ⟨by simp [binT],_,rfl,kids2 (heap_alloc_new w4 _) (by omega) (by rw [alloc_size];omega) (carry_grown hE3.out hM3.out hg4 _ (by omega) (by omega)) (carry_alloc hE4.out _ (by omega) (by omega))⟩)
def MadeT (B bm:Nat) (E:Env) (n:Nat) (w:World) (tn:Tree × List UInt8) (arr:ByteArray) (e:Ending) (w':World):Prop:=
 ∃ v,e=.returned (.tuple #[.string arr,v])/\ERep w.heap.size w'.heap.size w' n v tn.1/\MakerAt B bm E tn.2 w'/\w.grownBy w' (some bm)
theorem made_tuple {B bm:Nat} {E:Env} {n:Nat} {w w':World} {tn:Tree × List UInt8} {v:Value} (arr:ByteArray) (h:Made B bm E n w tn (.returned v) w'):MadeT B bm E n w tn arr (.returned (.tuple #[.string arr,v])) w':=by
 obtain ⟨v',e,h⟩:=h
 cases e
 exact ⟨v,rfl,h⟩
def zeroM (E:Env) (ns:List UInt8):Tree × List UInt8:=match counterUpto E E.loc.length with | some s=>(nameT s,ns.tail) | none=>(litT (nxV ns.tail 4),ns.tail.tail)
def CellC (E:Env) (f:Nat):Prop:=∀ (B bm:Nat) (ns:List UInt8) (deep:Nat) (arr:ByteArray) (w:World),4<=deep+f->deep<=99->MakerAt B bm E ns w ->
 Calls Tryz.prog 95 #[.pointer (some ⟨bm,0,none⟩),.string arr,.int .i64 deep] w (MadeT B bm E (2*f+2) w (placeM (pubM E f) E deep ns) arr)
theorem cellOf_two (B bm:Nat) (E:Env) (n deep:Nat) (arr:ByteArray) (ns:List UInt8) (w:World) (hM:MakerAt B bm E ns w) (hd:deep<=99) (hcase:nxV ns 3=2):
    Calls Tryz.prog 95 #[.pointer (some ⟨bm,0,none⟩),.string arr,.int .i64 deep] w (MadeT B bm E (n+1) w (litT (nxV ns.tail 4),ns.tail.tail) arr):=by
 have hB:=hM.base
 have hbm:=hM.lt
 have hMA:=hM.alloc zeroE
 have H1:=next_any B bm E ns 3 _ hMA (by omega) (by omega)
 have HR:=Lib.hid (zeroE_at w)
 have HM:=Lib.hid hM
 have HMA:=Lib.hid hMA
 have H4:=fun w' h=>next_any B bm E ns.tail 4 w' h (by omega) (by omega)
 have hlt:=nxV_lt ns.tail 4 (by omega)
 obtain ⟨q,hq⟩:∃ q,q=nxV ns.tail 4:=⟨_,rfl⟩
 rw [<- hq] at H4 hlt ⊢
 rw [hcase] at H1
 clear hcase hq hM hMA
 go_enter Tryz.func95,Tryz.ntmps95
 go_wp2_with (first
    | (go_at_call 126;refine (literal_any bm q (by omega) w2).mono ?_;rintro e w3 ⟨rfl,hb3⟩;have hr3:=(hb3.block _ (heap_lt hr2)).trans hr2;obtain ⟨c0,c1,c2,c3,c4,c5⟩:=box_cells hr3;obtain ⟨d0,d1,d2,d3,d4,d5⟩:=box_free hr3;have hz3:=heap_lt hr3)
    | (go_at_call 33;refine (H4 w1 hM1.out).mono ?_;rintro e w2 ⟨rfl,hM2,hg2⟩;have hr2:=heap_grown hM1.out hg2 hr1;replace hM2:=Lib.hid hM2)
    | (go_at_call 33;refine H1.mono ?_;rintro e w1 ⟨rfl,hM1,hg1⟩;have hr1:=heap_grown HMA.out hg1 HR.out;replace hM1:=Lib.hid hM1))
 have hW:=put6_heap hr3 (.int .i64 0) (.int .i64 0) (.string ⟨#[]⟩) (.int .u64 (q:Int)) (.slice none 0 0) (.int .i64 0)
 obtain ⟨e0,e1,e2,e3,e4,e5⟩:=box_cells hW
 exact bodyPost_ret (v:=.tuple #[.string arr,.agg #[.int .i64 0,.int .i64 0,.string ⟨#[]⟩,.int .u64 (q:Int),.slice none 0 0,.int .i64 0]]) (by simp [results,Tryz.results95,go_sem,e0,e1,e2,e3,e4,e5]) rfl (made_tuple arr (made_end hB (grownBy_trans (grownBy_trans hg1 hg2) (grownBy_below hb3)) (hM2.out.below hb3) hr3 (erep_lit (by omega))))
theorem cellOf_one (B bm:Nat) (E:Env) (f deep:Nat) (arr:ByteArray) (ns:List UInt8) (w:World) (hM:MakerAt B bm E ns w) (hd:deep<=99) (ih:PubC E f) (hf:4<=deep+f) (hcase:nxV ns 3=1):
    Calls Tryz.prog 95 #[.pointer (some ⟨bm,0,none⟩),.string arr,.int .i64 deep] w (MadeT B bm E (2*f+2) w (binT 3 (pubM E f (deep+1) ns.tail).1 (litT 3),(pubM E f (deep+1) ns.tail).2) arr):=by
 have hB:=hM.base
 have hbm:=hM.lt
 have hMA:=hM.alloc zeroE
 have H1:=next_any B bm E ns 3 _ hMA (by omega) (by omega)
 have HR:=Lib.hid (zeroE_at w)
 have HM:=Lib.hid hM
 have HMA:=Lib.hid hMA
 rw [hcase] at H1
 obtain ⟨t1,n1,hp1⟩:∃ t n,pubM E f (deep+1) ns.tail=(t,n):=⟨_,_,rfl⟩
 have P1:=ih.at B bm deep _ _ _ (by omega) (by omega) hp1
 rw [hp1]
 clear hcase hp1 hM hMA
 go_enter Tryz.func95,Tryz.ntmps95
 go_wp2_with (first
    | (go_at_call 126;refine (literal_any bm 3 (by omega) w2).mono ?_;rintro e w3 ⟨rfl,hb3⟩;have hr3:=(hb3.block _ (heap_lt hr2)).trans hr2;obtain ⟨c0,c1,c2,c3,c4,c5⟩:=box_cells hr3;obtain ⟨d0,d1,d2,d3,d4,d5⟩:=box_free hr3;have hz3:=heap_lt hr3)
    | (go_at_call 94;refine (P1 w1 hM1.out).mono ?_;rintro e w2 ⟨v2,rfl,hE2,hM2,hg2⟩;have hr2:=heap_grown hM1.out hg2 hr1;replace hM2:=Lib.hid hM2;obtain ⟨_,kv2,rfl,_⟩:=id hE2;replace hE2:=Lib.hid hE2)
    | (go_at_call 33;refine H1.mono ?_;rintro e w1 ⟨rfl,hM1,hg1⟩;have hr1:=heap_grown HMA.out hg1 HR.out;replace hM1:=Lib.hid hM1))
 have hs1:=hg1.size
 rw [alloc_size] at hs1
 have hs2:=hg2.size
 have hs3:=hb3.size
 have hW:=(Lib.alloc_old _ (.cells #[.int .i64 t1.kind,.int .i64 t1.op,.string t1.name,.int .u64 t1.value,kv2,.int .i64 t1.at_,.int .i64 0,.int .i64 0,.string ⟨#[]⟩,.int .u64 3,.slice none 0 0,.int .i64 0] 50) _ (heap_lt (put6_heap hr3 (.int .i64 3) (.int .i64 3) (.string ⟨#[]⟩) (.int .u64 0) (.slice (some ⟨w3.heap.size,0,none⟩) 2 2) (.int .i64 0)))).trans (put6_heap hr3 (.int .i64 3) (.int .i64 3) (.string ⟨#[]⟩) (.int .u64 0) (.slice (some ⟨w3.heap.size,0,none⟩) 2 2) (.int .i64 0))
 obtain ⟨e0,e1,e2,e3,e4,e5⟩:=box_cells hW
 exact bodyPost_ret (v:=.tuple #[.string arr,.agg #[.int .i64 3,.int .i64 3,.string ⟨#[]⟩,.int .u64 0,.slice (some ⟨w3.heap.size,0,none⟩) 2 2,.int .i64 0]]) (by simp [results,Tryz.results95,go_sem,e0,e1,e2,e3,e4,e5]) rfl (made_tuple arr (made_end_alloc hB (grownBy_trans (grownBy_trans hg1 hg2) (grownBy_below hb3)) (hM2.out.below hb3) hr3 ⟨by simp [binT],_,rfl,kids2 (heap_alloc_new w3 _) (by omega) (by rw [alloc_size];omega) (carry_alloc (hE2.out.mono hb3.size hb3) _ (by omega) (by omega)) (erep_lit (n:=2*f) (v:=3) (by omega))⟩))
theorem cellOf_zero (B bm:Nat) (E:Env) (n deep:Nat) (arr:ByteArray) (ns:List UInt8) (w:World) (hM:MakerAt B bm E ns w) (hd:deep<=99) (hcase:nxV ns 3=0) (tn:Tree × List UInt8) (ht:Hid (tn=zeroM E ns)):
    Calls Tryz.prog 95 #[.pointer (some ⟨bm,0,none⟩),.string arr,.int .i64 deep] w (MadeT B bm E (n+1) w tn arr):=by
 have hB:=hM.base
 have hbm:=hM.lt
 have hMA:=hM.alloc zeroE
 have H1:=next_any B bm E ns 3 _ hMA (by omega) (by omega)
 have HR:=Lib.hid (zeroE_at w)
 have HM:=Lib.hid hM
 have HMA:=Lib.hid hMA
 have H4:=fun w' h=>next_any B bm E ns.tail 4 w' h (by omega) (by omega)
 have hlt:=nxV_lt ns.tail 4 (by omega)
 obtain ⟨q,hq⟩:∃ q,q=nxV ns.tail 4:=⟨_,rfl⟩
 rw [<- hq] at H4 hlt
 rw [hcase] at H1
 have hll:=loc_le hM
 have Hq:=Lib.hid hq
 clear hcase hq hM hMA
 go_enter Tryz.func95,Tryz.ntmps95
 go_wp2_with (first
    | (go_at_call 33;refine H1.mono ?_;rintro e w1 ⟨rfl,hM1,hg1⟩;have hr1:=heap_grown HMA.out hg1 HR.out;replace hM1:=Lib.hid hM1;obtain ⟨lao,lcap,hlc,hli⟩:=locals_cell hM1.out;obtain ⟨cao,ccap,hcc,hci⟩:=count_cell hM1.out;replace hli:=Lib.hid hli;replace hci:=Lib.hid hci;generalize hL:E.loc.length=L at *;replace hL:=Lib.hid hL))
 go_loop [8] (fun i=>∃ j:Nat,j<=L/\i=.int .i64 ((j:Int)-1)/\Hid (counterUpto E L=counterUpto E j)) (fun i=>(intOf i+1).toNat)
 case atStart=>exact ⟨L,Nat.le_refl _,rfl,rfl⟩
 case round=>
    obtain ⟨j,hj,rfl,hcu⟩:=hrel
    cases j with
    | zero=>
      have hnone:counterUpto E L=none:=hcu.out
      obtain rfl:tn=(litT q,ns.tail.tail):=by rw [ht.out,zeroM,hL.out,hnone,Hq.out]
      clear hnone ht
      go_wp2_with (first
        | (go_at_call 126;refine (literal_any bm q (by omega) w2).mono ?_;rintro e w3 ⟨rfl,hb3⟩;have hr3:=(hb3.block _ (heap_lt hr2)).trans hr2;obtain ⟨c0,c1,c2,c3,c4,c5⟩:=box_cells hr3;obtain ⟨d0,d1,d2,d3,d4,d5⟩:=box_free hr3;have hz3:=heap_lt hr3)
        | (go_at_call 33;refine (H4 w1 hM1.out).mono ?_;rintro e w2 ⟨rfl,hM2,hg2⟩;have hr2:=heap_grown hM1.out hg2 hr1;replace hM2:=Lib.hid hM2))
      have hW:=put6_heap hr3 (.int .i64 0) (.int .i64 0) (.string ⟨#[]⟩) (.int .u64 (q:Int)) (.slice none 0 0) (.int .i64 0)
      obtain ⟨e0,e1,e2,e3,e4,e5⟩:=box_cells hW
      exact bodyPost_ret (v:=.tuple #[.string arr,.agg #[.int .i64 0,.int .i64 0,.string ⟨#[]⟩,.int .u64 (q:Int),.slice none 0 0,.int .i64 0]]) (by simp [results,Tryz.results95,go_sem,e0,e1,e2,e3,e4,e5]) rfl (made_tuple arr (made_end hB (grownBy_trans (grownBy_trans hg1 hg2) (grownBy_below hb3)) (hM2.out.below hb3) hr3 (erep_lit (by omega))))
    | succ j=>
      obtain ⟨cg,rfl,hcv⟩:=hci.out j (by omega)
      obtain ⟨lg,rfl,hlv⟩:=hli.out j (by omega)
      have hstep:Hid (counterUpto E (j+1)=if 0<E.cnt.getD j 0/\E.cnt.getD j 0<=4 then some (E.loc.getD j ⟨#[]⟩) else counterUpto E j):=rfl
      generalize E.cnt.getD j 0=c at *
      generalize E.loc.getD j ⟨#[]⟩=s at *
      have ej:(((j+1:Nat):Int)-1)=(j:Int):=by omega
      rw [ej]
      by_cases hc:0<c
      · by_cases hc4:c<=4
        · have hsome:counterUpto E L=some s:=by rw [hcu.out,hstep.out,if_pos ⟨hc,hc4⟩]
          obtain rfl:tn=(nameT s,ns.tail):=by rw [ht.out,zeroM,hL.out,hsome]
          clear hsome ht
          go_wp2_with (first
           | (go_at_call 125;refine (name_any _ w1).mono ?_;rintro e w3 ⟨rfl,hb3⟩;have hr3:=(hb3.block _ (heap_lt hr1)).trans hr1;obtain ⟨c0,c1,c2,c3,c4,c5⟩:=box_cells hr3;obtain ⟨d0,d1,d2,d3,d4,d5⟩:=box_free hr3;have hz3:=heap_lt hr3))
          have hW:=put6_heap hr3 (.int .i64 1) (.int .i64 0) (.string (s)) (.int .u64 0) (.slice none 0 0) (.int .i64 0)
          obtain ⟨e0,e1,e2,e3,e4,e5⟩:=box_cells hW
          exact bodyPost_ret (v:=.tuple #[.string arr,.agg #[.int .i64 1,.int .i64 0,.string (s),.int .u64 0,.slice none 0 0,.int .i64 0]]) (by simp [results,Tryz.results95,go_sem,e0,e1,e2,e3,e4,e5]) rfl (made_tuple arr (made_end hB (grownBy_trans hg1 (grownBy_below hb3)) (hM1.out.below hb3) hr3 (erep_name _)))
        · have hcu2:Hid (counterUpto E L=counterUpto E j):=by show _=_;rw [hcu.out,hstep.out,if_neg (by omega)]
          go_wp2
          go_round
          case rel=>exact ⟨j,by omega,by go_num,hcu2⟩
          case measure=>simp [intOf]
      · have hcu2:Hid (counterUpto E L=counterUpto E j):=by show _=_;rw [hcu.out,hstep.out,if_neg (by omega)]
        go_wp2
        go_round
        case rel=>exact ⟨j,by omega,by go_num,hcu2⟩
        case measure=>simp [intOf]
theorem cellOf_all {E:Env} {f:Nat} (ih:PubC E f):CellC E f:=fun B bm ns deep arr w hf hd hM=>by
 have hlt:=nxV_lt ns 3 (by omega)
 by_cases h0:nxV ns 3=0
 · have e:placeM (pubM E f) E deep ns=zeroM E ns:=by unfold placeM zeroM;rw [if_pos h0];rfl
   rw [e]
   exact cellOf_zero B bm E (2*f+1) deep arr ns w hM hd h0 _ rfl
 · by_cases h1:nxV ns 3=1
   · have e:placeM (pubM E f) E deep ns=(binT 3 (pubM E f (deep+1) ns.tail).1 (litT 3),(pubM E f (deep+1) ns.tail).2):=by unfold placeM;rw [if_neg h0,if_pos h1]
     rw [e]
     exact cellOf_one B bm E f deep arr ns w hM hd ih hf h1
   · have e:placeM (pubM E f) E deep ns=(litT (nxV ns.tail 4),ns.tail.tail):=by unfold placeM;rw [if_neg h0,if_neg h1]
     rw [e]
     exact cellOf_two B bm E (2*f+1) deep arr ns w hM hd (by omega)
theorem put6_alloc {w:World} {r:Nat} {u0 u1 u2 u3 u4 u5:Value} {o:Obj} (hr:r<w.heap.size):put6 (w.alloc o) r u0 u1 u2 u3 u4 u5=(put6 w r u0 u1 u2 u3 u4 u5).alloc o:=by
 have key:∀ (w:World) (j:Nat) (u:Value),r<w.heap.size->(w.alloc o).setCell ⟨r,j,none⟩ u=(w.setCell ⟨r,j,none⟩ u).alloc o/\r<(w.setCell ⟨r,j,none⟩ u).heap.size:=fun w j u h=>⟨World.setCell_alloc_past o r j u h,by simpa [World.setCell] using h⟩
 obtain ⟨a0,b0⟩:=key w 0 u0 hr
 obtain ⟨a1,b1⟩:=key _ 1 u1 b0
 obtain ⟨a2,b2⟩:=key _ 2 u2 b1
 obtain ⟨a3,b3⟩:=key _ 3 u3 b2
 obtain ⟨a4,b4⟩:=key _ 4 u4 b3
 obtain ⟨a5,b5⟩:=key _ 5 u5 b4
 rw [put6,put6,a0,a1,a2,a3,a4,a5]
theorem public_cell (B bm:Nat) (E:Env) (f deep:Nat) (ns:List UInt8) (w:World) (hM:MakerAt B bm E ns w) (hd:deep<=100) (ih:PubC E f) (hf:5<=deep+(f+1)) (h3:¬ 3<deep) (hcase:nxV ns 8=3):
    Calls Tryz.prog 94 #[.pointer (some ⟨bm,0,none⟩),.int .i64 deep] w (Made B bm E (2*(f+1)+1) w (cellT (dig 113 E) (placeM (pubM E f) E deep ns.tail).1,(placeM (pubM E f) E deep ns.tail).2)):=by
 have hB:=hM.base
 have hbm:=hM.lt
 have hMA:=hM.alloc zeroE
 have hth:=thread_cell hM
 have htl:=thread_le hM
 have H1:=next_any B bm E ns 8 _ hMA (by omega) (by omega)
 have HR:=Lib.hid (zeroE_at w)
 have HM:=Lib.hid hM
 have HMA:=Lib.hid hMA
 have hcat:=cat2 113 (digitB E.thread)
 obtain ⟨t1,n1,hp1⟩:∃ t n,placeM (pubM E f) E deep ns.tail=(t,n):=⟨_,_,rfl⟩
 have C1:=fun w' h=>cellOf_all ih B bm ns.tail deep ⟨#[113,digitB E.thread]⟩ w' (by omega) (by omega) h
 rw [hp1] at C1 ⊢
 unfold dig
 rw [hcase] at H1
 clear hcase hp1 hM hMA
 go_enter Tryz.func94,Tryz.ntmps94
 go_wp2_with (first
    | (go_at_call 34;refine (digit_any E.thread htl _).mono ?_;rintro e w' ⟨rfl,rfl⟩)
    | (go_at_call 95;refine (C1 w1 hM1.out).mono ?_;rintro e w2 ⟨v2,rfl,hE2,hM2,hg2⟩;have hr2:=heap_grown hM1.out hg2 hr1;replace hM2:=Lib.hid hM2;obtain ⟨_,kv2,rfl,kao2,kcap2,rfl,_,_⟩:=id hE2;replace hE2:=Lib.hid hE2;obtain ⟨c0,c1,c2,c3,c4,c5⟩:=box_cells hr2;obtain ⟨d0,d1,d2,d3,d4,d5⟩:=box_free hr2;have hz2:=heap_lt hr2)
    | (go_at_call 33;refine H1.mono ?_;rintro e w1 ⟨rfl,hM1,hg1⟩;have hr1:=heap_grown HMA.out hg1 HR.out;replace hM1:=Lib.hid hM1))
 have hs1:=hg1.size
 rw [alloc_size] at hs1
 have hs2:=hg2.size
 have hW0:=put6_heap hr2 (.int .i64 2) (.int .i64 0) (.string ⟨#[113,digitB E.thread]⟩) (.int .u64 0) (.slice (some ⟨w2.heap.size+1,0,none⟩) 1 1) (.int .i64 0)
 have hW1:=(Lib.alloc_old _ (.cells #[.int .i64 t1.kind,.int .i64 t1.op,.string t1.name,.int .u64 t1.value,.slice kao2 t1.kids.length kcap2,.int .i64 t1.at_] 50) _ (heap_lt hW0)).trans hW0
 have hW:=(Lib.alloc_old _ (.cells #[.int .i64 t1.kind,.int .i64 t1.op,.string t1.name,.int .u64 t1.value,.slice kao2 t1.kids.length kcap2,.int .i64 t1.at_] 50) _ (heap_lt hW1)).trans hW1
 obtain ⟨e0,e1,e2,e3,e4,e5⟩:=box_cells hW
 have hMade:Made B bm E (2*(f+1)+1) w (cellT ⟨#[113,digitB E.thread]⟩ t1,n1) (.returned (.agg #[.int .i64 2,.int .i64 0,.string ⟨#[113,digitB E.thread]⟩,.int .u64 0,.slice (some ⟨w2.heap.size+1,0,none⟩) 1 1,.int .i64 0])) (((put6 w2 w.heap.size (.int .i64 2) (.int .i64 0) (.string ⟨#[113,digitB E.thread]⟩) (.int .u64 0) (.slice (some ⟨w2.heap.size+1,0,none⟩) 1 1) (.int .i64 0)).alloc (.cells #[.int .i64 t1.kind,.int .i64 t1.op,.string t1.name,.int .u64 t1.value,.slice kao2 t1.kids.length kcap2,.int .i64 t1.at_] 50)).alloc (.cells #[.int .i64 t1.kind,.int .i64 t1.op,.string t1.name,.int .u64 t1.value,.slice kao2 t1.kids.length kcap2,.int .i64 t1.at_] 50)):=by
    rw [<- put6_alloc hz2]
    exact made_end_alloc hB (grownBy_trans (grownBy_trans hg1 hg2) (World.grownBy_alloc w2 _ _)) (hM2.out.alloc _) ((Lib.alloc_old _ _ _ hz2).trans hr2) ⟨by simp [cellT],_,rfl,kids1 (by have:=heap_alloc_new (w2.alloc (.cells #[.int .i64 t1.kind,.int .i64 t1.op,.string t1.name,.int .u64 t1.value,.slice kao2 t1.kids.length kcap2,.int .i64 t1.at_] 50)) (.cells #[.int .i64 t1.kind,.int .i64 t1.op,.string t1.name,.int .u64 t1.value,.slice kao2 t1.kids.length kcap2,.int .i64 t1.at_] 50);rwa [alloc_size] at this) (by omega) (by rw [alloc_size,alloc_size];omega) (carry_alloc (hE2.out.mono (by rw [alloc_size];omega) ((Below.refl _ _).alloc (Nat.le_refl _) _)) _ (by omega) (by omega))⟩
 exact bodyPost_ret (v:=.agg #[.int .i64 2,.int .i64 0,.string ⟨#[113,digitB E.thread]⟩,.int .u64 0,.slice (some ⟨w2.heap.size+1,0,none⟩) 1 1,.int .i64 0]) (by simp [results,Tryz.results94,go_sem,e0,e1,e2,e3,e4,e5]) rfl hMade
theorem public_not (B bm:Nat) (E:Env) (f deep:Nat) (ns:List UInt8) (w:World) (hM:MakerAt B bm E ns w) (hd:deep<=100) (ih:PubC E f) (hf:5<=deep+(f+1)) (h3:¬ 3<deep) (hcase:nxV ns 8=5):
    Calls Tryz.prog 94 #[.pointer (some ⟨bm,0,none⟩),.int .i64 deep] w (Made B bm E (2*(f+1)+1) w (notT (pubM E f (deep+1) ns.tail).1,(pubM E f (deep+1) ns.tail).2)):=by
 have hB:=hM.base
 have hbm:=hM.lt
 have hMA:=hM.alloc zeroE
 have hth:=thread_cell hM
 have htl:=thread_le hM
 have H1:=next_any B bm E ns 8 _ hMA (by omega) (by omega)
 have HR:=Lib.hid (zeroE_at w)
 have HM:=Lib.hid hM
 have HMA:=Lib.hid hMA
 obtain ⟨t1,n1,hp1⟩:∃ t n,pubM E f (deep+1) ns.tail=(t,n):=⟨_,_,rfl⟩
 have P1:=ih.at B bm deep _ _ _ (by omega) (by omega) hp1
 rw [hp1]
 rw [hcase] at H1
 clear hcase hp1 hM hMA
 go_enter Tryz.func94,Tryz.ntmps94
 go_wp2_with (first
    | (go_at_call 34;refine (digit_any E.thread htl _).mono ?_;rintro e w' ⟨rfl,rfl⟩)
    | (go_at_call 94;refine (P1 w1 hM1.out).mono ?_;rintro e w2 ⟨v2,rfl,hE2,hM2,hg2⟩;have hr2:=heap_grown hM1.out hg2 hr1;replace hM2:=Lib.hid hM2;obtain ⟨_,kv2,rfl,_⟩:=id hE2;replace hE2:=Lib.hid hE2;obtain ⟨c0,c1,c2,c3,c4,c5⟩:=box_cells hr2;obtain ⟨d0,d1,d2,d3,d4,d5⟩:=box_free hr2;have hz2:=heap_lt hr2)
    | (go_at_call 33;refine H1.mono ?_;rintro e w1 ⟨rfl,hM1,hg1⟩;have hr1:=heap_grown HMA.out hg1 HR.out;replace hM1:=Lib.hid hM1))
 have hs1:=hg1.size
 rw [alloc_size] at hs1
 have hs2:=hg2.size
 have hW:=(Lib.alloc_old _ (.cells #[.int .i64 t1.kind,.int .i64 t1.op,.string t1.name,.int .u64 t1.value,kv2,.int .i64 t1.at_] 50) _ (heap_lt (put6_heap hr2 (.int .i64 4) (.int .i64 0) (.string ⟨#[]⟩) (.int .u64 0) (.slice (some ⟨w2.heap.size,0,none⟩) 1 1) (.int .i64 0)))).trans (put6_heap hr2 (.int .i64 4) (.int .i64 0) (.string ⟨#[]⟩) (.int .u64 0) (.slice (some ⟨w2.heap.size,0,none⟩) 1 1) (.int .i64 0))
 obtain ⟨e0,e1,e2,e3,e4,e5⟩:=box_cells hW
 exact bodyPost_ret (v:=.agg #[.int .i64 4,.int .i64 0,.string ⟨#[]⟩,.int .u64 0,.slice (some ⟨w2.heap.size,0,none⟩) 1 1,.int .i64 0]) (by simp [results,Tryz.results94,go_sem,e0,e1,e2,e3,e4,e5]) rfl (made_end_alloc hB (grownBy_trans hg1 hg2) hM2.out hr2 ⟨by simp [notT],_,rfl,kids1 (heap_alloc_new w2 _) (by omega) (by rw [alloc_size];omega) (carry_alloc hE2.out _ (by omega) (by omega))⟩)
theorem public_local (B bm:Nat) (E:Env) (n deep:Nat) (ns:List UInt8) (w:World) (hM:MakerAt B bm E ns w) (hd:deep<=100) (h3:¬ 3<deep) (hcase:nxV ns 8=4) (hl0:0<E.loc.length) (hsec:E.sec.getD (nxV ns.tail E.loc.length) false=false):
    Calls Tryz.prog 94 #[.pointer (some ⟨bm,0,none⟩),.int .i64 deep] w (Made B bm E (n+1) w (nameT (E.loc.getD (nxV ns.tail E.loc.length) ⟨#[]⟩),ns.tail.tail)):=by
 have hB:=hM.base
 have hbm:=hM.lt
 have hMA:=hM.alloc zeroE
 have hth:=thread_cell hM
 have htl:=thread_le hM
 have H1:=next_any B bm E ns 8 _ hMA (by omega) (by omega)
 have HR:=Lib.hid (zeroE_at w)
 have HM:=Lib.hid hM
 have HMA:=Lib.hid hMA
 have hll:=loc_le hM
 have HL:=fun w' h=>next_any B bm E ns.tail E.loc.length w' h hl0 (by omega)
 obtain ⟨j,hj0⟩:∃ j,j=nxV ns.tail E.loc.length:=⟨_,rfl⟩
 have hj:=nxV_lt ns.tail E.loc.length hl0
 rw [<- hj0] at HL hj hsec ⊢
 rw [hcase] at H1
 generalize hs:E.loc.getD j ⟨#[]⟩=s
 have Hs:=Lib.hid hs
 clear hcase hj0 hM hMA hs
 go_enter Tryz.func94,Tryz.ntmps94
 go_wp2_with (first
    | (go_at_call 34;refine (digit_any E.thread htl _).mono ?_;rintro e w' ⟨rfl,rfl⟩)
    | (go_at_call 125;refine (name_any _ w2).mono ?_;rintro e w3 ⟨rfl,hb3⟩;have hr3:=(hb3.block _ (heap_lt hr2)).trans hr2;obtain ⟨c0,c1,c2,c3,c4,c5⟩:=box_cells hr3;obtain ⟨d0,d1,d2,d3,d4,d5⟩:=box_free hr3;have hz3:=heap_lt hr3)
    | (go_at_call 33;refine (HL w1 hM1.out).mono ?_;rintro e w2 ⟨rfl,hM2,hg2⟩;have hr2:=heap_grown hM1.out hg2 hr1;replace hM2:=Lib.hid hM2;obtain ⟨sao,scap,hsc,hsi⟩:=secret_cell hM2.out;obtain ⟨sg,rfl,hsv⟩:=hsi j hj;rw [hsec] at hsv;obtain ⟨lao,lcap,hlc,hli⟩:=locals_cell hM2.out;obtain ⟨lg,rfl,hlv⟩:=hli j hj;rw [Hs.out] at hlv;clear hsi hli)
    | (go_at_call 33;refine H1.mono ?_;rintro e w1 ⟨rfl,hM1,hg1⟩;have hr1:=heap_grown HMA.out hg1 HR.out;replace hM1:=Lib.hid hM1;obtain ⟨lao1,lcap1,hlc1,_⟩:=locals_cell hM1.out))
 have hW:=put6_heap hr3 (.int .i64 1) (.int .i64 0) (.string (s)) (.int .u64 0) (.slice none 0 0) (.int .i64 0)
 obtain ⟨e0,e1,e2,e3,e4,e5⟩:=box_cells hW
 exact bodyPost_ret (v:=.agg #[.int .i64 1,.int .i64 0,.string (s),.int .u64 0,.slice none 0 0,.int .i64 0]) (by simp [results,Tryz.results94,go_sem,e0,e1,e2,e3,e4,e5]) rfl (made_end hB (grownBy_trans (grownBy_trans hg1 hg2) (grownBy_below hb3)) (hM2.out.below hb3) hr3 (erep_name _))
theorem public_locbin (B bm:Nat) (E:Env) (f deep:Nat) (ns:List UInt8) (w:World) (hM:MakerAt B bm E ns w) (hd:deep<=100) (ih:PubC E f) (hf:5<=deep+(f+1)) (h3:¬ 3<deep) (hcase:nxV ns 8=4) (hl0:0<E.loc.length) (hsec:E.sec.getD (nxV ns.tail E.loc.length) false=true):
    Calls Tryz.prog 94 #[.pointer (some ⟨bm,0,none⟩),.int .i64 deep] w (Made B bm E (2*(f+1)+1) w (binM (pubM E f) deep ns.tail.tail)):=by
 have hB:=hM.base
 have hbm:=hM.lt
 have hMA:=hM.alloc zeroE
 have hth:=thread_cell hM
 have htl:=thread_le hM
 have H1:=next_any B bm E ns 8 _ hMA (by omega) (by omega)
 have HR:=Lib.hid (zeroE_at w)
 have HM:=Lib.hid hM
 have HMA:=Lib.hid hMA
 have hll:=loc_le hM
 have HL:=fun w' h=>next_any B bm E ns.tail E.loc.length w' h hl0 (by omega)
 obtain ⟨j,hj0⟩:∃ j,j=nxV ns.tail E.loc.length:=⟨_,rfl⟩
 have hj:=nxV_lt ns.tail E.loc.length hl0
 rw [<- hj0] at HL hj hsec
 rw [hcase] at H1
 clear hcase hj0
 have H10:=fun w' h=>next_any B bm E (ns.tail.tail) 10 w' h (by omega) (by omega)
 obtain ⟨t1,n1,hp1⟩:∃ t n,pubM E f (deep+1) (ns.tail.tail).tail=(t,n):=⟨_,_,rfl⟩
 obtain ⟨t2,n2,hp2⟩:∃ t n,pubM E f (deep+1) n1=(t,n):=⟨_,_,rfl⟩
 have P1:=ih.at B bm deep _ _ _ (by omega) (by omega) hp1
 have P2:=ih.at B bm deep _ _ _ (by omega) (by omega) hp2
 have hbin:binM (pubM E f) deep (ns.tail.tail)=(binT (nxV (ns.tail.tail) 10) t1 t2,n2):=by simp only [binM,hp1,hp2]
 rw [hbin]
 obtain ⟨q,hq⟩:∃ q,q=nxV (ns.tail.tail) 10:=⟨_,rfl⟩
 rw [<- hq] at H10 ⊢
 clear hbin hp1 hp2 hq hM hMA
 go_enter Tryz.func94,Tryz.ntmps94
 go_wp2_with (first
    | (go_at_call 34;refine (digit_any E.thread htl _).mono ?_;rintro e w' ⟨rfl,rfl⟩)
    | (go_at_call 94;refine (P2 w4 hM4.out).mono ?_;rintro e w5 ⟨v5,rfl,hE5,hM5,hg5⟩;have hr5:=heap_grown hM4.out hg5 hr4;replace hM5:=Lib.hid hM5;obtain ⟨_,kv5,rfl,_⟩:=id hE5;replace hE5:=Lib.hid hE5;obtain ⟨c0,c1,c2,c3,c4,c5⟩:=box_cells hr5;obtain ⟨d0,d1,d2,d3,d4,d5⟩:=box_free hr5;have hz5:=heap_lt hr5)
    | (go_at_call 94;refine (P1 w3 hM3.out).mono ?_;rintro e w4 ⟨v4,rfl,hE4,hM4,hg4⟩;have hr4:=heap_grown hM3.out hg4 hr3;replace hM4:=Lib.hid hM4;obtain ⟨_,kv4,rfl,_⟩:=id hE4;replace hE4:=Lib.hid hE4)
    | (go_at_call 33;refine (H10 w2 hM2.out).mono ?_;rintro e w3 ⟨rfl,hM3,hg3⟩;have hr3:=heap_grown hM2.out hg3 hr2;replace hM3:=Lib.hid hM3)
    | (go_at_call 33;refine (HL w1 hM1.out).mono ?_;rintro e w2 ⟨rfl,hM2,hg2⟩;have hr2:=heap_grown hM1.out hg2 hr1;replace hM2:=Lib.hid hM2;obtain ⟨sao,scap,hsc,hsi⟩:=secret_cell hM2.out;obtain ⟨sg,rfl,hsv⟩:=hsi j hj;rw [hsec] at hsv)
    | (go_at_call 33;refine H1.mono ?_;rintro e w1 ⟨rfl,hM1,hg1⟩;have hr1:=heap_grown HMA.out hg1 HR.out;replace hM1:=Lib.hid hM1;obtain ⟨lao1,lcap1,hlc1,_⟩:=locals_cell hM1.out))
 have hs1:=hg1.size
 rw [alloc_size] at hs1
 have hs2:=hg2.size
 have hs3:=hg3.size
 have hs4:=hg4.size
 have hs5:=hg5.size
 have hW:=(Lib.alloc_old _ (.cells #[.int .i64 t1.kind,.int .i64 t1.op,.string t1.name,.int .u64 t1.value,kv4,.int .i64 t1.at_,.int .i64 t2.kind,.int .i64 t2.op,.string t2.name,.int .u64 t2.value,kv5,.int .i64 t2.at_] 50) _ (heap_lt (put6_heap hr5 (.int .i64 3) (.int .i64 (q:Int)) (.string ⟨#[]⟩) (.int .u64 0) (.slice (some ⟨w5.heap.size,0,none⟩) 2 2) (.int .i64 0)))).trans (put6_heap hr5 (.int .i64 3) (.int .i64 (q:Int)) (.string ⟨#[]⟩) (.int .u64 0) (.slice (some ⟨w5.heap.size,0,none⟩) 2 2) (.int .i64 0))
 obtain ⟨e0,e1,e2,e3,e4,e5⟩:=box_cells hW
 exact bodyPost_ret (v:=.agg #[.int .i64 3,.int .i64 (q:Int),.string ⟨#[]⟩,.int .u64 0,.slice (some ⟨w5.heap.size,0,none⟩) 2 2,.int .i64 0]) (by simp [results,Tryz.results94,go_sem,e0,e1,e2,e3,e4,e5]) rfl (made_end_alloc hB (grownBy_trans (grownBy_trans (grownBy_trans (grownBy_trans hg1 hg2) hg3) hg4) hg5) hM5.out hr5 ⟨by simp [binT],_,rfl,kids2 (heap_alloc_new w5 _) (by omega) (by rw [alloc_size];omega) (carry_grown hE4.out hM4.out hg5 _ (by omega) (by omega)) (carry_alloc hE5.out _ (by omega) (by omega))⟩)
theorem public_all (E:Env):∀ f,PubC E f
 | 0=>fun B bm ns deep w hf hd hM=>by
   exact public_lit B bm E 0 deep ns w hM hd (.inl (by omega))
 | f+1=>fun B bm ns deep w hf hd hM=>by
   have ih:=public_all E f
   have h8:=nxV_lt ns 8 (by omega)
   by_cases c0:3<deep\/nxV ns 8=0
   · have e:pubM E (f+1) deep ns=(litT (nxV ns.tail 256),ns.tail.tail):=by simp only [pubM];rw [if_pos c0]
     rw [e]
     exact public_lit B bm E (2*(f+1)) deep ns w hM hd c0
   · have c3:¬ 3<deep:=fun h=>c0 (.inl h)
     have ck:nxV ns 8≠0:=fun h=>c0 (.inr h)
     by_cases c1:nxV ns 8=1
     · have e:pubM E (f+1) deep ns=(nameT (dig 112 E),ns.tail):=by simp only [pubM];rw [if_neg c0,if_pos c1]
       rw [e]
       exact public_own B bm E (2*(f+1)) deep ns w hM hd c3 c1
     · by_cases c2:nxV ns 8=2/\E.held=true
       · have e:pubM E (f+1) deep ns=(nameT sharedS,ns.tail):=by simp only [pubM];rw [if_neg c0,if_neg c1,if_pos c2]
         rw [e]
         exact public_shared B bm E (2*(f+1)) deep ns w hM hd c3 c2.1 c2.2
       · by_cases ck3:nxV ns 8=3
         · have e:pubM E (f+1) deep ns=(cellT (dig 113 E) (placeM (pubM E f) E deep ns.tail).1,(placeM (pubM E f) E deep ns.tail).2):=by simp only [pubM];rw [if_neg c0,if_neg c1,if_neg c2,if_pos ck3]
           rw [e]
           exact public_cell B bm E f deep ns w hM hd ih hf c3 ck3
         · by_cases c4:nxV ns 8=4/\0<E.loc.length
           · cases hs:E.sec.getD (nxV ns.tail E.loc.length) false with
             | false=>
               have e:pubM E (f+1) deep ns=(nameT (E.loc.getD (nxV ns.tail E.loc.length) ⟨#[]⟩),ns.tail.tail):=by simp only [pubM];rw [if_neg c0,if_neg c1,if_neg c2,if_neg ck3,if_pos c4,if_pos hs]
               rw [e]
               exact public_local B bm E (2*(f+1)) deep ns w hM hd c3 c4.1 c4.2 hs
             | true=>
               have e:pubM E (f+1) deep ns=binM (pubM E f) deep ns.tail.tail:=by simp only [pubM];rw [if_neg c0,if_neg c1,if_neg c2,if_neg ck3,if_pos c4,if_neg (by rw [hs];simp)]
               rw [e]
               exact public_locbin B bm E f deep ns w hM hd ih hf c3 c4.1 c4.2 hs
           · by_cases c5:nxV ns 8=5
             · have e:pubM E (f+1) deep ns=(notT (pubM E f (deep+1) ns.tail).1,(pubM E f (deep+1) ns.tail).2):=by simp only [pubM];rw [if_neg c0,if_neg c1,if_neg c2,if_neg ck3,if_neg c4,if_pos c5]
               rw [e]
               exact public_not B bm E f deep ns w hM hd ih hf c3 c5
             · have e:pubM E (f+1) deep ns=binM (pubM E f) deep ns.tail:=by simp only [pubM];rw [if_neg c0,if_neg c1,if_neg c2,if_neg ck3,if_neg c4,if_neg c5]
               rw [e]
               refine public_bin B bm E f deep ns w hM hd ih hf c3 ?_
               by_cases d2:nxV ns 8=2
               · exact .inr (.inr (.inl ⟨d2,by cases hh:E.held with | false=>rfl | true=>exact absurd ⟨d2,hh⟩ c2⟩))
               · by_cases d4:nxV ns 8=4
                 · exact .inr (.inr (.inr ⟨d4,by rcases Nat.eq_zero_or_pos E.loc.length with h | h;exact h;exact absurd ⟨d4,h⟩ c4⟩))
                 · omega
theorem locals_block {B bm:Nat} {E:Env} {ns:List UInt8} {w:World} (h:MakerAt B bm E ns w) (i:Nat) (hi:i<E.loc.length):∃ g cap,w.cell? ⟨bm,1,none⟩=some (.slice (some ⟨g,0,none⟩) E.loc.length cap)/\g≠bm/\w.cell? ⟨g,i,none⟩=some (.string (E.loc.getD i ⟨#[]⟩)):=by
 obtain ⟨_,nv,lv,sv,cv,h2,h3,h4,h5,h6,h7,_⟩:=h
 rcases h4.2 with ⟨_,h0⟩ | ⟨g,cap,cur,rfl,_,hgg,_⟩
 · omega
 · refine ⟨g,cap,(seven_cells h2).2.1,fun e=>by subst e;rw [h2] at hgg;simp at hgg,?_⟩
   have:=h4.cells (g:=g) rfl i (.string (E.loc.getD i ⟨#[]⟩)) (by simp [hi])
   rwa [Lib.add_plain,Nat.zero_add] at this
theorem made_drew {B bm:Nat} {E:Env} {ns:List UInt8} {w:World} (h:MakerAt B bm E ns w):MakerAt B bm E ns w.drew:=h
theorem secretly_pub (B bm:Nat) (E:Env) (deep:Nat) (ns:List UInt8) (w:World) (hM:MakerAt B bm E ns w) (hd:deep<=100) (m f:Nat) (hm:2*f+1<=m) (hf:4<=deep+f) (hd9:deep<=99) (hcase:3<deep\/nxV ns 8=0):
    Calls Tryz.prog 92 #[.pointer (some ⟨bm,0,none⟩),.int .i64 deep] w (Made B bm E m w (pubM E f (deep+1) ns.tail)):=by
 have hB:=hM.base
 have hbm:=hM.lt
 have hMA:=hM.alloc zeroE
 have hth:=thread_cell hM
 have htl:=thread_le hM
 have H1:=next_any B bm E ns 8 _ hMA (by omega) (by omega)
 have HR:=Lib.hid (zeroE_at w)
 have HM:=Lib.hid hM
 have HMA:=Lib.hid hMA
 obtain ⟨t1,n1,hp1⟩:∃ t n,pubM E f (deep+1) ns.tail=(t,n):=⟨_,_,rfl⟩
 have P1:=(public_all E f).at B bm deep _ _ _ (by omega) (by omega) hp1
 rw [hp1]
 obtain ⟨k,hk⟩:∃ k,k=nxV ns 8:=⟨_,rfl⟩
 rw [<- hk] at H1 hcase
 clear hp1 hk hM hMA
 by_cases h3:3<deep
 · clear hcase
   go_enter Tryz.func92,Tryz.ntmps92
   go_wp2_with (first
    | (go_at_call 34;refine (digit_any E.thread htl _).mono ?_;rintro e w' ⟨rfl,rfl⟩)
    | (go_at_call 94;refine (P1 w1 hM1.out).mono ?_;rintro e w2 ⟨v2,rfl,hE2,hM2,hg2⟩;have hr2:=heap_grown hM1.out hg2 hr1;replace hM2:=Lib.hid hM2;obtain ⟨_,kv2,rfl,kao2,kcap2,rfl,_,_⟩:=id hE2;replace hE2:=Lib.hid hE2;obtain ⟨c0,c1,c2,c3,c4,c5⟩:=box_cells hr2;obtain ⟨d0,d1,d2,d3,d4,d5⟩:=box_free hr2;have hz2:=heap_lt hr2)
    | (go_at_call 33;refine H1.mono ?_;rintro e w1 ⟨rfl,hM1,hg1⟩;have hr1:=heap_grown HMA.out hg1 HR.out;replace hM1:=Lib.hid hM1))
   have hs1:=hg1.size
   rw [alloc_size] at hs1
   have hW:=put6_heap hr2 (.int .i64 t1.kind) (.int .i64 t1.op) (.string t1.name) (.int .u64 t1.value) (.slice kao2 t1.kids.length kcap2) (.int .i64 t1.at_)
   obtain ⟨e0,e1,e2,e3,e4,e5⟩:=box_cells hW
   exact bodyPost_ret (v:=.agg #[.int .i64 t1.kind,.int .i64 t1.op,.string t1.name,.int .u64 t1.value,.slice kao2 t1.kids.length kcap2,.int .i64 t1.at_]) (by simp [results,Tryz.results92,go_sem,e0,e1,e2,e3,e4,e5]) rfl (made_end hB (grownBy_trans hg1 hg2) hM2.out hr2 ((hE2.out.carry (by omega) (Nat.le_refl _) (Same35.refl _ _ _)).up hm))
 · obtain rfl:k=0:=by omega
   clear hcase
   go_enter Tryz.func92,Tryz.ntmps92
   go_wp2_with (first
    | (go_at_call 34;refine (digit_any E.thread htl _).mono ?_;rintro e w' ⟨rfl,rfl⟩)
    | (go_at_call 94;refine (P1 w1 hM1.out).mono ?_;rintro e w2 ⟨v2,rfl,hE2,hM2,hg2⟩;have hr2:=heap_grown hM1.out hg2 hr1;replace hM2:=Lib.hid hM2;obtain ⟨_,kv2,rfl,kao2,kcap2,rfl,_,_⟩:=id hE2;replace hE2:=Lib.hid hE2;obtain ⟨c0,c1,c2,c3,c4,c5⟩:=box_cells hr2;obtain ⟨d0,d1,d2,d3,d4,d5⟩:=box_free hr2;have hz2:=heap_lt hr2)
    | (go_at_call 33;refine H1.mono ?_;rintro e w1 ⟨rfl,hM1,hg1⟩;have hr1:=heap_grown HMA.out hg1 HR.out;replace hM1:=Lib.hid hM1))
   have hs1:=hg1.size
   rw [alloc_size] at hs1
   have hW:=put6_heap hr2 (.int .i64 t1.kind) (.int .i64 t1.op) (.string t1.name) (.int .u64 t1.value) (.slice kao2 t1.kids.length kcap2) (.int .i64 t1.at_)
   obtain ⟨e0,e1,e2,e3,e4,e5⟩:=box_cells hW
   exact bodyPost_ret (v:=.agg #[.int .i64 t1.kind,.int .i64 t1.op,.string t1.name,.int .u64 t1.value,.slice kao2 t1.kids.length kcap2,.int .i64 t1.at_]) (by simp [results,Tryz.results92,go_sem,e0,e1,e2,e3,e4,e5]) rfl (made_end hB (grownBy_trans hg1 hg2) hM2.out hr2 ((hE2.out.carry (by omega) (Nat.le_refl _) (Same35.refl _ _ _)).up hm))
theorem secretly_own (B bm:Nat) (E:Env) (n deep:Nat) (ns:List UInt8) (w:World) (hM:MakerAt B bm E ns w) (hd:deep<=100) (h3:¬ 3<deep) (hcase:nxV ns 8=1):
    Calls Tryz.prog 92 #[.pointer (some ⟨bm,0,none⟩),.int .i64 deep] w (Made B bm E (n+1) w (nameT (dig 115 E),ns.tail)):=by
 have hB:=hM.base
 have hbm:=hM.lt
 have hMA:=hM.alloc zeroE
 have hth:=thread_cell hM
 have htl:=thread_le hM
 have H1:=next_any B bm E ns 8 _ hMA (by omega) (by omega)
 have HR:=Lib.hid (zeroE_at w)
 have HM:=Lib.hid hM
 have HMA:=Lib.hid hMA
 have hcat:=cat2 115 (digitB E.thread)
 unfold dig
 rw [hcase] at H1
 clear hcase hM hMA
 go_enter Tryz.func92,Tryz.ntmps92
 go_wp2_with (first
    | (go_at_call 34;refine (digit_any E.thread htl _).mono ?_;rintro e w' ⟨rfl,rfl⟩)
    | (go_at_call 125;refine (name_any _ w1).mono ?_;rintro e w3 ⟨rfl,hb3⟩;have hr3:=(hb3.block _ (heap_lt hr1)).trans hr1;obtain ⟨c0,c1,c2,c3,c4,c5⟩:=box_cells hr3;obtain ⟨d0,d1,d2,d3,d4,d5⟩:=box_free hr3;have hz3:=heap_lt hr3)
    | (go_at_call 33;refine H1.mono ?_;rintro e w1 ⟨rfl,hM1,hg1⟩;have hr1:=heap_grown HMA.out hg1 HR.out;replace hM1:=Lib.hid hM1))
 have hW:=put6_heap hr3 (.int .i64 1) (.int .i64 0) (.string (⟨#[115,digitB E.thread]⟩)) (.int .u64 0) (.slice none 0 0) (.int .i64 0)
 obtain ⟨e0,e1,e2,e3,e4,e5⟩:=box_cells hW
 exact bodyPost_ret (v:=.agg #[.int .i64 1,.int .i64 0,.string (⟨#[115,digitB E.thread]⟩),.int .u64 0,.slice none 0 0,.int .i64 0]) (by simp [results,Tryz.results92,go_sem,e0,e1,e2,e3,e4,e5]) rfl (made_end hB (grownBy_trans hg1 (grownBy_below hb3)) (hM1.out.below hb3) hr3 (erep_name _))
theorem secretly_hidden (B bm:Nat) (E:Env) (n deep:Nat) (ns:List UInt8) (w:World) (hM:MakerAt B bm E ns w) (hd:deep<=100) (h3:¬ 3<deep) (hcase:nxV ns 8=3) (hh:E.held=true):
    Calls Tryz.prog 92 #[.pointer (some ⟨bm,0,none⟩),.int .i64 deep] w (Made B bm E (n+1) w (nameT hiddenS,ns.tail)):=by
 have hB:=hM.base
 have hbm:=hM.lt
 have hMA:=hM.alloc zeroE
 have hth:=thread_cell hM
 have htl:=thread_le hM
 have H1:=next_any B bm E ns 8 _ hMA (by omega) (by omega)
 have HR:=Lib.hid (zeroE_at w)
 have HM:=Lib.hid hM
 have HMA:=Lib.hid hMA
 rw [hcase] at H1
 clear hcase hM hMA
 go_enter Tryz.func92,Tryz.ntmps92
 go_wp2_with (first
    | (go_at_call 34;refine (digit_any E.thread htl _).mono ?_;rintro e w' ⟨rfl,rfl⟩)
    | (go_at_call 125;refine (name_any _ w1).mono ?_;rintro e w3 ⟨rfl,hb3⟩;have hr3:=(hb3.block _ (heap_lt hr1)).trans hr1;obtain ⟨c0,c1,c2,c3,c4,c5⟩:=box_cells hr3;obtain ⟨d0,d1,d2,d3,d4,d5⟩:=box_free hr3;have hz3:=heap_lt hr3)
    | (go_at_call 33;refine H1.mono ?_;rintro e w1 ⟨rfl,hM1,hg1⟩;have hr1:=heap_grown HMA.out hg1 HR.out;replace hM1:=Lib.hid hM1;have hhe:=held_cell hM1.out;rw [hh] at hhe))
 have hW:=put6_heap hr3 (.int .i64 1) (.int .i64 0) (.string (⟨#[104,105,100,100,101,110]⟩)) (.int .u64 0) (.slice none 0 0) (.int .i64 0)
 obtain ⟨e0,e1,e2,e3,e4,e5⟩:=box_cells hW
 exact bodyPost_ret (v:=.agg #[.int .i64 1,.int .i64 0,.string (⟨#[104,105,100,100,101,110]⟩),.int .u64 0,.slice none 0 0,.int .i64 0]) (by simp [results,Tryz.results92,go_sem,e0,e1,e2,e3,e4,e5]) rfl (made_end hB (grownBy_trans hg1 (grownBy_below hb3)) (hM1.out.below hb3) hr3 (erep_name _))
theorem secretly_cell (B bm:Nat) (E:Env) (f deep:Nat) (ns:List UInt8) (w:World) (hM:MakerAt B bm E ns w) (hd:deep<=100) (ih:PubC E f) (hf:6<=deep+(f+1)) (h3:¬ 3<deep) (hcase:nxV ns 8=2):
    Calls Tryz.prog 92 #[.pointer (some ⟨bm,0,none⟩),.int .i64 deep] w (Made B bm E (2*(f+1)+1) w (cellT (dig 116 E) (placeM (pubM E f) E deep ns.tail).1,(placeM (pubM E f) E deep ns.tail).2)):=by
 have hB:=hM.base
 have hbm:=hM.lt
 have hMA:=hM.alloc zeroE
 have hth:=thread_cell hM
 have htl:=thread_le hM
 have H1:=next_any B bm E ns 8 _ hMA (by omega) (by omega)
 have HR:=Lib.hid (zeroE_at w)
 have HM:=Lib.hid hM
 have HMA:=Lib.hid hMA
 have hcat:=cat2 116 (digitB E.thread)
 obtain ⟨t1,n1,hp1⟩:∃ t n,placeM (pubM E f) E deep ns.tail=(t,n):=⟨_,_,rfl⟩
 have C1:=fun w' h=>cellOf_all ih B bm ns.tail deep ⟨#[116,digitB E.thread]⟩ w' (by omega) (by omega) h
 rw [hp1] at C1 ⊢
 unfold dig
 rw [hcase] at H1
 clear hcase hp1 hM hMA
 go_enter Tryz.func92,Tryz.ntmps92
 go_wp2_with (first
    | (go_at_call 34;refine (digit_any E.thread htl _).mono ?_;rintro e w' ⟨rfl,rfl⟩)
    | (go_at_call 95;refine (C1 w1 hM1.out).mono ?_;rintro e w2 ⟨v2,rfl,hE2,hM2,hg2⟩;have hr2:=heap_grown hM1.out hg2 hr1;replace hM2:=Lib.hid hM2;obtain ⟨_,kv2,rfl,kao2,kcap2,rfl,_,_⟩:=id hE2;replace hE2:=Lib.hid hE2;obtain ⟨c0,c1,c2,c3,c4,c5⟩:=box_cells hr2;obtain ⟨d0,d1,d2,d3,d4,d5⟩:=box_free hr2;have hz2:=heap_lt hr2)
    | (go_at_call 33;refine H1.mono ?_;rintro e w1 ⟨rfl,hM1,hg1⟩;have hr1:=heap_grown HMA.out hg1 HR.out;replace hM1:=Lib.hid hM1))
 have hs1:=hg1.size
 rw [alloc_size] at hs1
 have hs2:=hg2.size
 have hW0:=put6_heap hr2 (.int .i64 2) (.int .i64 0) (.string ⟨#[116,digitB E.thread]⟩) (.int .u64 0) (.slice (some ⟨w2.heap.size+1,0,none⟩) 1 1) (.int .i64 0)
 have hW1:=(Lib.alloc_old _ (.cells #[.int .i64 t1.kind,.int .i64 t1.op,.string t1.name,.int .u64 t1.value,.slice kao2 t1.kids.length kcap2,.int .i64 t1.at_] 50) _ (heap_lt hW0)).trans hW0
 have hW:=(Lib.alloc_old _ (.cells #[.int .i64 t1.kind,.int .i64 t1.op,.string t1.name,.int .u64 t1.value,.slice kao2 t1.kids.length kcap2,.int .i64 t1.at_] 50) _ (heap_lt hW1)).trans hW1
 obtain ⟨e0,e1,e2,e3,e4,e5⟩:=box_cells hW
 have hMade:Made B bm E (2*(f+1)+1) w (cellT ⟨#[116,digitB E.thread]⟩ t1,n1) (.returned (.agg #[.int .i64 2,.int .i64 0,.string ⟨#[116,digitB E.thread]⟩,.int .u64 0,.slice (some ⟨w2.heap.size+1,0,none⟩) 1 1,.int .i64 0])) (((put6 w2 w.heap.size (.int .i64 2) (.int .i64 0) (.string ⟨#[116,digitB E.thread]⟩) (.int .u64 0) (.slice (some ⟨w2.heap.size+1,0,none⟩) 1 1) (.int .i64 0)).alloc (.cells #[.int .i64 t1.kind,.int .i64 t1.op,.string t1.name,.int .u64 t1.value,.slice kao2 t1.kids.length kcap2,.int .i64 t1.at_] 50)).alloc (.cells #[.int .i64 t1.kind,.int .i64 t1.op,.string t1.name,.int .u64 t1.value,.slice kao2 t1.kids.length kcap2,.int .i64 t1.at_] 50)):=by
    rw [<- put6_alloc hz2]
    exact made_end_alloc hB (grownBy_trans (grownBy_trans hg1 hg2) (World.grownBy_alloc w2 _ _)) (hM2.out.alloc _) ((Lib.alloc_old _ _ _ hz2).trans hr2) ⟨by simp [cellT],_,rfl,kids1 (by have:=heap_alloc_new (w2.alloc (.cells #[.int .i64 t1.kind,.int .i64 t1.op,.string t1.name,.int .u64 t1.value,.slice kao2 t1.kids.length kcap2,.int .i64 t1.at_] 50)) (.cells #[.int .i64 t1.kind,.int .i64 t1.op,.string t1.name,.int .u64 t1.value,.slice kao2 t1.kids.length kcap2,.int .i64 t1.at_] 50);rwa [alloc_size] at this) (by omega) (by rw [alloc_size,alloc_size];omega) (carry_alloc (hE2.out.mono (by rw [alloc_size];omega) ((Below.refl _ _).alloc (Nat.le_refl _) _)) _ (by omega) (by omega))⟩
 exact bodyPost_ret (v:=.agg #[.int .i64 2,.int .i64 0,.string ⟨#[116,digitB E.thread]⟩,.int .u64 0,.slice (some ⟨w2.heap.size+1,0,none⟩) 1 1,.int .i64 0]) (by simp [results,Tryz.results92,go_sem,e0,e1,e2,e3,e4,e5]) rfl hMade
theorem secretly_bin (B bm:Nat) (E:Env) (f deep:Nat) (ns:List UInt8) (w:World) (hM:MakerAt B bm E ns w) (hd:deep<=100) (ih:SecC E f) (hf:6<=deep+(f+1)) (h3:¬ 3<deep) (hcase:nxV ns 8=6\/nxV ns 8=7\/(nxV ns 8=3/\E.held=false)\/(nxV ns 8=4/\E.loc.length=0)):
    Calls Tryz.prog 92 #[.pointer (some ⟨bm,0,none⟩),.int .i64 deep] w (Made B bm E (2*(f+1)+1) w (binM (secM E f) deep ns.tail)):=by
 have hB:=hM.base
 have hbm:=hM.lt
 have hMA:=hM.alloc zeroE
 have hth:=thread_cell hM
 have htl:=thread_le hM
 have H1:=next_any B bm E ns 8 _ hMA (by omega) (by omega)
 have HR:=Lib.hid (zeroE_at w)
 have HM:=Lib.hid hM
 have HMA:=Lib.hid hMA
 have H10:=fun w' h=>next_any B bm E (ns.tail) 10 w' h (by omega) (by omega)
 obtain ⟨t1,n1,hp1⟩:∃ t n,secM E f (deep+1) (ns.tail).tail=(t,n):=⟨_,_,rfl⟩
 obtain ⟨t2,n2,hp2⟩:∃ t n,secM E f (deep+1) n1=(t,n):=⟨_,_,rfl⟩
 have P1:=ih.at B bm deep _ _ _ (by omega) (by omega) hp1
 have P2:=ih.at B bm deep _ _ _ (by omega) (by omega) hp2
 have hbin:binM (secM E f) deep (ns.tail)=(binT (nxV (ns.tail) 10) t1 t2,n2):=by simp only [binM,hp1,hp2]
 rw [hbin]
 obtain ⟨q,hq⟩:∃ q,q=nxV (ns.tail) 10:=⟨_,rfl⟩
 rw [<- hq] at H10 ⊢
 clear hbin hp1 hp2 hq hM hMA
 rcases hcase with hk | hk | ⟨hk,hh⟩ | ⟨hk,hl⟩
 · rw [hk] at H1
   clear hk
   go_enter Tryz.func92,Tryz.ntmps92
   go_wp2_with (first
    | (go_at_call 34;refine (digit_any E.thread htl _).mono ?_;rintro e w' ⟨rfl,rfl⟩)
    | (go_at_call 92;refine (P2 w3 hM3.out).mono ?_;rintro e w4 ⟨v4,rfl,hE4,hM4,hg4⟩;have hr4:=heap_grown hM3.out hg4 hr3;replace hM4:=Lib.hid hM4;obtain ⟨_,kv4,rfl,_⟩:=id hE4;replace hE4:=Lib.hid hE4;obtain ⟨c0,c1,c2,c3,c4,c5⟩:=box_cells hr4;obtain ⟨d0,d1,d2,d3,d4,d5⟩:=box_free hr4;have hz4:=heap_lt hr4)
    | (go_at_call 92;refine (P1 w2 hM2.out).mono ?_;rintro e w3 ⟨v3,rfl,hE3,hM3,hg3⟩;have hr3:=heap_grown hM2.out hg3 hr2;replace hM3:=Lib.hid hM3;obtain ⟨_,kv3,rfl,_⟩:=id hE3;replace hE3:=Lib.hid hE3)
    | (go_at_call 33;refine (H10 w1 hM1.out).mono ?_;rintro e w2 ⟨rfl,hM2,hg2⟩;have hr2:=heap_grown hM1.out hg2 hr1;replace hM2:=Lib.hid hM2)
    | (go_at_call 33;refine H1.mono ?_;rintro e w1 ⟨rfl,hM1,hg1⟩;have hr1:=heap_grown HMA.out hg1 HR.out;replace hM1:=Lib.hid hM1;have hhe:=held_cell hM1.out;obtain ⟨lao,lcap,hlo,_⟩:=locals_cell hM1.out))
   have hs1:=hg1.size
   rw [alloc_size] at hs1
   have hs2:=hg2.size
   have hs3:=hg3.size
   have hs4:=hg4.size
   have hW:=(Lib.alloc_old _ (.cells #[.int .i64 t1.kind,.int .i64 t1.op,.string t1.name,.int .u64 t1.value,kv3,.int .i64 t1.at_,.int .i64 t2.kind,.int .i64 t2.op,.string t2.name,.int .u64 t2.value,kv4,.int .i64 t2.at_] 50) _ (heap_lt (put6_heap hr4 (.int .i64 3) (.int .i64 (q:Int)) (.string ⟨#[]⟩) (.int .u64 0) (.slice (some ⟨w4.heap.size,0,none⟩) 2 2) (.int .i64 0)))).trans (put6_heap hr4 (.int .i64 3) (.int .i64 (q:Int)) (.string ⟨#[]⟩) (.int .u64 0) (.slice (some ⟨w4.heap.size,0,none⟩) 2 2) (.int .i64 0))
   obtain ⟨e0,e1,e2,e3,e4,e5⟩:=box_cells hW
   exact bodyPost_ret (v:=.agg #[.int .i64 3,.int .i64 (q:Int),.string ⟨#[]⟩,.int .u64 0,.slice (some ⟨w4.heap.size,0,none⟩) 2 2,.int .i64 0]) (by simp [results,Tryz.results92,go_sem,e0,e1,e2,e3,e4,e5]) rfl (made_end_alloc hB (grownBy_trans (grownBy_trans (grownBy_trans hg1 hg2) hg3) hg4) hM4.out hr4 ⟨by simp [binT],_,rfl,kids2 (heap_alloc_new w4 _) (by omega) (by rw [alloc_size];omega) (carry_grown hE3.out hM3.out hg4 _ (by omega) (by omega)) (carry_alloc hE4.out _ (by omega) (by omega))⟩)
 · rw [hk] at H1
   clear hk
   go_enter Tryz.func92,Tryz.ntmps92
   go_wp2_with (first
    | (go_at_call 34;refine (digit_any E.thread htl _).mono ?_;rintro e w' ⟨rfl,rfl⟩)
    | (go_at_call 92;refine (P2 w3 hM3.out).mono ?_;rintro e w4 ⟨v4,rfl,hE4,hM4,hg4⟩;have hr4:=heap_grown hM3.out hg4 hr3;replace hM4:=Lib.hid hM4;obtain ⟨_,kv4,rfl,_⟩:=id hE4;replace hE4:=Lib.hid hE4;obtain ⟨c0,c1,c2,c3,c4,c5⟩:=box_cells hr4;obtain ⟨d0,d1,d2,d3,d4,d5⟩:=box_free hr4;have hz4:=heap_lt hr4)
    | (go_at_call 92;refine (P1 w2 hM2.out).mono ?_;rintro e w3 ⟨v3,rfl,hE3,hM3,hg3⟩;have hr3:=heap_grown hM2.out hg3 hr2;replace hM3:=Lib.hid hM3;obtain ⟨_,kv3,rfl,_⟩:=id hE3;replace hE3:=Lib.hid hE3)
    | (go_at_call 33;refine (H10 w1 hM1.out).mono ?_;rintro e w2 ⟨rfl,hM2,hg2⟩;have hr2:=heap_grown hM1.out hg2 hr1;replace hM2:=Lib.hid hM2)
    | (go_at_call 33;refine H1.mono ?_;rintro e w1 ⟨rfl,hM1,hg1⟩;have hr1:=heap_grown HMA.out hg1 HR.out;replace hM1:=Lib.hid hM1;have hhe:=held_cell hM1.out;obtain ⟨lao,lcap,hlo,_⟩:=locals_cell hM1.out))
   have hs1:=hg1.size
   rw [alloc_size] at hs1
   have hs2:=hg2.size
   have hs3:=hg3.size
   have hs4:=hg4.size
   have hW:=(Lib.alloc_old _ (.cells #[.int .i64 t1.kind,.int .i64 t1.op,.string t1.name,.int .u64 t1.value,kv3,.int .i64 t1.at_,.int .i64 t2.kind,.int .i64 t2.op,.string t2.name,.int .u64 t2.value,kv4,.int .i64 t2.at_] 50) _ (heap_lt (put6_heap hr4 (.int .i64 3) (.int .i64 (q:Int)) (.string ⟨#[]⟩) (.int .u64 0) (.slice (some ⟨w4.heap.size,0,none⟩) 2 2) (.int .i64 0)))).trans (put6_heap hr4 (.int .i64 3) (.int .i64 (q:Int)) (.string ⟨#[]⟩) (.int .u64 0) (.slice (some ⟨w4.heap.size,0,none⟩) 2 2) (.int .i64 0))
   obtain ⟨e0,e1,e2,e3,e4,e5⟩:=box_cells hW
   exact bodyPost_ret (v:=.agg #[.int .i64 3,.int .i64 (q:Int),.string ⟨#[]⟩,.int .u64 0,.slice (some ⟨w4.heap.size,0,none⟩) 2 2,.int .i64 0]) (by simp [results,Tryz.results92,go_sem,e0,e1,e2,e3,e4,e5]) rfl (made_end_alloc hB (grownBy_trans (grownBy_trans (grownBy_trans hg1 hg2) hg3) hg4) hM4.out hr4 ⟨by simp [binT],_,rfl,kids2 (heap_alloc_new w4 _) (by omega) (by rw [alloc_size];omega) (carry_grown hE3.out hM3.out hg4 _ (by omega) (by omega)) (carry_alloc hE4.out _ (by omega) (by omega))⟩)
 · rw [hk] at H1
   clear hk
   go_enter Tryz.func92,Tryz.ntmps92
   go_wp2_with (first
    | (go_at_call 34;refine (digit_any E.thread htl _).mono ?_;rintro e w' ⟨rfl,rfl⟩)
    | (go_at_call 92;refine (P2 w3 hM3.out).mono ?_;rintro e w4 ⟨v4,rfl,hE4,hM4,hg4⟩;have hr4:=heap_grown hM3.out hg4 hr3;replace hM4:=Lib.hid hM4;obtain ⟨_,kv4,rfl,_⟩:=id hE4;replace hE4:=Lib.hid hE4;obtain ⟨c0,c1,c2,c3,c4,c5⟩:=box_cells hr4;obtain ⟨d0,d1,d2,d3,d4,d5⟩:=box_free hr4;have hz4:=heap_lt hr4)
    | (go_at_call 92;refine (P1 w2 hM2.out).mono ?_;rintro e w3 ⟨v3,rfl,hE3,hM3,hg3⟩;have hr3:=heap_grown hM2.out hg3 hr2;replace hM3:=Lib.hid hM3;obtain ⟨_,kv3,rfl,_⟩:=id hE3;replace hE3:=Lib.hid hE3)
    | (go_at_call 33;refine (H10 w1 hM1.out).mono ?_;rintro e w2 ⟨rfl,hM2,hg2⟩;have hr2:=heap_grown hM1.out hg2 hr1;replace hM2:=Lib.hid hM2)
    | (go_at_call 33;refine H1.mono ?_;rintro e w1 ⟨rfl,hM1,hg1⟩;have hr1:=heap_grown HMA.out hg1 HR.out;replace hM1:=Lib.hid hM1;have hhe:=held_cell hM1.out;obtain ⟨lao,lcap,hlo,_⟩:=locals_cell hM1.out;rw [hh] at hhe))
   have hs1:=hg1.size
   rw [alloc_size] at hs1
   have hs2:=hg2.size
   have hs3:=hg3.size
   have hs4:=hg4.size
   have hW:=(Lib.alloc_old _ (.cells #[.int .i64 t1.kind,.int .i64 t1.op,.string t1.name,.int .u64 t1.value,kv3,.int .i64 t1.at_,.int .i64 t2.kind,.int .i64 t2.op,.string t2.name,.int .u64 t2.value,kv4,.int .i64 t2.at_] 50) _ (heap_lt (put6_heap hr4 (.int .i64 3) (.int .i64 (q:Int)) (.string ⟨#[]⟩) (.int .u64 0) (.slice (some ⟨w4.heap.size,0,none⟩) 2 2) (.int .i64 0)))).trans (put6_heap hr4 (.int .i64 3) (.int .i64 (q:Int)) (.string ⟨#[]⟩) (.int .u64 0) (.slice (some ⟨w4.heap.size,0,none⟩) 2 2) (.int .i64 0))
   obtain ⟨e0,e1,e2,e3,e4,e5⟩:=box_cells hW
   exact bodyPost_ret (v:=.agg #[.int .i64 3,.int .i64 (q:Int),.string ⟨#[]⟩,.int .u64 0,.slice (some ⟨w4.heap.size,0,none⟩) 2 2,.int .i64 0]) (by simp [results,Tryz.results92,go_sem,e0,e1,e2,e3,e4,e5]) rfl (made_end_alloc hB (grownBy_trans (grownBy_trans (grownBy_trans hg1 hg2) hg3) hg4) hM4.out hr4 ⟨by simp [binT],_,rfl,kids2 (heap_alloc_new w4 _) (by omega) (by rw [alloc_size];omega) (carry_grown hE3.out hM3.out hg4 _ (by omega) (by omega)) (carry_alloc hE4.out _ (by omega) (by omega))⟩)
 · rw [hk] at H1
   clear hk
   go_enter Tryz.func92,Tryz.ntmps92
   go_wp2_with (first
    | (go_at_call 34;refine (digit_any E.thread htl _).mono ?_;rintro e w' ⟨rfl,rfl⟩)
    | (go_at_call 92;refine (P2 w3 hM3.out).mono ?_;rintro e w4 ⟨v4,rfl,hE4,hM4,hg4⟩;have hr4:=heap_grown hM3.out hg4 hr3;replace hM4:=Lib.hid hM4;obtain ⟨_,kv4,rfl,_⟩:=id hE4;replace hE4:=Lib.hid hE4;obtain ⟨c0,c1,c2,c3,c4,c5⟩:=box_cells hr4;obtain ⟨d0,d1,d2,d3,d4,d5⟩:=box_free hr4;have hz4:=heap_lt hr4)
    | (go_at_call 92;refine (P1 w2 hM2.out).mono ?_;rintro e w3 ⟨v3,rfl,hE3,hM3,hg3⟩;have hr3:=heap_grown hM2.out hg3 hr2;replace hM3:=Lib.hid hM3;obtain ⟨_,kv3,rfl,_⟩:=id hE3;replace hE3:=Lib.hid hE3)
    | (go_at_call 33;refine (H10 w1 hM1.out).mono ?_;rintro e w2 ⟨rfl,hM2,hg2⟩;have hr2:=heap_grown hM1.out hg2 hr1;replace hM2:=Lib.hid hM2)
    | (go_at_call 33;refine H1.mono ?_;rintro e w1 ⟨rfl,hM1,hg1⟩;have hr1:=heap_grown HMA.out hg1 HR.out;replace hM1:=Lib.hid hM1;have hhe:=held_cell hM1.out;obtain ⟨lao,lcap,hlo,_⟩:=locals_cell hM1.out;rw [hl] at hlo))
   have hs1:=hg1.size
   rw [alloc_size] at hs1
   have hs2:=hg2.size
   have hs3:=hg3.size
   have hs4:=hg4.size
   have hW:=(Lib.alloc_old _ (.cells #[.int .i64 t1.kind,.int .i64 t1.op,.string t1.name,.int .u64 t1.value,kv3,.int .i64 t1.at_,.int .i64 t2.kind,.int .i64 t2.op,.string t2.name,.int .u64 t2.value,kv4,.int .i64 t2.at_] 50) _ (heap_lt (put6_heap hr4 (.int .i64 3) (.int .i64 (q:Int)) (.string ⟨#[]⟩) (.int .u64 0) (.slice (some ⟨w4.heap.size,0,none⟩) 2 2) (.int .i64 0)))).trans (put6_heap hr4 (.int .i64 3) (.int .i64 (q:Int)) (.string ⟨#[]⟩) (.int .u64 0) (.slice (some ⟨w4.heap.size,0,none⟩) 2 2) (.int .i64 0))
   obtain ⟨e0,e1,e2,e3,e4,e5⟩:=box_cells hW
   exact bodyPost_ret (v:=.agg #[.int .i64 3,.int .i64 (q:Int),.string ⟨#[]⟩,.int .u64 0,.slice (some ⟨w4.heap.size,0,none⟩) 2 2,.int .i64 0]) (by simp [results,Tryz.results92,go_sem,e0,e1,e2,e3,e4,e5]) rfl (made_end_alloc hB (grownBy_trans (grownBy_trans (grownBy_trans hg1 hg2) hg3) hg4) hM4.out hr4 ⟨by simp [binT],_,rfl,kids2 (heap_alloc_new w4 _) (by omega) (by rw [alloc_size];omega) (carry_grown hE3.out hM3.out hg4 _ (by omega) (by omega)) (carry_alloc hE4.out _ (by omega) (by omega))⟩)
theorem secretly_pick (B bm:Nat) (E:Env) (f deep:Nat) (ns:List UInt8) (w:World) (hM:MakerAt B bm E ns w) (hd:deep<=100) (ih:SecC E f) (hf:6<=deep+(f+1)) (h3:¬ 3<deep) (hcase:nxV ns 8=5) (t1 t2 t3:Tree) (n1 n2 n3:List UInt8) (hp1:secM E f (deep+1) ns.tail=(t1,n1)) (hp2:secM E f (deep+1) n1=(t2,n2)) (hp3:secM E f (deep+1) n2=(t3,n3)):
    Calls Tryz.prog 92 #[.pointer (some ⟨bm,0,none⟩),.int .i64 deep] w (Made B bm E (2*(f+1)+1) w (pickT t1 t2 t3,n3)):=by
 have hB:=hM.base
 have hbm:=hM.lt
 have hMA:=hM.alloc zeroE
 have hth:=thread_cell hM
 have htl:=thread_le hM
 have H1:=next_any B bm E ns 8 _ hMA (by omega) (by omega)
 have HR:=Lib.hid (zeroE_at w)
 have HM:=Lib.hid hM
 have HMA:=Lib.hid hMA
 have P1:=ih.at B bm deep _ _ _ (by omega) (by omega) hp1
 have P2:=ih.at B bm deep _ _ _ (by omega) (by omega) hp2
 have P3:=ih.at B bm deep _ _ _ (by omega) (by omega) hp3
 rw [hcase] at H1
 clear hcase hp1 hp2 hp3 hM hMA
 go_enter Tryz.func92,Tryz.ntmps92
 go_wp2_with (first
    | (go_at_call 34;refine (digit_any E.thread htl _).mono ?_;rintro e w' ⟨rfl,rfl⟩)
    | (go_at_call 92;refine (P3 w3 hM3.out).mono ?_;rintro e w4 ⟨v4,rfl,hE4,hM4,hg4⟩;have hr4:=heap_grown hM3.out hg4 hr3;replace hM4:=Lib.hid hM4;obtain ⟨_,kv4,rfl,_⟩:=id hE4;replace hE4:=Lib.hid hE4;obtain ⟨c0,c1,c2,c3,c4,c5⟩:=box_cells hr4;obtain ⟨d0,d1,d2,d3,d4,d5⟩:=box_free hr4;have hz4:=heap_lt hr4)
    | (go_at_call 92;refine (P2 w2 hM2.out).mono ?_;rintro e w3 ⟨v3,rfl,hE3,hM3,hg3⟩;have hr3:=heap_grown hM2.out hg3 hr2;replace hM3:=Lib.hid hM3;obtain ⟨_,kv3,rfl,_⟩:=id hE3;replace hE3:=Lib.hid hE3)
    | (go_at_call 92;refine (P1 w1 hM1.out).mono ?_;rintro e w2 ⟨v2,rfl,hE2,hM2,hg2⟩;have hr2:=heap_grown hM1.out hg2 hr1;replace hM2:=Lib.hid hM2;obtain ⟨_,kv2,rfl,_⟩:=id hE2;replace hE2:=Lib.hid hE2)
    | (go_at_call 33;refine H1.mono ?_;rintro e w1 ⟨rfl,hM1,hg1⟩;have hr1:=heap_grown HMA.out hg1 HR.out;replace hM1:=Lib.hid hM1))
 have hs1:=hg1.size
 rw [alloc_size] at hs1
 have hs2:=hg2.size
 have hs3:=hg3.size
 have hs4:=hg4.size
 have hW:=(Lib.alloc_old _ (.cells #[.int .i64 t1.kind,.int .i64 t1.op,.string t1.name,.int .u64 t1.value,kv2,.int .i64 t1.at_,.int .i64 t2.kind,.int .i64 t2.op,.string t2.name,.int .u64 t2.value,kv3,.int .i64 t2.at_,.int .i64 t3.kind,.int .i64 t3.op,.string t3.name,.int .u64 t3.value,kv4,.int .i64 t3.at_] 50) _ (heap_lt (put6_heap hr4 (.int .i64 5) (.int .i64 0) (.string ⟨#[]⟩) (.int .u64 0) (.slice (some ⟨w4.heap.size,0,none⟩) 3 3) (.int .i64 0)))).trans (put6_heap hr4 (.int .i64 5) (.int .i64 0) (.string ⟨#[]⟩) (.int .u64 0) (.slice (some ⟨w4.heap.size,0,none⟩) 3 3) (.int .i64 0))
 obtain ⟨e0,e1,e2,e3,e4,e5⟩:=box_cells hW
 exact bodyPost_ret (v:=.agg #[.int .i64 5,.int .i64 0,.string ⟨#[]⟩,.int .u64 0,.slice (some ⟨w4.heap.size,0,none⟩) 3 3,.int .i64 0]) (by simp [results,Tryz.results92,go_sem,e0,e1,e2,e3,e4,e5]) rfl (made_end_alloc hB (grownBy_trans (grownBy_trans (grownBy_trans hg1 hg2) hg3) hg4) hM4.out hr4 ⟨by simp [pickT],_,rfl,kids3 (heap_alloc_new w4 _) (by omega) (by rw [alloc_size];omega) (carry_two hE2.out hM2.out hg3 hM3.out hg4 _ (by omega) (by omega)) (carry_grown hE3.out hM3.out hg4 _ (by omega) (by omega)) (carry_alloc hE4.out _ (by omega) (by omega))⟩)
theorem secretly_local (B bm:Nat) (E:Env) (n deep:Nat) (ns:List UInt8) (w:World) (hM:MakerAt B bm E ns w) (hd:deep<=100) (h3:¬ 3<deep) (hcase:nxV ns 8=4) (hl0:0<E.loc.length):
    Calls Tryz.prog 92 #[.pointer (some ⟨bm,0,none⟩),.int .i64 deep] w (Made B bm E (n+1) w (nameT (E.loc.getD (nxV ns.tail E.loc.length) ⟨#[]⟩),ns.tail.tail)):=by
 have hB:=hM.base
 have hbm:=hM.lt
 have hMA:=hM.alloc zeroE
 have hth:=thread_cell hM
 have htl:=thread_le hM
 have H1:=next_any B bm E ns 8 _ hMA (by omega) (by omega)
 have HR:=Lib.hid (zeroE_at w)
 have HM:=Lib.hid hM
 have HMA:=Lib.hid hMA
 have hll:=loc_le hM
 have HL:=fun w' h=>next_keep B bm E ns.tail E.loc.length w' h hl0 (by omega)
 obtain ⟨j,hj0⟩:∃ j,j=nxV ns.tail E.loc.length:=⟨_,rfl⟩
 have hj:=nxV_lt ns.tail E.loc.length hl0
 rw [<- hj0] at HL hj ⊢
 have hjI:(j:Int)<(E.loc.length:Int):=by omega
 rw [hcase] at H1
 generalize hs:E.loc.getD j ⟨#[]⟩=s
 have Hs:=Lib.hid hs
 clear hcase hj0 hM hMA hs
 go_enter Tryz.func92,Tryz.ntmps92
 go_wp2_with (first
    | (go_at_call 34;refine (digit_any E.thread htl _).mono ?_;rintro e w' ⟨rfl,rfl⟩)
    | (go_at_call 33;refine H1.mono ?_;rintro e w1 ⟨rfl,hM1,hg1⟩;have hr1:=heap_grown HMA.out hg1 HR.out;replace hM1:=Lib.hid hM1;obtain ⟨lg,lcap,hlc,hne,hlv⟩:=locals_block hM1.out j hj;rw [Hs.out] at hlv;replace hne:=Lib.hid hne))
 go_region_with (first
    | (go_at_call 125;refine (name_any _ _).mono ?_;rintro e w3 ⟨rfl,hb3⟩;have hr3:=(hb3.block _ (heap_lt hr2)).trans hr2;obtain ⟨c0,c1,c2,c3,c4,c5⟩:=box_cells hr3;obtain ⟨d0,d1,d2,d3,d4,d5⟩:=box_free hr3;have hz3:=heap_lt hr3)
    | (go_at_call 33;refine (HL w1.drew hM1.out).mono ?_;rintro e w2 ⟨rfl,hM2,hg2,hk2⟩;have hr2:=heap_grown (made_drew hM1.out) hg2 hr1;have hlc2:=(hk2 1 (by omega)).trans hlc;have hlv2:=World.grownBy.cell hg2 (a:=⟨lg,j,none⟩) hlv (by intro e;exact hne.out (Option.some.inj e))))
 all_goals (
    try go_wp2
    have hW:=put6_heap hr3 (.int .i64 1) (.int .i64 0) (.string (s)) (.int .u64 0) (.slice none 0 0) (.int .i64 0)
    obtain ⟨e0,e1,e2,e3,e4,e5⟩:=box_cells hW
    exact bodyPost_ret (v:=.agg #[.int .i64 1,.int .i64 0,.string (s),.int .u64 0,.slice none 0 0,.int .i64 0]) (by simp [results,Tryz.results92,go_sem,e0,e1,e2,e3,e4,e5]) rfl (made_end hB (grownBy_trans (grownBy_trans hg1 (grown_drew hg2)) (grownBy_below hb3)) (hM2.below hb3) hr3 (erep_name _)))
theorem secretly_all (E:Env):∀ f,SecC E f
 | 0=>fun B bm ns deep w hf hd hM=>by
   exact secretly_pub B bm E deep ns w hM (by omega) 1 0 (by omega) (by omega) (by omega) (.inl (by omega))
 | f+1=>fun B bm ns deep w hf hd hM=>by
   have h8:=nxV_lt ns 8 (by omega)
   by_cases c0:3<deep\/nxV ns 8=0
   · have e:secM E (f+1) deep ns=pubM E f (deep+1) ns.tail:=by simp only [secM];rw [if_pos c0]
     rw [e]
     exact secretly_pub B bm E deep ns w hM (by omega) (2*(f+1)+1) f (by omega) (by omega) (by omega) c0
   · have c3:¬ 3<deep:=fun h=>c0 (.inl h)
     have ck:nxV ns 8≠0:=fun h=>c0 (.inr h)
     have ih:SecC E f:=secretly_all E f
     by_cases c1:nxV ns 8=1
     · have e:secM E (f+1) deep ns=(nameT (dig 115 E),ns.tail):=by simp only [secM];rw [if_neg c0,if_pos c1]
       rw [e]
       exact secretly_own B bm E (2*(f+1)) deep ns w hM (by omega) c3 c1
     · by_cases c2:nxV ns 8=2
       · have e:secM E (f+1) deep ns=(cellT (dig 116 E) (placeM (pubM E f) E deep ns.tail).1,(placeM (pubM E f) E deep ns.tail).2):=by simp only [secM];rw [if_neg c0,if_neg c1,if_pos c2]
         rw [e]
         exact secretly_cell B bm E f deep ns w hM (by omega) (public_all E f) (by omega) c3 c2
       · by_cases ck3:nxV ns 8=3/\E.held=true
         · have e:secM E (f+1) deep ns=(nameT hiddenS,ns.tail):=by simp only [secM];rw [if_neg c0,if_neg c1,if_neg c2,if_pos ck3]
           rw [e]
           exact secretly_hidden B bm E (2*(f+1)) deep ns w hM (by omega) c3 ck3.1 ck3.2
         · by_cases c4:nxV ns 8=4/\0<E.loc.length
           · have e:secM E (f+1) deep ns=(nameT (E.loc.getD (nxV ns.tail E.loc.length) ⟨#[]⟩),ns.tail.tail):=by simp only [secM];rw [if_neg c0,if_neg c1,if_neg c2,if_neg ck3,if_pos c4]
             rw [e]
             exact secretly_local B bm E (2*(f+1)) deep ns w hM (by omega) c3 c4.1 c4.2
           · by_cases c5:nxV ns 8=5
             · obtain ⟨t1,n1,hp1⟩:∃ t n,secM E f (deep+1) ns.tail=(t,n):=⟨_,_,rfl⟩
               obtain ⟨t2,n2,hp2⟩:∃ t n,secM E f (deep+1) n1=(t,n):=⟨_,_,rfl⟩
               obtain ⟨t3,n3,hp3⟩:∃ t n,secM E f (deep+1) n2=(t,n):=⟨_,_,rfl⟩
               have e:secM E (f+1) deep ns=(pickT t1 t2 t3,n3):=by simp only [secM];rw [if_neg c0,if_neg c1,if_neg c2,if_neg ck3,if_neg c4,if_pos c5];simp only [hp1,hp2,hp3]
               rw [e]
               exact secretly_pick B bm E f deep ns w hM (by omega) ih hf c3 c5 t1 t2 t3 n1 n2 n3 hp1 hp2 hp3
             · have e:secM E (f+1) deep ns=binM (secM E f) deep ns.tail:=by simp only [secM];rw [if_neg c0,if_neg c1,if_neg c2,if_neg ck3,if_neg c4,if_neg c5]
               rw [e]
               refine secretly_bin B bm E f deep ns w hM (by omega) ih hf c3 ?_
               by_cases d2:nxV ns 8=3
               · exact .inr (.inr (.inl ⟨d2,by cases hh:E.held with | false=>rfl | true=>exact absurd ⟨d2,hh⟩ ck3⟩))
               · by_cases d4:nxV ns 8=4
                 · exact .inr (.inr (.inr ⟨d4,by rcases Nat.eq_zero_or_pos E.loc.length with h | h;exact h;exact absurd ⟨d4,h⟩ c4⟩))
                 · omega
end Go.Proofs.YtlepckjmdjjolaaGreatDoor
