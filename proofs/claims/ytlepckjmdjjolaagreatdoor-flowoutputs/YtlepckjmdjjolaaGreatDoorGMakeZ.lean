/- Own texts laid together: MakeStmAll, MakeRows, MakeThr, MakeAll. Conditions: as each theorem says. -/
import Derived.Test.YtlepckjmdjjolaaGreatDoorGMakeSA
import Derived.Test.YtlepckjmdjjolaaGreatDoorGMakeSC
import Derived.Test.YtlepckjmdjjolaaGreatDoorGMakeSE
import Derived.Test.YtlepckjmdjjolaaGreatDoorHMakeStmG
import Derived.Lib.MinMax
set_option maxHeartbeats 2000000
set_option maxRecDepth 100000
set_option linter.unusedVariables false
set_option linter.unusedSimpArgs false
namespace Go.Proofs.YtlepckjmdjjolaaGreatDoor
open Go.ChangeShapes Go.WideShapes Go.ChangeAt Go.RowKit
theorem mstmt_all:∀ f,MStmtC f
 | 0=>fun B bm inside E ns w hM hf hd1 hd4 hroom=>by
   have:=heldN_le E
   omega
 | f+1=>fun B bm inside E ns w hM hf hd1 hd4 hroom=>by
   have ih:=mstmt_all f
   have h12:=nxV_lt ns 12 (by omega)
   show Calls Tryz.prog 63 _ w (MadeS B bm (f+1) w (stmtB (stmtM f) inside E ns))
   unfold stmtB
   by_cases c0:nxV ns 12=0/\E.loc.length<90
   · rw [if_pos c0];exact stmt_localS B bm f E inside ns w hM c0.2 c0.1
   rw [if_neg c0]
   by_cases c1:nxV ns 12=1/\E.loc.length<90/\inside=false
   · rw [if_pos c1];exact stmt_localP B bm f E inside ns w hM c1.2.1 c1.2.2 c1.1
   rw [if_neg c1]
   by_cases c2:nxV ns 12=2
   · rw [if_pos c2];exact stmt_assignS B bm f E inside ns w hM c2
   rw [if_neg c2]
   by_cases c3:nxV ns 12=3
   · rw [if_pos c3];exact stmt_storeS B bm f E inside ns w hM c3
   rw [if_neg c3]
   by_cases c4:nxV ns 12=4/\E.deep<4
   · rw [if_pos c4];exact stmt_ifS ih B bm E inside ns w hM hf hd1 c4.2 hroom c4.1
   rw [if_neg c4]
   by_cases c5:nxV ns 12=5/\E.deep<4
   · rw [if_pos c5];exact stmt_loop ih B bm E inside ns w hM hf hd1 c5.2 hroom c5.1
   rw [if_neg c5]
   by_cases hin:inside=true
   · rw [if_pos hin]
     have hk:(nxV ns 12=0\/nxV ns 12=1\/nxV ns 12=4\/nxV ns 12=5)\/nxV ns 12=6\/nxV ns 12=7\/nxV ns 12=8\/nxV ns 12=9\/nxV ns 12=10\/nxV ns 12=11:=by omega
     rcases hk with (k | k | k | k) | k | k | k | k | k | k
     · exact stmt_in0 B bm f E inside ns w hM (fun h=>c0 ⟨k,h⟩) hin k
     · by_cases hl:E.loc.length<90
       · exact stmt_in2 B bm f E inside ns w hM hl hin k
       · exact stmt_in1 B bm f E inside ns w hM hl hin k
     · exact stmt_in3 B bm f E inside ns w hM (fun h=>c4 ⟨k,h⟩) hin k
     · exact stmt_in4 B bm f E inside ns w hM (fun h=>c5 ⟨k,h⟩) hin k
     · exact stmt_in5 B bm f E inside ns w hM hin k
     · exact stmt_in6 B bm f E inside ns w hM hin k
     · exact stmt_in7 B bm f E inside ns w hM hin k
     · exact stmt_in8 B bm f E inside ns w hM hin k
     · exact stmt_in9 B bm f E inside ns w hM hin k
     · exact stmt_in10 B bm f E inside ns w hM hin k
   rw [if_neg hin]
   have hnot:inside=false:=by cases inside <;> simp_all
   by_cases c6:nxV ns 12=6/\E.deep<4
   · rw [if_pos c6];exact stmt_ifP ih B bm E inside ns w hM hf hd1 c6.2 hroom hnot c6.1
   rw [if_neg c6]
   by_cases c7:nxV ns 12=7
   · rw [if_pos c7];exact stmt_storeP B bm f E inside ns w hM hnot c7
   rw [if_neg c7]
   by_cases c8:nxV ns 12=8/\E.held=false
   · rw [if_pos c8];exact stmt_held ih B bm E inside ns w hM hf hd1 hd4 hroom hnot c8.2 c8.1
   rw [if_neg c8]
   by_cases c9:nxV ns 12=9
   · rw [if_pos c9];exact stmt_bump B bm f E inside ns w hM hnot c9
   rw [if_neg c9]
   by_cases c10:nxV ns 12=10
   · rw [if_pos c10];exact stmt_output B bm f E inside ns w hM hnot c10
   rw [if_neg c10]
   by_cases c11:nxV ns 12=11
   · rw [if_pos c11];exact stmt_fence B bm f E inside ns w hM hnot c11
   rw [if_neg c11]
   have hk:nxV ns 12=0\/nxV ns 12=1\/nxV ns 12=4\/nxV ns 12=5\/nxV ns 12=6\/nxV ns 12=8:=by omega
   rcases hk with k | k | k | k | k | k
   · exact stmt_out0 B bm f E inside ns w hM (fun h=>c0 ⟨k,h⟩) hnot k
   · exact stmt_out1 B bm f E inside ns w hM (fun h=>c1 ⟨k,h,hnot⟩) hnot k
   · exact stmt_out2 B bm f E inside ns w hM (fun h=>c4 ⟨k,h⟩) hnot k
   · exact stmt_out3 B bm f E inside ns w hM (fun h=>c5 ⟨k,h⟩) hnot k
   · exact stmt_out4 B bm f E inside ns w hM (fun h=>c6 ⟨k,h⟩) hnot k
   · exact stmt_out5 B bm f E inside ns w hM (by cases h:E.held with | true=>rfl | false=>exact absurd ⟨k,h⟩ c8) hnot k
theorem TSame.of_keep {t:TypeId} {B:Nat} {w w':World} (h:KeepM B w w') (h1:t≠92) (h2:t≠9) (h3:t≠4) (h4:t≠3):TSame t w w':=fun k cs fr hk=>h.2 k cs t fr hk h1 h2 h3 h4
@[reducible] def thrOps:Array Oper:=#[{ dst:=some 61,op:=Op.fieldAddr 26 (Operand.tmp 5) 1,type:=0,pos := "law.go:190",after:=#[],guard:=none },{ dst:=some 62,op:=Op.load 24 (Operand.tmp 61),type:=24,pos := "law.go:190",after:=#[{ on:=0,ground:=Ground.data }],guard:=none },{ dst:=some 63,op:=Op.move (Operand.tmp 3),type:=88,pos := "law.go:190",after:=#[],guard:=none },{ dst:=some 64,op:=Op.call { callee:=Callee.value (Operand.func 35),args:=#[Operand.tmp 63,Operand.const (Value.bool false)],argTypes:=#[88,4] },type:=40,pos := "law.go:190",after:=#[{ on:=2,ground:=Ground.data }],guard:=none },{ dst:=some 65,op:=Op.buildSlice 24 1 #[(0,Operand.tmp 64)],type:=24,pos := "law.go:190",after:=#[{ on:=3,ground:=Ground.data }],guard:=none },{ dst:=some 66,op:=Op.call { callee:=Callee.builtin Builtin.append,args:=#[Operand.tmp 62,Operand.tmp 65],argTypes:=#[24,24] },type:=24,pos := "law.go:190",after:=#[{ on:=1,ground:=Ground.data },{ on:=4,ground:=Ground.data },{ on:=3,ground:=Ground.chain }],guard:=none },{ dst:=some 67,op:=Op.fieldAddr 26 (Operand.tmp 5) 1,type:=0,pos := "law.go:190",after:=#[{ on:=0,ground:=Ground.phase },{ on:=1,ground:=Ground.phase },{ on:=2,ground:=Ground.phase },{ on:=3,ground:=Ground.phase },{ on:=4,ground:=Ground.phase },{ on:=5,ground:=Ground.phase }],guard:=none },{ dst:=none,op:=Op.store 24 (Operand.tmp 67) (Operand.tmp 66),type:=0,pos := "law.go:190",after:=#[{ on:=6,ground:=Ground.data },{ on:=5,ground:=Ground.data },{ on:=5,ground:=Ground.chain },{ on:=0,ground:=Ground.phase },{ on:=1,ground:=Ground.phase },{ on:=2,ground:=Ground.phase },{ on:=3,ground:=Ground.phase },{ on:=4,ground:=Ground.phase },{ on:=5,ground:=Ground.phase }],guard:=none }]
theorem prog_cells {w:World} {k:Nat} {x0 x1:Value} (h:w.heap[k]?=some (.cells #[x0,x1] 26 (0,0))):w.cell? ⟨k,0,none⟩=some x0/\w.cell? ⟨k,1,none⟩=some x1:=by
  refine ⟨?_,?_⟩ <;> (rw [Lib.cell_of_heap h];rfl)
theorem MakerAt.tsame {B bm:Nat} {E:Env} {ns:List UInt8} {w w':World} (h:MakerAt B bm E ns w) (hb:∀ k,k<B->w'.heap[k]?=w.heap[k]?) (h1:TSame 92 w w') (h2:TSame 9 w w') (h3:TSame 4 w w') (h4:TSame 3 w w'):MakerAt B bm E ns w':=by
  obtain ⟨a1,nv,lv,sv,cv,a2,a3,a4,a5,a6,a7⟩:=h
  exact ⟨a1,nv,lv,sv,cv,h1 _ _ _ a2,a3.on hb,own_same a4 h2,own_same a5 h3,own_same a6 h4,a7⟩
structure TG where
  bao:Option Addr
  bcap:Nat
  q:Nat
  tg:Nat
  tcap:Nat
structure TC where
  w0:World
  B:Nat
  bm:Nat
  bp:Nat
  b0:Nat
  dv:Value
  ds:List Dcl
  tao:Option Addr
  tcap:Nat
  ts:List (List Stm)
  ss:List Stm
  E:Env
  ns:List UInt8
  ns':List UInt8
def thrV (X:TC) (g:TG):Nat->Value
  | 0=>.pointer (some ⟨X.bp,1,none⟩)
  | 1=>.slice X.tao X.ts.length X.tcap
  | 2=>.pointer (some ⟨X.bm,0,none⟩)
  | 3=>.slice g.bao X.ss.length g.bcap
  | 4=>.slice (some ⟨g.q,0,none⟩) 1 1
  | 5=>.slice (some ⟨g.tg,0,none⟩) (X.ts.length+1) g.tcap
  | 6=>.pointer (some ⟨X.bp,1,none⟩)
  | _=>undef
theorem writeAll_thr (V:Nat->Value) (t:Array Value):writeAll thrOps V t=((((((t.setIfInBounds 61 (V 0)).setIfInBounds 62 (V 1)).setIfInBounds 63 (V 2)).setIfInBounds 64 (V 3)).setIfInBounds 65 (V 4)).setIfInBounds 66 (V 5)).setIfInBounds 67 (V 6):=by kernel_rfl
def TInv (X:TC) (l3 l4 l5 l7:Bool) (g:TG) (w:World):Prop:=
  Below X.B X.w0 w/\X.B<=w.heap.size/\w.heap[X.b0]?=some (.cells #[.slice none 0 0,.slice none 0 0] 26 (0,0))/\X.b0≠X.bp/\X.B<=X.bp/\DlRow X.B w X.dv X.ds /\
  w.heap[X.bp]?=some (.cells #[X.dv,pick3 l7 (.slice (some ⟨g.tg,0,none⟩) (X.ts.length+1) g.tcap) (.slice X.tao X.ts.length X.tcap)] 26 (0,0)) /\
  (l3=false->MakerAt X.B X.bm X.E X.ns w)/\(l3=true->MakerAt X.B X.bm X.E X.ns' w/\∃ a b,X.B<=a/\b<=w.heap.size/\Stms a b w (fun v' s'=>SRep a b w 13 5 v' s') (.slice g.bao X.ss.length g.bcap) X.ss) /\
  (l5=false->ThRow X.B 5 w (.slice X.tao X.ts.length X.tcap) X.ts)/\(l5=true->ThRow X.B 5 w (.slice (some ⟨g.tg,0,none⟩) (X.ts.length+1) g.tcap) (X.ts++[X.ss])) /\
  (l4=true->l5=false->w.heap[g.q]?=some (.cells #[.slice g.bao X.ss.length g.bcap] 40 (0,0)))
def thrInv (X:TC) (L:Nat->Bool) (g:TG) (w:World):Prop:=TInv X (L 3) (L 4) (L 5) (L 7) g w
theorem TInv.keep {X:TC} {l3 l4 l5 l7:Bool} {g:TG} {w w':World} (h:TInv X l3 l4 l5 l7 g w) (hb:Below X.B w w') (hP:TSame 26 w w') (hD:TSame 39 w w') (hT:TSame 40 w w') (hS:TSame 45 w w') (hE:TSame 50 w w') (hm:TSame 92 w w') (h2:TSame 9 w w') (h3:TSame 4 w w') (h4:TSame 3 w w'):TInv X l3 l4 l5 l7 g w':=by
  obtain ⟨a1,a2,a3,a4,a4',a5,a6,a7,a8,a9,a10,a11⟩:=h
  have hz:=hb.size
  exact ⟨a1.trans hb,by omega,hP _ _ _ a3,a4,a4',own_same a5 hD,hP _ _ _ a6,fun e=>(a7 e).tsame hb.block hm h2 h3 h4,fun e=>⟨(a8 e).1.tsame hb.block hm h2 h3 h4,(a8 e).2.imp fun a h=>h.imp fun b h=>⟨h.1,by have:=h.2.1;omega,h.2.2.same hS hE⟩⟩,fun e=>(a9 e).same hz hT hS hE,fun e=>(a10 e).same hz hT hS hE,fun e f=>hT _ _ _ (a11 e f)⟩
theorem TInv.alloc {X:TC} {l3 l4 l5 l7:Bool} {g:TG} {w:World} (h:TInv X l3 l4 l5 l7 g w) (o:Obj):TInv X l3 l4 l5 l7 g (w.alloc o):=
  h.keep ((Below.refl _ _).alloc h.2.1 o) (TSame.alloc _ _ _) (TSame.alloc _ _ _) (TSame.alloc _ _ _) (TSame.alloc _ _ _) (TSame.alloc _ _ _) (TSame.alloc _ _ _) (TSame.alloc _ _ _) (TSame.alloc _ _ _) (TSame.alloc _ _ _)
theorem TInv.drew {X:TC} {l3 l4 l5 l7:Bool} {g:TG} {w:World} (h:TInv X l3 l4 l5 l7 g w):TInv X l3 l4 l5 l7 g w.drew:=
  h.keep (Below.refl _ _).drew (fun _ _ _ h=>h) (fun _ _ _ h=>h) (fun _ _ _ h=>h) (fun _ _ _ h=>h) (fun _ _ _ h=>h) (fun _ _ _ h=>h) (fun _ _ _ h=>h) (fun _ _ _ h=>h) (fun _ _ _ h=>h)
theorem thr_region (X:TC) {Q:Exit->Act->World->Prop} {a0:Act} {W:World} (h0:TInv X false false false false ⟨none,0,0,0,0⟩ W)
    (hB:∀ w',MakerAt X.B X.bm X.E X.ns w'->Calls Tryz.prog 35 #[.pointer (some ⟨X.bm,0,none⟩),.bool false] w' (MadeS X.B X.bm 5 w' (X.ss,X.E,X.ns')))
    (e3:a0.tmps.getD 3 undef=.pointer (some ⟨X.bm,0,none⟩)) (e5:a0.tmps.getD 5 undef=.pointer (some ⟨X.bp,0,none⟩)) (hz:a0.tmps.size=69) (hlen:X.ts.length<=100)
    (hend:∀ (g:TG) w,TInv X true true true true g w->Q .normal ⟨writeAll thrOps (thrV X g) a0.tmps,a0.defers⟩ w):(Code.region 10 thrOps true).wp Tryz.prog Q a0 W:=by
  refine wp_region_slots (by kernel_rfl) (by kernel_rfl) (by kernel_rfl) (by kernel_rfl) (thrV X) (thrInv X) ⟨none,0,0,0,0⟩ h0.drew ?_ (fun L g w hL hI=>hend g w (by unfold thrInv at hI;rwa [hL 3 (by decide),hL 4 (by decide),hL 5 (by decide),hL 7 (by decide)] at hI))
  · intro L g a wr i op hop hLi hpre hC hI hS K hK
    have s3:=(hS.old2 3 (by kernel_rfl)).trans e3
    have s5:=(hS.old2 5 (by kernel_rfl)).trans e5
    have hb:=hI.2.2.2.2.2.2.1
    match i with
    | 0=>
      simp only [thrOps,List.getElem?_toArray,List.getElem?_cons_zero,List.getElem?_cons_succ,Option.some.injEq] at hop
      subst hop
      go_simp
      exact hK _ _ ⟨g,fun _=>rfl,fun _ _ _=>rfl,hI⟩
    | 1=>
      simp only [thrOps,List.getElem?_toArray,List.getElem?_cons_zero,List.getElem?_cons_succ,Option.some.injEq] at hop
      subst hop
      have n0:=hS.new2 0 61 (by kernel_rfl) (pre_at hpre 0 (by kernel_rfl)) (by rw [hz];decide)
      simp only [thrV] at n0
      have no7:L 7=false:=by cases h:L 7 with | false=>rfl | true=>exact absurd (hC.at 7 1 (by kernel_rfl) h) (by simp [hLi])
      have hcell:=(prog_cells hb).2
      simp only [pick3,no7,Bool.false_eq_true,if_false] at hcell
      go_simp
      exact hK _ _ ⟨g,fun _=>rfl,fun _ _ _=>rfl,hI⟩
    | 2=>
      simp only [thrOps,List.getElem?_toArray,List.getElem?_cons_zero,List.getElem?_cons_succ,Option.some.injEq] at hop
      subst hop
      go_simp
      exact hK _ _ ⟨g,fun _=>rfl,fun _ _ _=>rfl,hI⟩
    | 3=>
      simp only [thrOps,List.getElem?_toArray,List.getElem?_cons_zero,List.getElem?_cons_succ,Option.some.injEq] at hop
      subst hop
      have n2:=hS.new2 2 63 (by kernel_rfl) (pre_at hpre 2 (by kernel_rfl)) (by rw [hz];decide)
      simp only [thrV] at n2
      have no4:L 4=false:=by cases h:L 4 with | false=>rfl | true=>exact absurd (hC.at 4 3 (by kernel_rfl) h) (by simp [hLi])
      have no5:L 5=false:=by cases h:L 5 with | false=>rfl | true=>exact absurd (hC.at 5 3 (by kernel_rfl) h) (by simp [hLi])
      have no7:L 7=false:=by cases h:L 7 with | false=>rfl | true=>exact absurd (hC.at 7 3 (by kernel_rfl) h) (by simp [hLi])
      have hMk:=hI.2.2.2.2.2.2.2.1 hLi
      go_simp
      go_at_call 35
      refine (hB wr hMk).mono ?_
      rintro e w1 ⟨v1,rfl,hS1,hM1,hK1⟩
      obtain ⟨bao,bcap,rfl,_⟩:=id hS1
      go_simp
      refine hK _ _ ⟨{ g with bao:=bao,bcap:=bcap },fun _=>rfl,fun j hj hLj=>?_,?_⟩
      · unfold thrV;split <;> first | rfl | exact absurd rfl hj | (rw [no4] at hLj;cases hLj) | (rw [no5] at hLj;cases hLj)
      · obtain ⟨a1,a2,a3,a4,a4',a5,a6,a7,a8,a9,a10,a11⟩:=hI
        have hz1:=hK1.size
        have tk:∀ t:TypeId,t≠92->t≠9->t≠4->t≠3->TSame t wr w1:=fun t h1 h2 h3 h4=>TSame.of_keep hK1 h1 h2 h3 h4
        have tP:=tk 26 (by decide) (by decide) (by decide) (by decide)
        have tD:=tk 39 (by decide) (by decide) (by decide) (by decide)
        have tT:=tk 40 (by decide) (by decide) (by decide) (by decide)
        have tS:=tk 45 (by decide) (by decide) (by decide) (by decide)
        have tE:=tk 50 (by decide) (by decide) (by decide) (by decide)
        simp only [thrInv,no4,no5,no7]
        exact ⟨a1.trans hK1.1,by omega,tP _ _ _ a3,a4,a4',own_same a5 tD,by have:=tP _ _ _ a6;simpa [pick3,no7] using this,(fun e=>by cases e),(fun _=>⟨hM1,wr.heap.size,w1.heap.size,a2,Nat.le_refl _,hS1⟩),(fun _=>(a9 no5).same hz1 tT tS tE),(fun e=>by cases e),(fun e=>by cases e)⟩
    | 4=>
      simp only [thrOps,List.getElem?_toArray,List.getElem?_cons_zero,List.getElem?_cons_succ,Option.some.injEq] at hop
      subst hop
      have n3:=hS.new2 3 64 (by kernel_rfl) (pre_at hpre 3 (by kernel_rfl)) (by rw [hz];decide)
      simp only [thrV] at n3
      have no5:L 5=false:=by cases h:L 5 with | false=>rfl | true=>exact absurd (hC.at 5 4 (by kernel_rfl) h) (by simp [hLi])
      go_simp
      refine hK _ _ ⟨{ g with q:=wr.heap.size },fun _=>rfl,fun j hj hLj=>?_,?_⟩
      · unfold thrV;split <;> first | rfl | exact absurd rfl hj
      · obtain ⟨a1,a2,a3,a4,a4',a5,a6,a7,a8,a9,a10,a11⟩:=TInv.alloc hI (.cells #[.slice g.bao X.ss.length g.bcap] 40)
        exact ⟨a1,a2,a3,a4,a4',a5,a6,a7,a8,a9,a10,fun _ _=>heap_alloc_new wr _⟩
    | 5=>
      simp only [thrOps,List.getElem?_toArray,List.getElem?_cons_zero,List.getElem?_cons_succ,Option.some.injEq] at hop
      subst hop
      have m1:=hS.new 1 62 (by kernel_rfl) (pre_at hpre 1 (by kernel_rfl)) (by rw [hz];decide)
      simp only [thrV] at m1
      have m4:=hS.new 4 65 (by kernel_rfl) (pre_at hpre 4 (by kernel_rfl)) (by rw [hz];decide)
      simp only [thrV] at m4
      have no7:L 7=false:=by cases h:L 7 with | false=>rfl | true=>exact absurd (hC.at 7 5 (by kernel_rfl) h) (by simp [hLi])
      have y3:L 3=true:=hC.at 4 3 (by kernel_rfl) (pre_at hpre 4 (by kernel_rfl))
      obtain ⟨a1,a2,a3,a4,a4',a5,a6,a7,a8,a9,a10,a11⟩:=id hI
      have hsrc:=a11 (pre_at hpre 4 (by kernel_rfl)) hLi
      obtain ⟨xs,hown,hr⟩:=id (a9 hLi)
      obtain ⟨hMk,pa,pb,hpa,hpb,hSn⟩:=a8 y3
      obtain ⟨i0,hi,hz0,hz1,hz2⟩:=info_parts infoStmts
      refine wp_append_lies wr (.tmp 62) (.tmp 65) 24 (by rfl) X.B 40 i0 _ 1 24 Tryz.underlying24 hi hz0 hz1 hz2 rfl (by omega) _ X.ts.length xs m1 hown ⟨g.q,0,none⟩ 1 1 [.slice g.bao X.ss.length g.bcap] m4 (by simp) (World.news_of_block hsrc) (by simp [Value.oneCell']) (by omega) (by unfold maxLen;omega) (by omega) a2 _ rfl ?_
      intro gg cap w1 hown1 hgrow hat hlt
      have hz1:=hgrow.size
      have tk:∀ t:TypeId,t≠40->TSame t wr w1:=fun t h1=>TSame.of_row hown hgrow h1
      have hbl:Below X.B wr w1:=(Below.refl _ _).grown hgrow a2 (fun k hk=>(hown.lt k hk).1)
      refine hK _ _ ⟨{ g with tg:=gg,tcap:=cap },fun _=>rfl,fun j hj hLj=>?_,?_⟩
      · unfold thrV;split <;> first | rfl | exact absurd rfl hj
      · simp only [thrInv,no7,y3,pre_at hpre 4 (by kernel_rfl)]
        refine ⟨a1.trans hbl,by omega,tk _ (by decide) _ _ _ a3,a4,a4',own_same a5 (tk _ (by decide)),by have:=tk _ (by decide) _ _ _ a6;simpa [pick3,no7] using this,(fun e=>by cases e),(fun _=>⟨hMk.tsame hbl.block (tk _ (by decide)) (tk _ (by decide)) (tk _ (by decide)) (tk _ (by decide)),pa,pb,hpa,by omega,hSn.same (tk _ (by decide)) (tk _ (by decide))⟩),(fun e=>by cases e),(fun _=>?_),(fun _ e=>by cases e)⟩
        refine ⟨_,by simpa using hown1,fun i ss hs=>?_⟩
        have hxl:=hown.1
        by_cases hi:i<X.ts.length
        · rw [List.getElem?_append_left hi] at hs
          obtain ⟨pa,pb,ao,cap',hx,ha,hb',hSo⟩:=hr i ss hs
          exact ⟨pa,pb,ao,cap',by rw [List.getElem?_append_left (by omega)];exact hx,ha,by omega,hSo.same (tk _ (by decide)) (tk _ (by decide))⟩
        · rw [List.getElem?_append_right (by omega)] at hs
          have hi0:i-X.ts.length=0:=by
            rcases Nat.eq_zero_or_pos (i-X.ts.length) with h | h
            · exact h
            · rw [List.getElem?_eq_none (by simp;omega)] at hs;cases hs
          rw [hi0] at hs
          simp at hs
          subst hs
          exact ⟨pa,pb,g.bao,g.bcap,by rw [List.getElem?_append_right (by omega),show i-xs.length=0 by omega];rfl,hpa,by omega,hSn.same (tk _ (by decide)) (tk _ (by decide))⟩
    | 6=>
      simp only [thrOps,List.getElem?_toArray,List.getElem?_cons_zero,List.getElem?_cons_succ,Option.some.injEq] at hop
      subst hop
      go_simp
      exact hK _ _ ⟨g,fun _=>rfl,fun _ _ _=>rfl,hI⟩
    | 7=>
      simp only [thrOps,List.getElem?_toArray,List.getElem?_cons_zero,List.getElem?_cons_succ,Option.some.injEq] at hop
      subst hop
      have n6:=hS.new2 6 67 (by kernel_rfl) (pre_at hpre 6 (by kernel_rfl)) (by rw [hz];decide)
      simp only [thrV] at n6
      have n5:=hS.new2 5 66 (by kernel_rfl) (pre_at hpre 5 (by kernel_rfl)) (by rw [hz];decide)
      simp only [thrV] at n5
      have hfz:=Lib.frozen_of_heap hb 1
      have hcs:=(prog_cells hb).2
      go_simp
      refine hK undef _ ⟨g,fun h=>absurd rfl h,fun _ _ _=>rfl,?_⟩
      obtain ⟨a1,a2,a3,a4,a4',a5,a6,a7,a8,a9,a10,a11⟩:=id hI
      have hw7:=set_heap a6 1 (.slice (some ⟨g.tg,0,none⟩) (X.ts.length+1) g.tcap)
      have tk:∀ t:TypeId,t≠26->TSame t wr (wr.setCell ⟨X.bp,1,none⟩ (.slice (some ⟨g.tg,0,none⟩) (X.ts.length+1) g.tcap)):=fun t h1=>TSame.of_set a6 h1 1 _
      have hbl:Below X.B wr (wr.setCell ⟨X.bp,1,none⟩ (.slice (some ⟨g.tg,0,none⟩) (X.ts.length+1) g.tcap)):=(Below.refl _ _).setCell a4' _
      have hz1:=hbl.size
      exact ⟨a1.trans hbl,by omega,(Below.heap_setCell _ _ _ _ a4).trans a3,a4,a4',own_same a5 (tk _ (by decide)),by simpa [pick3] using hw7,(fun e=>(a7 e).tsame hbl.block (tk _ (by decide)) (tk _ (by decide)) (tk _ (by decide)) (tk _ (by decide))),(fun e=>⟨(a8 e).1.tsame hbl.block (tk _ (by decide)) (tk _ (by decide)) (tk _ (by decide)) (tk _ (by decide)),(a8 e).2.imp fun a h=>h.imp fun b h=>⟨h.1,by have:=h.2.1;omega,h.2.2.same (tk _ (by decide)) (tk _ (by decide))⟩⟩),(fun e=>(a9 e).same hz1 (tk _ (by decide)) (tk _ (by decide)) (tk _ (by decide))),(fun e=>(a10 e).same hz1 (tk _ (by decide)) (tk _ (by decide)) (tk _ (by decide))),(fun e f=>tk _ (by decide) _ _ _ (a11 e f))⟩
    | n+8=>simp [thrOps] at hop
def MkInv (w:World) (bm bp b0:Nat) (r:List Dcl × List (List Stm) × List UInt8) (wr:World):Prop:=
  Below w.heap.size w wr/\wr.heap[b0]?=some (.cells #[.slice none 0 0,.slice none 0 0] 26 (0,0)) /\
  ∃ dao dcap tao tcap,wr.heap[bp]?=some (.cells #[.slice dao r.1.length dcap,.slice tao r.2.1.length tcap] 26 (0,0))/\DlRow w.heap.size wr (.slice dao r.1.length dcap) r.1/\ThRow w.heap.size 5 wr (.slice tao r.2.1.length tcap) r.2.1/\∃ E:Env,E.held=false/\E.deep=0/\MakerAt w.heap.size bm E r.2.2 wr
theorem make_len:∀ (k:Nat) (ns:List UInt8),(threadsM k ns).1.length=4+4*k/\(threadsM k ns).2.1.length=k
  | 0,ns=>⟨rfl,rfl⟩
  | k+1,ns=>by
    have ih:=make_len k ns
    show ((threadsM k ns).1++declsOf k).length=_/\((threadsM k ns).2.1++[_]).length=_
    simp only [List.length_append,List.length_cons,List.length_nil,declsOf]
    omega
theorem MakerAt.thread {B bm:Nat} {E:Env} {ns:List UInt8} {w:World} (h:MakerAt B bm E ns w) (hh:E.held=false) (hd:E.deep=0) (k:Nat) (hk:k<=9):
    MakerAt B bm ⟨[],[],[],false,k,0⟩ ns ((((w.setCell ⟨bm,5,none⟩ (.int .i64 k)).setCell ⟨bm,1,none⟩ (.slice none 0 0)).setCell ⟨bm,2,none⟩ (.slice none 0 0)).setCell ⟨bm,3,none⟩ (.slice none 0 0)):=by
  have hB:=h.base
  obtain ⟨h1,nv,lv,sv,cv,h2,h3,_⟩:=h
  have hg:w.grownBy ((((w.setCell ⟨bm,5,none⟩ (.int .i64 k)).setCell ⟨bm,1,none⟩ (.slice none 0 0)).setCell ⟨bm,2,none⟩ (.slice none 0 0)).setCell ⟨bm,3,none⟩ (.slice none 0 0)) (some bm):=grow_set (grow_set (grow_set (grow_set (grownBy_refl _ _) _ _) _ _) _ _) _ _
  refine ⟨h1,nv,_,_,_,?_,h3.on (fun j hj=>hg.block j (by omega) (fun e=>by cases e;omega)),World.ownsRow_nil _ _ _ _,World.ownsRow_nil _ _ _ _,World.ownsRow_nil _ _ _ _,hk,by simp,by simp⟩
  have r1:=set_heap h2 5 (.int .i64 k)
  have r2:=set_heap r1 1 (.slice none 0 0)
  have r3:=set_heap r2 2 (.slice none 0 0)
  have r4:=set_heap r3 3 (.slice none 0 0)
  rw [r4]
  simp [hh,hd]
theorem mk_start {w w2:World} {v:Value} {ns1:List UInt8} (hM2:MakerAt w.heap.size (w.heap.size+1) ⟨[],[],[],false,0,0⟩ ns1 w2)
    (hg2:((w.alloc (.cells #[.slice none 0 0,.slice none 0 0] 26)).alloc (.cells #[v,.slice none 0 0,.slice none 0 0,.slice none 0 0,.bool false,.int .i64 0,.int .i64 0] 92)).grownBy w2 (some (w.heap.size+1))):
    MkInv w (w.heap.size+1) (w2.heap.size+1) w.heap.size (threadsM 0 ns1) ((w2.alloc (.cells #[.bool true,.int .i64 0,.string ⟨#[100,111,111,114]⟩,.int .i64 0,.string ⟨#[]⟩,.int .i64 0,.bool false,.int .i64 0,.string ⟨#[115,104,97,114,101,100]⟩,.int .i64 0,.string ⟨#[100,111,111,114]⟩,.int .i64 0,.bool false,.int .i64 1,.string ⟨#[104,105,100,100,101,110]⟩,.int .i64 0,.string ⟨#[100,111,111,114]⟩,.int .i64 0,.bool false,.int .i64 0,.string ⟨#[99,111,117,110,116]⟩,.int .i64 0,.string ⟨#[]⟩,.int .i64 0] 39)).alloc (.cells #[.slice (some ⟨w2.heap.size,0,none⟩) 4 4,.slice none 0 0] 26)):=by
  have hz2:=hg2.size
  rw [alloc_size,alloc_size] at hz2
  have hb0:w2.heap[w.heap.size]?=some (.cells #[.slice none 0 0,.slice none 0 0] 26 (0,0)):=by
    rw [hg2.block _ (by rw [alloc_size,alloc_size];omega) (by simp),alloc_at,alloc_size,if_neg (by omega)]
    exact heap_alloc_new w _
  have hbl:Below w.heap.size w w2:=⟨hg2.os,hg2.tape,hg2.output,by omega,fun k hk=>by rw [hg2.block k (by rw [alloc_size,alloc_size];omega) (by simp;omega),alloc_at,alloc_size,if_neg (by omega),alloc_at,if_neg (by omega)]⟩
  refine ⟨(hbl.alloc (by omega) _).alloc (by rw [alloc_size];omega) _,alloc_keep (alloc_keep hb0 _) _,some ⟨w2.heap.size,0,none⟩,4,none,0,?_,?_,ThRow.nil,⟨[],[],[],false,0,0⟩,rfl,rfl,(hM2.alloc _).alloc _⟩
  · have:=heap_alloc_new (w2.alloc (.cells #[.bool true,.int .i64 0,.string ⟨#[100,111,111,114]⟩,.int .i64 0,.string ⟨#[]⟩,.int .i64 0,.bool false,.int .i64 0,.string ⟨#[115,104,97,114,101,100]⟩,.int .i64 0,.string ⟨#[100,111,111,114]⟩,.int .i64 0,.bool false,.int .i64 1,.string ⟨#[104,105,100,100,101,110]⟩,.int .i64 0,.string ⟨#[100,111,111,114]⟩,.int .i64 0,.bool false,.int .i64 0,.string ⟨#[99,111,117,110,116]⟩,.int .i64 0,.string ⟨#[]⟩,.int .i64 0] 39)) (.cells #[.slice (some ⟨w2.heap.size,0,none⟩) 4 4,.slice none 0 0] 26)
    rw [alloc_size] at this
    exact this
  · exact ⟨by rw [dcells_len],.inr ⟨w2.heap.size,4,_,rfl,by omega,alloc_keep (heap_alloc_new w2 _) _,by simp [threadsM,decls0],by unfold maxLen;omega,rfl,rfl⟩⟩
theorem mk_app {w wr w3:World} {bm bp b0 n:Nat} {dv tv:Value} {ds:List Dcl} {ts:List (List Stm)} {E:Env} {ns:List UInt8} {o:Obj} {x0 x1:Array Value} (hD:DlRow w.heap.size wr dv ds) (hg:(wr.alloc o).grownBy w3 dv.ownBlock) (hbp:wr.heap[bp]?=some (.cells x0 26 (0,0))) (hb0:wr.heap[b0]?=some (.cells x1 26 (0,0))) (hbel:Below w.heap.size w wr) (hT:ThRow w.heap.size n wr tv ts) (hM:MakerAt w.heap.size bm E ns wr) (hz:w.heap.size<=wr.heap.size):
    w3.heap[bp]?=some (.cells x0 26 (0,0))/\w3.heap[b0]?=some (.cells x1 26 (0,0))/\Below w.heap.size w w3/\MakerAt w.heap.size bm E ns w3/\ThRow w.heap.size n w3 tv ts:=by
  have hDa:(wr.alloc o).ownsRow w.heap.size 39 6 dv ds.length ((ds.map dcells).flatten):=own_same hD (TSame.alloc _ _ _)
  have tk:∀ t:TypeId,t≠39->TSame t wr w3:=fun t ht=>(TSame.alloc t wr o).trans (TSame.of_row hDa hg ht)
  have hz3:=hg.size
  rw [alloc_size] at hz3
  have hbl:Below w.heap.size wr w3:=((Below.refl _ _).alloc hz o).grown hg (by rw [alloc_size];omega) (fun k hk=>(hDa.lt k hk).1)
  exact ⟨tk _ (by decide) _ _ _ hbp,tk _ (by decide) _ _ _ hb0,hbel.trans hbl,hM.tsame hbl.block (tk _ (by decide)) (tk _ (by decide)) (tk _ (by decide)) (tk _ (by decide)),hT.same hbl.size (tk _ (by decide)) (tk _ (by decide)) (tk _ (by decide))⟩
theorem dfit_all:∀ (k:Nat) (ns:List UInt8),∀ d ∈ (threadsM k ns).1,dfit d
  | 0,ns=>fun d hd=>by
    have hd':d ∈ decls0:=hd
    simp only [decls0,List.mem_cons,List.not_mem_nil,or_false] at hd'
    rcases hd' with rfl | rfl | rfl | rfl <;> (unfold dfit;simp [doorS,sharedS,hiddenS,countS,ByteArray.size])
  | k+1,ns=>fun d hd=>by
    have hd':d ∈ (threadsM k ns).1++declsOf k:=hd
    rcases List.mem_append.1 hd' with h | h
    · exact dfit_all k ns d h
    · simp only [declsOf,List.mem_cons,List.not_mem_nil,or_false] at h
      rcases h with rfl | rfl | rfl | rfl <;> (unfold dfit;simp [ByteArray.size])
theorem make_any (ao:Option Addr) (L cap m:Nat) (ns:List UInt8) (w:World) (hN:NsAt w.heap.size w (.slice ao m cap) ns) (hmI:min (L:Int) 300=(m:Int)) (hmc:m<=cap) (hLc:L<=cap) (hL:L<=140737488351232):
    Calls Tryz.prog 14 #[.slice ao L cap] w fun e w'=>∃ dv tv,e=.returned (.agg #[dv,tv])/\Dcls w.heap.size w'.heap.size w' dv (makeM ns).decls/\Thrs w.heap.size w'.heap.size 13 5 w' tv (makeM ns).threads/\Below w.heap.size w w':=by
  have hn3:=nxV_lt ns 3 (by omega)
  have H1:=fun (bm:Nat) (w':World) h=>next_any w.heap.size bm ⟨[],[],[],false,0,0⟩ ns 3 w' h (by omega) (by omega)
  have HM0:∀ o,MakerAt w.heap.size (w.heap.size+1) ⟨[],[],[],false,0,0⟩ ns ((w.alloc o).alloc (.cells #[.slice ao m cap,.slice none 0 0,.slice none 0 0,.slice none 0 0,.bool false,.int .i64 0,.int .i64 0] 92)):=fun o=>
    ⟨by omega,.slice ao m cap,_,_,_,by have:=heap_alloc_new (w.alloc o) (.cells #[.slice ao m cap,.slice none 0 0,.slice none 0 0,.slice none 0 0,.bool false,.int .i64 0,.int .i64 0] 92);simpa using this,hN.on fun k hk=>by rw [Lib.alloc_old _ _ _ (by rw [alloc_size];omega),Lib.alloc_old _ _ _ hk],World.ownsRow_nil _ _ _ _,World.ownsRow_nil _ _ _ _,World.ownsRow_nil _ _ _ _,by simp,by simp,by simp⟩
  have HMH:=Lib.hid HM0
  clear hN HM0
  go_enter Tryz.func14,Tryz.ntmps14
  go_wp2_with (go_at_call 33;refine (H1 _ _ (HMH.out _)).mono ?_;rintro e w2 ⟨rfl,hM2,hg2⟩;replace hM2:=Lib.hid hM2;replace hg2:=Lib.hid hg2)
  have HS:=Lib.hid (mk_start hM2.out hg2.out)
  have hz2:=hg2.out.size
  simp only [alloc_size] at hz2
  obtain ⟨N,hN⟩:∃ N,nxV ns 3=N:=⟨_,rfl⟩
  rw [hN] at hn3
  have HN:=Lib.hid hN
  simp only [hN]
  clear hN H1
  go_loopw [6] (fun kv wr=>∃ k:Nat,k<=1+N/\kv=.int .i64 k/\MkInv w (w.heap.size+1) (w2.heap.size+1) w.heap.size (threadsM k ns.tail) wr) (fun kv _=>1+N-(intOf kv).toNat)
  case atStart=>exact ⟨0,by omega,rfl,HS.out⟩
  case round=>
    obtain ⟨k,hk,rfl,hI⟩:=hrel
    have hml:=make_len k ns.tail
    by_cases hlt:k<1+N
    · obtain ⟨ds,ts,ns2,hth⟩:∃ ds ts ns2,threadsM k ns.tail=(ds,ts,ns2):=⟨_,_,_,rfl⟩
      obtain ⟨ss,ns3,hbk⟩:∃ ss ns3,blockM (stmtM 5) false ⟨[],[],[],false,k,0⟩ ns2=(ss,⟨[],[],[],false,k,0⟩,ns3):=⟨_,_,Prod.ext rfl (Prod.ext (block_env (fun E ns hf=>stmt_grow 5 false E ns hf) _ _ ⟨rfl,rfl⟩) rfl)⟩
      have HT:Hid (threadsM (k+1) ns.tail=(ds++declsOf k,ts++[ss],ns3)):=by
        show (let r:=threadsM k ns.tail;let b:=blockM (stmtM 5) false ⟨[],[],[],false,k,0⟩ r.2.2;(r.1++declsOf k,r.2.1++[b.1],b.2.2))=_
        rw [hth];simp only [hbk]
      rw [hth] at hI hml
      simp only at hml
      have PB:Hid (∀ w',MakerAt w.heap.size (w.heap.size+1) ⟨[],[],[],false,k,0⟩ ns2 w'->Calls Tryz.prog 35 #[.pointer (some ⟨w.heap.size+1,0,none⟩),.bool false] w' (MadeS w.heap.size (w.heap.size+1) 5 w' (ss,⟨[],[],[],false,k,0⟩,ns3))):=fun w' h=>by
        have:=block_any (mstmt_all 5) w.heap.size (w.heap.size+1) false ⟨[],[],[],false,k,0⟩ ns2 w' h (by simp) (by simp) (by simp [roomE])
        rw [hbk] at this;exact this
      obtain ⟨hbel,hb0,dao,dcap,tao,tcap,hbp,hD,hTh,E,hEh,hEd,hMk⟩:=hI
      simp only at hbp hD hTh hMk
      obtain ⟨c0,c1⟩:=prog_cells hbp
      have hzr:=hbel.size
      have q112:=cat2 112 (digitB k)
      have q113:=cat2 113 (digitB k)
      have q115:=cat2 115 (digitB k)
      have q116:=cat2 116 (digitB k)
      have hne:¬ w.heap.size=w2.heap.size:=by omega
      have hne':¬ w2.heap.size=w.heap.size:=by omega
      have hdl:ds.length<=1000:=by omega
      have htl:ts.length<=100:=by omega
      have HML:=Lib.hid hml
      have HD:=Lib.hid hD
      have HTh:=Lib.hid hTh
      have HMk:=Lib.hid (And.intro hEh (And.intro hEd hMk))
      have HBP:=Lib.hid hbp
      have HB0:=Lib.hid hb0
      have HBel:=Lib.hid hbel
      clear hth hbk hbel hb0 hbp hD hTh hEh hEd hMk hml
      go_wp2_with (first
        | (go_at_call 34;refine (digit_any k (by omega) _).mono ?_;rintro e w' ⟨rfl,hw⟩;rw [hw];clear hw w')
        | (at_builtin;(refine wpList_append_dl wr ⟨false,0,⟨#[112,digitB k]⟩,0,⟨#[]⟩,0⟩ ⟨false,0,⟨#[113,digitB k]⟩,4,⟨#[]⟩,0⟩ ⟨false,1,⟨#[115,digitB k]⟩,0,⟨#[]⟩,0⟩ ⟨false,1,⟨#[116,digitB k]⟩,4,⟨#[]⟩,0⟩ rfl (.tmp 32) (.tmp 45) rfl w.heap.size _ ds (by rfl) (by rfl) HD.out hzr hdl ?_;intro g3 cap3 w3 hD3 hg3;obtain ⟨hEh,hEd,hMk⟩:=HMk.out;obtain ⟨hbp3,hb03,hbl3,hM3,hT3⟩:=mk_app HD.out hg3 HBP.out HB0.out HBel.out HTh.out hMk hzr;obtain ⟨d0,d1⟩:=prog_cells hbp3;have fz0:=Lib.frozen_of_heap hbp3 0;obtain ⟨nv,lv,sv,cv,hmb,hmc3⟩:∃ nv lv sv cv,w3.heap[w.heap.size+1]?=some (.cells #[nv,lv,sv,cv,.bool E.held,.int .i64 E.thread,.int .i64 E.deep] 92 (0,0))/\True:=(by obtain ⟨_,nv,lv,sv,cv,hmb,_⟩:=hM3;exact ⟨nv,lv,sv,cv,hmb,trivial⟩);obtain ⟨m0,m1,m2,m3,m4,m5,m6⟩:=seven_cells hmb;have g1:=Lib.frozen_of_heap hmb 1;have g2:=Lib.frozen_of_heap hmb 2;have g3':=Lib.frozen_of_heap hmb 3;have g5:=Lib.frozen_of_heap hmb 5;replace hD3:=Lib.hid hD3;replace hT3:=Lib.hid hT3;replace hM3:=Lib.hid hM3;replace hbp3:=Lib.hid hbp3;replace hb03:=Lib.hid hb03;replace hbl3:=Lib.hid hbl3;replace hg3:=Lib.hid hg3;replace hmb:=Lib.hid hmb)))
      obtain ⟨hEh,hEd,_⟩:=HMk.out
      have hfr:∀ t:TypeId,t≠26->TSame t w3 (w3.setCell ⟨w2.heap.size+1,0,none⟩ (.slice (some ⟨g3,0,none⟩) (ds.length+4) cap3)):=fun t ht=>TSame.of_set hbp3.out ht 0 _
      have hbl4:Below w.heap.size w3 (w3.setCell ⟨w2.heap.size+1,0,none⟩ (.slice (some ⟨g3,0,none⟩) (ds.length+4) cap3)):=(Below.refl _ _).setCell (show w.heap.size<=w2.heap.size+1 by omega) _
      have hM4:=hM3.out.tsame hbl4.block (hfr _ (by decide)) (hfr _ (by decide)) (hfr _ (by decide)) (hfr _ (by decide))
      have hD4:=own_same hD3.out (hfr _ (by decide))
      have hT4:=hT3.out.same hbl4.size (hfr _ (by decide)) (hfr _ (by decide)) (hfr _ (by decide))
      have hbp4:=set_heap hbp3.out 0 (.slice (some ⟨g3,0,none⟩) (ds.length+4) cap3)
      have hb04:=(Below.heap_setCell w3 ⟨w2.heap.size+1,0,none⟩ (.slice (some ⟨g3,0,none⟩) (ds.length+4) cap3) w.heap.size (show w.heap.size≠w2.heap.size+1 by omega)).trans hb03.out
      have hbw4:=hbl3.out.trans hbl4
      generalize w3.setCell ⟨w2.heap.size+1,0,none⟩ (.slice (some ⟨g3,0,none⟩) (ds.length+4) cap3)=w4 at *
      have hM5:=hM4.thread hEh hEd k (by omega)
      have hg5:w4.grownBy ((((w4.setCell ⟨w.heap.size+1,5,none⟩ (.int .i64 k)).setCell ⟨w.heap.size+1,1,none⟩ (.slice none 0 0)).setCell ⟨w.heap.size+1,2,none⟩ (.slice none 0 0)).setCell ⟨w.heap.size+1,3,none⟩ (.slice none 0 0)) (some (w.heap.size+1)):=grow_set (grow_set (grow_set (grow_set (grownBy_refl _ _) _ _) _ _) _ _) _ _
      have hK5:=KeepM.of_grown hM4 hg5
      generalize (((w4.setCell ⟨w.heap.size+1,5,none⟩ (.int .i64 k)).setCell ⟨w.heap.size+1,1,none⟩ (.slice none 0 0)).setCell ⟨w.heap.size+1,2,none⟩ (.slice none 0 0)).setCell ⟨w.heap.size+1,3,none⟩ (.slice none 0 0)=w5 at *
      have tk:∀ t:TypeId,t≠92->t≠9->t≠4->t≠3->TSame t w4 w5:=fun t a b c d=>TSame.of_keep hK5 a b c d
      have hz5:=hK5.size
      have hz4:=hbw4.size
      have hT5:ThRow w.heap.size 5 w5 (.slice tao ts.length tcap) ts:=hT4.same hz5 (tk _ (by decide) (by decide) (by decide) (by decide)) (tk _ (by decide) (by decide) (by decide) (by decide)) (tk _ (by decide) (by decide) (by decide) (by decide))
      have hI0:TInv ⟨w,w.heap.size,w.heap.size+1,w2.heap.size+1,w.heap.size,.slice (some ⟨g3,0,none⟩) (ds.length+4) cap3,ds++declsOf k,tao,tcap,ts,ss,⟨[],[],[],false,k,0⟩,ns2,ns3⟩ false false false false ⟨none,0,0,0,0⟩ w5:=
        ⟨hbw4.trans hK5.1,by show w.heap.size<=w5.heap.size;omega,tk _ (by decide) (by decide) (by decide) (by decide) _ _ _ hb04,by show w.heap.size≠w2.heap.size+1;omega,by show w.heap.size<=w2.heap.size+1;omega,own_same hD4 (tk _ (by decide) (by decide) (by decide) (by decide)),tk _ (by decide) (by decide) (by decide) (by decide) _ _ _ hbp4,fun _=>hM5,(fun e=>by cases e),fun _=>hT5,(fun e=>by cases e),(fun e=>by cases e)⟩
      have HI0:=Lib.hid hI0
      clear hI0 hT5 hD4 hT4 hbp4 hb04 hM4 hM5 hK5 hg5 tk hfr
      refine thr_region _ HI0.out PB.out (by rfl) (by rfl) (by rfl) htl ?_
      intro g w6 hI6
      have HI6:=Lib.hid hI6
      clear hI6
      rw [writeAll_thr]
      simp only [thrV,List.setIfInBounds_toArray,List.set_cons_zero,List.set_cons_succ]
      go_wp2
      go_roundw
      case rel=>
        refine ⟨k+1,by omega,by go_num,?_⟩
        rw [HT.out]
        obtain ⟨a1,a2,a3,a4,a4',a5,a6,a7,a8,a9,a10,a11⟩:=HI6.out
        refine ⟨a1,a3,some ⟨g3,0,none⟩,cap3,some ⟨g.tg,0,none⟩,g.tcap,?_,?_,?_,⟨[],[],[],false,k,0⟩,rfl,rfl,(a8 rfl).1⟩
        · simpa [pick3,declsOf] using a6
        · have e:(ds++declsOf k).length=ds.length+4:=by simp [declsOf]
          simp only
          rw [e];exact a5
        · have e:(ts++[ss]).length=ts.length+1:=by simp
          simp only
          rw [e];exact a10 rfl
      case measure=>simp [intOf];omega
    · obtain rfl:k=1+N:=by omega
      obtain ⟨hbel,hb0,dao,dcap,tao,tcap,hbp,hD,hTh,E,hEh,hEd,hMk⟩:=hI
      obtain ⟨ds,ts,ns2,hth⟩:∃ ds ts ns2,threadsM (1+N) ns.tail=(ds,ts,ns2):=⟨_,_,_,rfl⟩
      have HMK:Hid (makeM ns=⟨ds,ts⟩):=by
        show (let r:=threadsM (1+nxV ns 3) ns.tail;(⟨r.1,r.2.1⟩:Prg))=_
        rw [HN.out,hth]
      have HFit:=Lib.hid (dfit_all (1+N) ns.tail)
      rw [hth] at hbp hD hTh hml HFit
      simp only at hbp hD hTh hml
      obtain ⟨c0,c1⟩:=prog_cells hbp
      obtain ⟨d0,d1⟩:=prog_cells hb0
      have f0:=Lib.frozen_of_heap hb0 0
      have f1:=Lib.frozen_of_heap hb0 1
      have hzr:=hbel.size
      have hdl:ds.length<=1000:=by omega
      have htl:ts.length<=1000:=by omega
      have hne:¬ w.heap.size=w2.heap.size+1:=by omega
      have hne':¬ w2.heap.size+1=w.heap.size:=by omega
      have HD:=Lib.hid hD
      have HTh:=Lib.hid hTh
      have HB0:=Lib.hid hb0
      have HBel:=Lib.hid hbel
      clear hth hbel hb0 hbp hD hTh hEh hEd hMk hml
      go_wp2
      have fr:∀ t:TypeId,t≠26->TSame t wr ((wr.setCell ⟨w.heap.size,0,none⟩ (.slice dao ds.length dcap)).setCell ⟨w.heap.size,1,none⟩ (.slice tao ts.length tcap)):=fun t ht=>(TSame.of_set HB0.out ht 0 _).trans (TSame.of_set (set_heap HB0.out 0 _) ht 1 _)
      have hbl:Below w.heap.size wr ((wr.setCell ⟨w.heap.size,0,none⟩ (.slice dao ds.length dcap)).setCell ⟨w.heap.size,1,none⟩ (.slice tao ts.length tcap)):=((Below.refl w.heap.size wr).setCell (p:=⟨w.heap.size,0,none⟩) (Nat.le_refl _) _).setCell (p:=⟨w.heap.size,1,none⟩) (Nat.le_refl _) _
      have hD':DlRow w.heap.size ((wr.setCell ⟨w.heap.size,0,none⟩ (.slice dao ds.length dcap)).setCell ⟨w.heap.size,1,none⟩ (.slice tao ts.length tcap)) _ ds:=own_same HD.out (fr _ (by decide))
      have hT':=HTh.out.same hbl.size (fr _ (by decide)) (fr _ (by decide)) (fr _ (by decide))
      have hr1:=set_heap HB0.out 0 (.slice dao ds.length dcap)
      have hr2:=set_heap hr1 1 (.slice tao ts.length tcap)
      have k1:=(prog_cells (x0:=.slice dao ds.length dcap) (x1:=.slice none 0 0) hr1).1
      have k2:=(prog_cells (x0:=.slice dao ds.length dcap) (x1:=.slice tao ts.length tcap) hr2).2
      refine bodyPost_ret (v:=.agg #[.slice dao ds.length dcap,.slice tao ts.length tcap]) (by simp [results,Tryz.results14,go_sem,k1,k2]) rfl ⟨_,_,rfl,?_,?_,HBel.out.trans hbl⟩
      · rw [HMK.out];exact hD'.dcls (by omega) HFit.out
      · rw [HMK.out];exact hT'.thrs (by omega)
end Go.Proofs.YtlepckjmdjjolaaGreatDoor
