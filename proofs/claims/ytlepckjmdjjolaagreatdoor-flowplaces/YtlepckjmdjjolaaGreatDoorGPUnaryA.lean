/- Own texts laid together: PUnary, PUnary2, PExprL. Conditions: as each theorem says. -/
import Derived.Test.YtlepckjmdjjolaaGreatDoorGPReadA
import Derived.Deep.RegionWith
import Derived.Test.YtlepckjmdjjolaaGreatDoorGRegAll
import Derived.Test.YtlepckjmdjjolaaGreatDoorGPGd
set_option maxHeartbeats 4000000
set_option maxRecDepth 100000
set_option linter.unusedVariables false
set_option linter.unusedSimpArgs false
namespace Go.Proofs.YtlepckjmdjjolaaGreatDoor.Pr
open Go.ChangeShapes Go.WideShapes Go.ChangeAt Go.RowKit
open Lx (Tok)
theorem ne_text {l x:List UInt8} (h:l≠x):((bstr l).toList == x)=false:=by rw [bstr_toList];exact beq_eq_false_iff_ne.2 h
theorem eq_text {l x:List UInt8} (h:l=x):((bstr l).toList == x)=true:=by rw [bstr_toList,h];exact beq_self_eq_true x
@[reducible] def unW (w:World) (T:Tok):World:=((w.alloc zeroE).alloc (tokO T)).alloc (tokO T)
theorem un_start {B br:Nat} {r:Rd} {w:World} (h:RdAt B br r w):RdAt B br r (unW w r.here)/\w.grownBy (unW w r.here) (some br)/\(unW w r.here).heap[w.heap.size]?=some zeroE/\(unW w r.here).heap[w.heap.size+2]?=some (tokO r.here):=
  ⟨((h.alloc _).alloc _).alloc _,grown_alloc (grown_alloc (World.grownBy_alloc w _ _) _) _,by rw [alloc_at,if_neg (by simp;omega),alloc_at,if_neg (by simp),alloc_at,if_pos rfl],by rw [alloc_at,if_pos (by simp)]⟩
theorem un_none {B br:Nat} {r r':Rd} {w w5:World} {x0 x1 x2 x3 x4 x5:Value} (hg:w.grownBy w5 (some br)) (h:RdAt B br r' w5) (hz:w5.heap[w.heap.size]?=some (.cells #[x0,x1,x2,x3,x4,x5] 50 (0,0))) (hl:r'.ts.length<=r.ts.length):
 Mde B br w r (tree0,r') (.returned (.agg #[.int .i64 0,.int .i64 0,.string ⟨#[]⟩,.int .u64 0,.slice none 0 0,.int .i64 0])) (put6 w5 w.heap.size (.int .i64 0) (.int .i64 0) (.string ⟨#[]⟩) (.int .u64 0) (.slice none 0 0) (.int .i64 0)):=
  ⟨_,rfl,erep_leaf (show 1<=r.ts.length+1-r'.ts.length by omega) 0 0 _ 0 _ (by decide),h.put6 hz _ _ _ _ _ _,grown_put6 hg (Nat.le_refl _) _ _ _ _ _ _⟩
theorem un_no (B br deep:Nat) (r:Rd) (w:World) (h:RdAt B br r w) (hb:beginsB r.here=false):
 Calls Tryz.prog 175 #[.pointer (some ⟨br,0,none⟩),.int .i64 (deep:Int)] w (Mde B br w r (tree0,r.fail 2)):=by
  obtain ⟨hW,hG,hz,hf⟩:=un_start h
  have hl:=fail_le 2 h.2.1
  have hh:=here_any B br r _ (h.alloc zeroE)
  have hbg:=begins_any r.here (unW w r.here)
  rw [hb] at hbg
  have HW:=Lib.hid hW
  have HG:=Lib.hid hG
  have HZ:=Lib.hid hz
  have HL:=Lib.hid hl
  have F:=fun w' h'=>fail_any B br 2 r w' h' (by omega)
  clear hW hG hz hf hl h hb
  generalize r.here=T at *
  go_enter Tryz.func175,Tryz.ntmps175
  go_wp2_with (first
   | (go_at_call 57;refine (F _ (HW.out.below hb1)).mono ?_;rintro e w2 ⟨rfl,h2,g2⟩;have z2:=(HW.out.below hb1).heap g2 ((hb1.block _ (heap_lt HZ.out)).trans HZ.out) (by decide);obtain ⟨d0,d1,d2,d3,d4,d5⟩:=box_free z2;obtain ⟨x0,x1,x2,x3,x4,x5⟩:=box_cells z2;have hz2:=heap_lt z2)
   | (go_at_call 187;refine hbg.mono ?_;rintro e w1 ⟨rfl,hb1⟩)
   | (go_at_call 59;refine hh.mono ?_;rintro e w' ⟨rfl,rfl⟩))
  have hP:=put6_heap z2 (.int .i64 0) (.int .i64 0) (.string ⟨#[]⟩) (.int .u64 0) (.slice none 0 0) (.int .i64 0)
  obtain ⟨q0,q1,q2,q3,q4,q5⟩:=box_cells hP
  exact bodyPost_ret (v:=.agg #[.int .i64 0,.int .i64 0,.string ⟨#[]⟩,.int .u64 0,.slice none 0 0,.int .i64 0]) (by simp [results,Tryz.results175,go_sem,q0,q1,q2,q3,q4,q5]) rfl
   (un_none (grownBy_trans (grownBy_trans HG.out (grownBy_below hb1)) g2) h2 z2 HL.out)
theorem un_deep (B br deep:Nat) (r:Rd) (w:World) (h:RdAt B br r w) (hb:beginsB r.here=true) (hd:40<deep) (hd2:deep<=41):
 Calls Tryz.prog 175 #[.pointer (some ⟨br,0,none⟩),.int .i64 (deep:Int)] w (Mde B br w r (tree0,r.fail 6)):=by
  obtain ⟨hW,hG,hz,hf⟩:=un_start h
  have hl:=fail_le 6 h.2.1
  have hh:=here_any B br r _ (h.alloc zeroE)
  have hbg:=begins_any r.here (unW w r.here)
  rw [hb] at hbg
  have HW:=Lib.hid hW
  have HG:=Lib.hid hG
  have HZ:=Lib.hid hz
  have HL:=Lib.hid hl
  have F:=fun w' h'=>fail_any B br 6 r w' h' (by omega)
  clear hW hG hz hf hl h hb
  generalize r.here=T at *
  go_enter Tryz.func175,Tryz.ntmps175
  go_wp2_with (first
   | (go_at_call 57;refine (F _ (HW.out.below hb1)).mono ?_;rintro e w2 ⟨rfl,h2,g2⟩;have z2:=(HW.out.below hb1).heap g2 ((hb1.block _ (heap_lt HZ.out)).trans HZ.out) (by decide);obtain ⟨d0,d1,d2,d3,d4,d5⟩:=box_free z2;obtain ⟨x0,x1,x2,x3,x4,x5⟩:=box_cells z2;have hz2:=heap_lt z2)
   | (go_at_call 187;refine hbg.mono ?_;rintro e w1 ⟨rfl,hb1⟩)
   | (go_at_call 59;refine hh.mono ?_;rintro e w' ⟨rfl,rfl⟩))
  have hP:=put6_heap z2 (.int .i64 0) (.int .i64 0) (.string ⟨#[]⟩) (.int .u64 0) (.slice none 0 0) (.int .i64 0)
  obtain ⟨q0,q1,q2,q3,q4,q5⟩:=box_cells hP
  exact bodyPost_ret (v:=.agg #[.int .i64 0,.int .i64 0,.string ⟨#[]⟩,.int .u64 0,.slice none 0 0,.int .i64 0]) (by simp [results,Tryz.results175,go_sem,q0,q1,q2,q3,q4,q5]) rfl
   (un_none (grownBy_trans (grownBy_trans HG.out (grownBy_below hb1)) g2) h2 z2 HL.out)
def UnAt (B br:Nat) (w:World) (T:Tok) (r':Rd) (w2:World):Prop:=
  RdAt B br r' w2/\w.grownBy w2 (some br)/\w2.heap[w.heap.size]?=some zeroE/\w2.heap[w.heap.size+2]?=some (tokO T)
theorem UnAt.on {B br:Nat} {w w2 w3:World} {T:Tok} {r r':Rd} (h:UnAt B br w T r w2) (h':RdAt B br r' w3) (hg:w2.grownBy w3 (some br)):UnAt B br w T r' w3:=
  ⟨h',grownBy_trans h.2.1 hg,h.1.heap hg h.2.2.1 (by decide),h.1.heap hg h.2.2.2 (by decide)⟩
theorem un_next {B br:Nat} {w w1:World} {T:Tok} {r:Rd} (hW:RdAt B br r (unW w T)) (hG:w.grownBy (unW w T) (some br)) (hz:(unW w T).heap[w.heap.size]?=some zeroE) (hf:(unW w T).heap[w.heap.size+2]?=some (tokO T)) (hb:Below (unW w T).heap.size (unW w T) w1):UnAt B br w T r w1:=
  ⟨hW.below hb,grownBy_trans hG (grownBy_below hb),(hb.block _ (heap_lt hz)).trans hz,(hb.block _ (heap_lt hf)).trans hf⟩
theorem un_digits (B br deep:Nat) (r:Rd) (w:World) (h:RdAt B br r w) (hb:beginsB r.here=true) (hd:deep<=40) (h1:r.here.text≠[126]) (h2:r.here.text≠kPick) (h3:r.here.text≠[40]) (hk:r.here.kind=3):
    Calls Tryz.prog 175 #[.pointer (some ⟨br,0,none⟩),.int .i64 (deep:Int)] w (Mde B br w r (⟨0,0,⟨#[]⟩,r.here.value,[],r.here.at_⟩,r.next)):=by
  obtain ⟨hW,hG,hz,hf⟩:=un_start h
  have hl:=(to_next r).2.1 h.2.1
  have hh:=here_any B br r _ (h.alloc zeroE)
  have hbg:=begins_any r.here (unW w r.here)
  rw [hb] at hbg
  have hv:r.here.value<18446744073709551616:=by
    obtain ⟨_,g2,_,g,off,cap,sg,ev,_,_,_,ht,_⟩:=h
    exact (ht.2 0 r.here (good_head g2)).1.2.2.1
  have HU:=fun w1 hb=>Lib.hid (un_next hW hG hz hf (w1:=w1) hb)
  have HL:=Lib.hid hl
  have F:=fun w' h'=>rnext_any B br r w' h'
  have x1:=ne_text h1
  have x2:((bstr r.here.text).toList == [112,105,99,107])=false:=ne_text h2
  have x3:=ne_text h3
  have hk1:3<=((r.here.kind:Nat):Int):=by omega
  have hk2:((r.here.kind:Nat):Int)<=3:=by omega
  have HV:=Lib.hid hv
  clear hW hG hz hf hl h hb h1 h2 h3 hk hv
  generalize r.here=T at *
  go_enter Tryz.func175,Tryz.ntmps175
  go_wp2_with (first
    | (go_at_call 119;refine (F _ u1.out.1).mono ?_;rintro e w2 ⟨rfl,h2,g2⟩;have u2:=Lib.hid (u1.out.on h2 g2);have z2:=u2.out.2.2.1;obtain ⟨d0,d1,d2,d3,d4,d5⟩:=box_free z2;obtain ⟨x0,x1,x2,x3,x4,x5⟩:=box_cells z2;have hz2:=heap_lt z2;obtain ⟨t0,t1,t2,t3⟩:=four_tok u2.out.2.2.2)
    | (go_at_call 187;refine hbg.mono ?_;rintro e w1 ⟨rfl,hb1⟩;have u1:=HU _ hb1)
    | (go_at_call 59;refine hh.mono ?_;rintro e w' ⟨rfl,rfl⟩))
  have hP:=put6_heap z2 (.int .i64 0) (.int .i64 0) (.string ⟨#[]⟩) (.int .u64 (T.value:Int)) (.slice none 0 0) (.int .i64 (T.at_:Int))
  obtain ⟨q0,q1,q2,q3,q4,q5⟩:=box_cells hP
  exact bodyPost_ret (v:=.agg #[.int .i64 0,.int .i64 0,.string ⟨#[]⟩,.int .u64 (T.value:Int),.slice none 0 0,.int .i64 (T.at_:Int)]) (by simp [results,Tryz.results175,go_sem,q0,q1,q2,q3,q4,q5]) rfl
    ⟨_,rfl,erep_leaf (by have:=HL.out;unfold gap;simp only;omega) 0 0 _ T.value _ HV.out,h2.put6 z2 _ _ _ _ _ _,grown_put6 u2.out.2.1 (Nat.le_refl _) _ _ _ _ _ _⟩
theorem un_name {f:Nat} (ih:RExC f) (B br deep:Nat) (r:Rd) (w:World) (h:RdAt B br r w) (hb:beginsB r.here=true) (hd:deep+1+f=41) (h1:r.here.text≠[126]) (h2:r.here.text≠kPick) (h3:r.here.text≠[40]) (hk:r.here.kind≠3):
    Calls Tryz.prog 175 #[.pointer (some ⟨br,0,none⟩),.int .i64 (deep:Int)] w (Mde B br w r (namedOf (exprP f) r.here deep r.next)):=by
  obtain ⟨hW,hG,hz,hf⟩:=un_start h
  have hl:=(to_next r).2.1 h.2.1
  have hh:=here_any B br r _ (h.alloc zeroE)
  have hbg:=begins_any r.here (unW w r.here)
  rw [hb] at hbg
  have HU:=fun w1 hb=>Lib.hid (un_next hW hG hz hf (w1:=w1) hb)
  have F:=fun w' h'=>rnext_any B br r w' h'
  have N:=fun w' h'=>named_of ih B br deep r.here r.next w' h' hd
  have lN:(namedOf (exprP f) r.here deep r.next).2.ts.length<=r.next.ts.length:=(to_named (to_expr f) r.here deep r.next).2.1 h.2.1.next
  obtain ⟨t4,r4,e4⟩:∃ t x,namedOf (exprP f) r.here deep r.next=(t,x):=⟨_,_,rfl⟩
  rw [e4] at N lN ⊢
  have HL:Hid (r4.ts.length<=r.next.ts.length/\r.next.ts.length<=r.ts.length):=⟨lN,hl⟩
  have x1:=ne_text h1
  have x2:((bstr r.here.text).toList == [112,105,99,107])=false:=ne_text h2
  have x3:=ne_text h3
  have hk1:¬ ((r.here.kind:Nat):Int)=3:=by omega
  have hdd:deep<=40:=by omega
  clear hW hG hz hf hl h hb h1 h2 h3 hk e4 lN
  generalize r.here=T at *
  go_enter Tryz.func175,Tryz.ntmps175
  go_wp2_with (first
    | (go_at_call 189;refine (N _ u2.out.1).mono ?_;rintro e w3 ⟨v3,rfl,E3,h3,g3⟩;obtain ⟨ao3,kl3,cap3,rfl⟩:=erep_agg E3;have u3:=Lib.hid (u2.out.on h3 g3);have z3:=u3.out.2.2.1;obtain ⟨d0,d1,d2,d3,d4,d5⟩:=box_free z3;obtain ⟨x0,x1,x2,x3,x4,x5⟩:=box_cells z3;have hz3:=heap_lt z3)
    | (go_at_call 119;refine (F _ u1.out.1).mono ?_;rintro e w2 ⟨rfl,h2,g2⟩;have u2:=Lib.hid (u1.out.on h2 g2);obtain ⟨t0,t1,t2,t3⟩:=four_tok u2.out.2.2.2)
    | (go_at_call 187;refine hbg.mono ?_;rintro e w1 ⟨rfl,hb1⟩;have u1:=HU _ hb1)
    | (go_at_call 59;refine hh.mono ?_;rintro e w' ⟨rfl,rfl⟩))
  have hP:=put6_heap z3 (.int .i64 t4.kind) (.int .i64 t4.op) (.string t4.name) (.int .u64 (t4.value:Int)) (.slice ao3 kl3 cap3) (.int .i64 t4.at_)
  obtain ⟨q0,q1,q2,q3,q4,q5⟩:=box_cells hP
  obtain ⟨l1,l2⟩:=HL.out
  have s2:=u2.out.2.1.size
  have hlt2:=heap_lt u2.out.2.2.2
  have res:ERep w.heap.size (put6 w3 w.heap.size (.int .i64 t4.kind) (.int .i64 t4.op) (.string t4.name) (.int .u64 (t4.value:Int)) (.slice ao3 kl3 cap3) (.int .i64 t4.at_)).heap.size (put6 w3 w.heap.size (.int .i64 t4.kind) (.int .i64 t4.op) (.string t4.name) (.int .u64 (t4.value:Int)) (.slice ao3 kl3 cap3) (.int .i64 t4.at_)) (gap r r4) _ t4:=
    (E3.carry s2 (by rw [put6_size];exact Nat.le_refl _) fun g cs fr hlo hhi hc=>(put6_other _ _ _ _ _ _ _ _ g (by omega)).trans hc).up (by unfold gap;omega)
  exact bodyPost_ret (v:=.agg #[.int .i64 t4.kind,.int .i64 t4.op,.string t4.name,.int .u64 (t4.value:Int),.slice ao3 kl3 cap3,.int .i64 t4.at_]) (by simp [results,Tryz.results175,go_sem,q0,q1,q2,q3,q4,q5]) rfl
    ⟨_,rfl,res,h3.put6 z3 _ _ _ _ _ _,grown_put6 u3.out.2.1 (Nat.le_refl _) _ _ _ _ _ _⟩
theorem un_open {f:Nat} (ih:RExC f) (B br deep:Nat) (r:Rd) (w:World) (h:RdAt B br r w) (hb:beginsB r.here=true) (hd:deep+1+f=41) (h3:r.here.text=[40]):
    Calls Tryz.prog 175 #[.pointer (some ⟨br,0,none⟩),.int .i64 (deep:Int)] w (Mde B br w r ((exprP f 0 (deep+1) r.next).1,(exprP f 0 (deep+1) r.next).2.want [41])):=by
  obtain ⟨hW,hG,hz,hf⟩:=un_start h
  have hl:=(to_next r).2.1 h.2.1
  have hh:=here_any B br r _ (h.alloc zeroE)
  have hbg:=begins_any r.here (unW w r.here)
  rw [hb] at hbg
  have HU:=fun w1 hb=>Lib.hid (un_next hW hG hz hf (w1:=w1) hb)
  have F:=fun w' h'=>rnext_any B br r w' h'
  have lN:=(to_expr f 0 (deep+1) r.next).2.1 h.2.1.next
  have gN:=(to_expr f 0 (deep+1) r.next).1 h.2.1.next
  obtain ⟨t4,r4,e4⟩:∃ t x,exprP f 0 (deep+1) r.next=(t,x):=⟨_,_,rfl⟩
  have X:∀ w',RdAt B br r.next w'->Calls Tryz.prog 162 #[.pointer (some ⟨br,0,none⟩),.int .i64 0,.int .i64 ((deep:Int)+1)] w' (Mde B br w' r.next (t4,r4)):=fun w' h'=>by
    have:=ih B br 0 (deep+1) r.next w' h' (by omega) (by omega)
    rw [e4] at this
    exact this
  rw [e4] at lN gN ⊢
  have l5:=(to_want [41] r4).2.1 gN
  obtain ⟨r5,e5⟩:∃ x,r4.want [41]=x:=⟨_,rfl⟩
  have W5:=fun w' h'=>want_any B br r4 ⟨#[41]⟩ [41] rfl w' h'
  simp only
  rw [e5] at W5 l5 ⊢
  have HL:Hid (r5.ts.length<=r4.ts.length/\r4.ts.length<=r.next.ts.length/\r.next.ts.length<=r.ts.length):=⟨l5,lN,hl⟩
  have x1:((bstr r.here.text).toList == [126])=false:=ne_text (by rw [h3];decide)
  have x2:((bstr r.here.text).toList == [112,105,99,107])=false:=ne_text (by rw [h3];decide)
  have x3:=eq_text h3
  have hdd:deep<=40:=by omega
  clear hW hG hz hf hl h hb h3 e4 lN gN e5 l5
  generalize r.here=T at *
  go_enter Tryz.func175,Tryz.ntmps175
  go_wp2_with (first
    | (go_at_call 60;refine (W5 _ (h3.alloc _)).mono ?_;rintro e w4 ⟨rfl,h4,g4⟩;have b4:=(h3.alloc _).heap g4 (heap_alloc_new w3 (.cells #[.int .i64 t4.kind,.int .i64 t4.op,.string t4.name,.int .u64 t4.value,.slice ao3 kl3 cap3,.int .i64 t4.at_] 50)) (by decide);obtain ⟨a0,a1,a2,a3,a4,a5⟩:=box_cells b4;have u4:=Lib.hid (u3.out.on h4 (grownBy_trans (World.grownBy_alloc w3 _ _) g4));have z4:=u4.out.2.2.1;obtain ⟨d0,d1,d2,d3,d4,d5⟩:=box_free z4;obtain ⟨x0,x1,x2,x3,x4,x5⟩:=box_cells z4;have hz4:=heap_lt z4)
    | (go_at_call 162;refine (X _ u2.out.1).mono ?_;rintro e w3 ⟨v3,rfl,E3,h3,g3⟩;obtain ⟨ao3,kl3,cap3,rfl⟩:=erep_agg E3;have u3:=Lib.hid (u2.out.on h3 g3))
    | (go_at_call 119;refine (F _ u1.out.1).mono ?_;rintro e w2 ⟨rfl,h2,g2⟩;have u2:=Lib.hid (u1.out.on h2 g2);obtain ⟨t0,t1,t2,t3⟩:=four_tok u2.out.2.2.2)
    | (go_at_call 187;refine hbg.mono ?_;rintro e w1 ⟨rfl,hb1⟩;have u1:=HU _ hb1)
    | (go_at_call 59;refine hh.mono ?_;rintro e w' ⟨rfl,rfl⟩))
  have hP:=put6_heap z4 (.int .i64 t4.kind) (.int .i64 t4.op) (.string t4.name) (.int .u64 (t4.value:Int)) (.slice ao3 kl3 cap3) (.int .i64 t4.at_)
  obtain ⟨q0,q1,q2,q3,q4,q5⟩:=box_cells hP
  obtain ⟨l0,l1,l2⟩:=HL.out
  have s2:=u2.out.2.1.size
  have hlt2:=heap_lt u2.out.2.2.2
  have sg:=(grownBy_trans (World.grownBy_alloc w3 (.cells #[.int .i64 t4.kind,.int .i64 t4.op,.string t4.name,.int .u64 t4.value,.slice ao3 kl3 cap3,.int .i64 t4.at_] 50) _) g4).size
  have res:ERep w.heap.size (put6 w4 w.heap.size (.int .i64 t4.kind) (.int .i64 t4.op) (.string t4.name) (.int .u64 (t4.value:Int)) (.slice ao3 kl3 cap3) (.int .i64 t4.at_)).heap.size (put6 w4 w.heap.size (.int .i64 t4.kind) (.int .i64 t4.op) (.string t4.name) (.int .u64 (t4.value:Int)) (.slice ao3 kl3 cap3) (.int .i64 t4.at_)) (gap r r5) _ t4:=
    (E3.carry s2 (by rw [put6_size];exact sg) fun g cs fr hlo hhi hc=>(put6_other _ _ _ _ _ _ _ _ g (by omega)).trans ((h3.alloc _).heap g4 (alloc_keep hc _) (by decide))).up (by unfold gap;omega)
  exact bodyPost_ret (v:=.agg #[.int .i64 t4.kind,.int .i64 t4.op,.string t4.name,.int .u64 (t4.value:Int),.slice ao3 kl3 cap3,.int .i64 t4.at_]) (by simp [results,Tryz.results175,go_sem,q0,q1,q2,q3,q4,q5]) rfl
    ⟨_,rfl,res,h4.put6 z4 _ _ _ _ _ _,grown_put6 u4.out.2.1 (Nat.le_refl _) _ _ _ _ _ _⟩
def KidsAt (w0 w:World) (n:Nat) (v:Value) (ks:List Tree):Prop:=Kids (w0.heap.size+1) w.heap.size w (fun v t=>ERep (w0.heap.size+1) w.heap.size w n v t) v ks
theorem un_kids {B br n:Nat} {r r':Rd} {w w5:World} {T:Tok} {k:Int} {ks:List Tree} {kv:Value} (u:UnAt B br w T r' w5) (hK:KidsAt w w5 n kv ks) (hn:n+1<=gap r r'):
    Mde B br w r (⟨k,0,⟨#[]⟩,0,ks,T.at_⟩,r') (.returned (.agg #[.int .i64 k,.int .i64 0,.string ⟨#[]⟩,.int .u64 0,kv,.int .i64 (T.at_:Int)])) (put6 w5 w.heap.size (.int .i64 k) (.int .i64 0) (.string ⟨#[]⟩) (.int .u64 0) kv (.int .i64 (T.at_:Int))):=by
  have hs:∀ lo,w.heap.size+1<=lo->Same35 lo w5.heap.size w5 (put6 w5 w.heap.size (.int .i64 k) (.int .i64 0) (.string ⟨#[]⟩) (.int .u64 0) kv (.int .i64 (T.at_:Int))):=fun lo hlo g cs fr h1 _ hc=>(put6_other _ _ _ _ _ _ _ _ g (by omega)).trans hc
  have hz:=put6_size w5 w.heap.size (.int .i64 k) (.int .i64 0) (.string ⟨#[]⟩) (.int .u64 0) kv (.int .i64 (T.at_:Int))
  have K:Kids w.heap.size (put6 w5 w.heap.size (.int .i64 k) (.int .i64 0) (.string ⟨#[]⟩) (.int .u64 0) kv (.int .i64 (T.at_:Int))).heap.size (put6 w5 w.heap.size (.int .i64 k) (.int .i64 0) (.string ⟨#[]⟩) (.int .u64 0) kv (.int .i64 (T.at_:Int))) (fun v t=>ERep w.heap.size (put6 w5 w.heap.size (.int .i64 k) (.int .i64 0) (.string ⟨#[]⟩) (.int .u64 0) kv (.int .i64 (T.at_:Int))).heap.size (put6 w5 w.heap.size (.int .i64 k) (.int .i64 0) (.string ⟨#[]⟩) (.int .u64 0) kv (.int .i64 (T.at_:Int))) n v t) kv ks:=
    hK.carry (Nat.le_succ _) (by rw [hz];exact Nat.le_refl _) (hs _ (Nat.le_refl _)) fun v t hE=>hE.carry (Nat.le_succ _) (by rw [hz];exact Nat.le_refl _) (hs _ (Nat.le_refl _))
  exact ⟨_,rfl,erep_kids k 0 _ 0 _ ks kv (by decide) K hn,u.1.put6 u.2.2.1 _ _ _ _ _ _,grown_put6 u.2.1 (Nat.le_refl _) _ _ _ _ _ _⟩
theorem wrap_deep (deep:Nat) (h:deep<=40):IntKind.i64.wrap ((deep:Int)+1)=(deep:Int)+1:=by rw [IntKind.wrap_i64];omega
def pairs (ss:List Nat) (V:Nat->Value):List (Nat × Value):=ss.zipIdx.map fun p=>(p.1,V p.2)
theorem at_writeAll {ops:Array Oper} {V:Nat->Value} {t:Array Value} {Q:Exit->Act->World->Prop} {d:List Deferred} {w:World} (l:List (Nat × Value)) (e:∀ t,writeAll ops V t=l.foldl (fun t p=>t.setIfInBounds p.1 p.2) t) (h:Q .normal ⟨l.foldl (fun t p=>t.setIfInBounds p.1 p.2) t,d⟩ w):Q .normal ⟨writeAll ops V t,d⟩ w:=by
  rw [e];exact h
def pickV (br F deep:Nat) (T:Tok) (q:Nat):Nat->Value
  | 0=>.pointer (some ⟨br,0,none⟩)
  | 1=>.int .i64 (deep:Int)
  | 2=>.int .i64 ((deep:Int)+1)
  | 3=>.slice (some ⟨q,0,none⟩) 3 3
  | 4=>.pointer (some ⟨F,3,none⟩)
  | 5=>.int .i64 (T.at_:Int)
  | 6=>.agg #[.int .i64 5,.int .i64 0,.string ⟨#[]⟩,.int .u64 0,.slice (some ⟨q,0,none⟩) 3 3,.int .i64 (T.at_:Int)]
  | _=>undef
def pickInv (B br n:Nat) (w0:World) (T:Tok) (r1 r4:Rd) (ks:List Tree) (L:Nat->Bool) (q:Nat) (w:World):Prop:=
  (L 3=false->UnAt B br w0 T r1 w)/\(L 3=true->L 7=false->UnAt B br w0 T r4 w/\KidsAt w0 w n (.slice (some ⟨q,0,none⟩) 3 3) ks) /\
  (L 7=true->∃ w5,UnAt B br w0 T r4 w5/\KidsAt w0 w5 n (.slice (some ⟨q,0,none⟩) 3 3) ks/\w=put6 w5 w0.heap.size (.int .i64 5) (.int .i64 0) (.string ⟨#[]⟩) (.int .u64 0) (.slice (some ⟨q,0,none⟩) 3 3) (.int .i64 (T.at_:Int)))
theorem un_pick {f:Nat} (ih:RExC f) (B br deep:Nat) (r:Rd) (w:World) (h:RdAt B br r w) (hb:beginsB r.here=true) (hd:deep+1+f=41) (h2:r.here.text=kPick):
    Calls Tryz.prog 175 #[.pointer (some ⟨br,0,none⟩),.int .i64 (deep:Int)] w (Mde B br w r (⟨5,0,⟨#[]⟩,0,(threeOf (exprP f) (deep+1) r.next).1,r.here.at_⟩,(threeOf (exprP f) (deep+1) r.next).2)):=by
  obtain ⟨hW,hG,hz,hf⟩:=un_start h
  have hl:=(to_next r).2.1 h.2.1
  have hh:=here_any B br r _ (h.alloc zeroE)
  have hbg:=begins_any r.here (unW w r.here)
  rw [hb] at hbg
  have HU:=fun w1 hb=>Lib.hid (un_next hW hG hz hf (w1:=w1) hb)
  have F:=fun w' h'=>rnext_any B br r w' h'
  have lN:=(to_three (to_expr f) (deep+1) r.next).2.1 h.2.1.next
  obtain ⟨ks,r4,e4⟩:∃ t x,threeOf (exprP f) (deep+1) r.next=(t,x):=⟨_,_,rfl⟩
  have X:∀ w',RdAt B br r.next w'->Calls Tryz.prog 188 #[.pointer (some ⟨br,0,none⟩),.int .i64 ((deep:Int)+1)] w' fun e w2=>∃ g,e=.returned (.slice (some ⟨g,0,none⟩) 3 3) /\
   Kids w'.heap.size w2.heap.size w2 (fun v t=>ERep w'.heap.size w2.heap.size w2 (gap r.next r4) v t) (.slice (some ⟨g,0,none⟩) 3 3) ks/\RdAt B br r4 w2/\w'.grownBy w2 (some br):=fun w' h'=>by
    have:=three_of ih B br (deep+1) r.next w' h' (by omega)
    rw [e4] at this
    exact this
  rw [e4] at lN ⊢
  have ln:r.next.ts.length+1=r.ts.length:=(is_next h.2.1 (s:=kPick) (by decide) (by unfold Rd.is;rw [h2];exact beq_self_eq_true _)).2
  have HL:Hid (r4.ts.length<=r.next.ts.length/\r.next.ts.length+1=r.ts.length):=⟨lN,ln⟩
  have x1:((bstr r.here.text).toList == [126])=false:=ne_text (by rw [h2];decide)
  have x2:((bstr r.here.text).toList == [112,105,99,107])=true:=eq_text h2
  have hdd:deep<=40:=by omega
  clear hW hG hz hf hl h hb h2 e4 lN ln
  generalize r.here=T at *
  go_enter Tryz.func175,Tryz.ntmps175
  go_wp2_with (first
    | (go_at_call 119;refine (F _ u1.out.1).mono ?_;rintro e w2 ⟨rfl,h2,g2⟩;have u2:=Lib.hid (u1.out.on h2 g2);obtain ⟨t0,t1,t2,t3⟩:=four_tok u2.out.2.2.2;have hz2:=heap_lt u2.out.2.2.1;have hz3:=heap_lt u2.out.2.2.2)
    | (go_at_call 187;refine hbg.mono ?_;rintro e w1 ⟨rfl,hb1⟩;have u1:=HU _ hb1)
    | (go_at_call 59;refine hh.mono ?_;rintro e w' ⟨rfl,rfl⟩))
  have u2d:UnAt B br w T r.next w2.drew:=u2.out.on h2.drew (grown_drew (grownBy_refl _ _))
  have hgap:gap r.next r4+1<=gap r r4:=by obtain ⟨a,b⟩:=HL.out;unfold gap;omega
  refine wp_region_slots (by kernel_rfl) (by kernel_rfl) (by kernel_rfl) (by kernel_rfl) (pickV br (w.heap.size+2) deep T) (pickInv B br (gap r.next r4) w T r.next r4 ks) 0 ⟨fun _=>u2d,(fun e=>by cases e),(fun e=>by cases e)⟩ ?_ ?_
  · intro L q a wr i op hop hLi hpre hC hI hS K hK
    have s0:a.tmps[0]?.getD undef=.pointer (some ⟨br,0,none⟩):=(hS.old2 0 (by kernel_rfl)).trans rfl
    have s1:a.tmps[1]?.getD undef=.int .i64 (deep:Int):=(hS.old2 1 (by kernel_rfl)).trans rfl
    have s4:a.tmps[4]?.getD undef=.pointer (some ⟨w.heap.size,0,none⟩):=(hS.old2 4 (by kernel_rfl)).trans rfl
    have s5:a.tmps[5]?.getD undef=.pointer (some ⟨w.heap.size+2,0,none⟩):=(hS.old2 5 (by kernel_rfl)).trans rfl
    have keep:∀ (g':Nat),g'=q->∀ j,j≠i->L j=true->pickV br (w.heap.size+2) deep T g' j=pickV br (w.heap.size+2) deep T q j:=fun g' e _ _ _=>by rw [e]
    have same:∀ g',pickInv B br (gap r.next r4) w T r.next r4 ks L g' wr->i≠3->i≠7->pickInv B br (gap r.next r4) w T r.next r4 ks (fun j=>if j=i then true else L j) g' wr:=fun g' h h3 h7=>by
     unfold pickInv at h ⊢
     simp only [show ¬ (3=i) from fun e=>h3 e.symm,show ¬ (7=i) from fun e=>h7 e.symm,if_false]
     exact h
    match i with
    | 0=>
      obtain rfl:=Option.some.inj hop
      go_simp
      exact hK _ _ ⟨q,fun _=>rfl,keep q rfl,same q hI (by decide) (by decide)⟩
    | 1=>
      obtain rfl:=Option.some.inj hop
      go_simp
      exact hK _ _ ⟨q,fun _=>rfl,keep q rfl,same q hI (by decide) (by decide)⟩
    | 2=>
      obtain rfl:=Option.some.inj hop
      have n1:=hS.new2 1 39 (by kernel_rfl) (pre_at hpre 1 (by kernel_rfl)) (show 39<66 by decide)
      simp only [pickV] at n1
      go_simp
      exact hK _ _ ⟨q,fun _=>by rw [wrap_deep deep hdd];rfl,keep q rfl,same q hI (by decide) (by decide)⟩
    | 3=>
      obtain rfl:=Option.some.inj hop
      have n0:=hS.new2 0 38 (by kernel_rfl) (pre_at hpre 0 (by kernel_rfl)) (show 38<66 by decide)
      have n2:=hS.new2 2 40 (by kernel_rfl) (pre_at hpre 2 (by kernel_rfl)) (show 40<66 by decide)
      simp only [pickV] at n0 n2
      have no6:L 6=false:=by cases h:L 6 with | false=>rfl | true=>exact absurd (hC.at 6 3 (by kernel_rfl) h) (by simp [hLi])
      have no7:L 7=false:=by cases h:L 7 with | false=>rfl | true=>exact absurd (hC.at 7 6 (by kernel_rfl) h) (by simp [no6])
      have u:=hI.1 hLi
      go_simp
      go_at_call 188
      refine (X wr u.1).mono ?_
      rintro e w3 ⟨q3,rfl,K3,h3,g3⟩
      go_simp
      have hs:=u.2.1.size
      have hlt:=heap_lt u.2.2.2
      refine hK _ _ ⟨q3,fun _=>rfl,fun j hj hLj=>?_,(fun e=>by cases e),(fun _ _=>⟨u.on h3 g3,K3.carry (by omega) (Nat.le_refl _) (fun _ _ _ _ _ h=>h) fun _ _ hE=>hE.carry (by omega) (Nat.le_refl _) (fun _ _ _ _ _ h=>h)⟩),(fun e=>by simp only [show ¬ (7=3) by decide,if_false,no7] at e;cases e)⟩
      unfold pickV
      split <;> first | rfl | exact absurd rfl hj | (rw [no6] at hLj;cases hLj)
    | 4=>
      obtain rfl:=Option.some.inj hop
      go_simp
      exact hK _ _ ⟨q,fun _=>rfl,keep q rfl,same q hI (by decide) (by decide)⟩
    | 5=>
      obtain rfl:=Option.some.inj hop
      have n4:=hS.new2 4 42 (by kernel_rfl) (pre_at hpre 4 (by kernel_rfl)) (show 42<66 by decide)
      simp only [pickV] at n4
      have no7:L 7=false:=by cases h:L 7 with | false=>rfl | true=>exact absurd (hC.at 6 5 (by kernel_rfl) (hC.at 7 6 (by kernel_rfl) h)) (by simp [hLi])
      have hT:wr.heap[w.heap.size+2]?=some (tokO T):=by
       cases h3:L 3 with
       | false=>exact (hI.1 h3).2.2.2
       | true=>exact (hI.2.1 h3 no7).1.2.2.2
      obtain ⟨c0,c1,c2,c3⟩:=four_tok hT
      go_simp
      exact hK _ _ ⟨q,fun _=>rfl,keep q rfl,same q hI (by decide) (by decide)⟩
    | 6=>
      obtain rfl:=Option.some.inj hop
      have n3:=hS.new2 3 41 (by kernel_rfl) (pre_at hpre 3 (by kernel_rfl)) (show 41<66 by decide)
      have n5:=hS.new2 5 43 (by kernel_rfl) (pre_at hpre 5 (by kernel_rfl)) (show 43<66 by decide)
      simp only [pickV] at n3 n5
      go_simp
      exact hK _ _ ⟨q,fun _=>rfl,keep q rfl,same q hI (by decide) (by decide)⟩
    | 7=>
      obtain rfl:=Option.some.inj hop
      have l6:=pre_at hpre 6 (by kernel_rfl)
      have n6:=hS.new2 6 44 (by kernel_rfl) l6 (show 44<66 by decide)
      simp only [pickV] at n6
      have l3:L 3=true:=hC.at 6 3 (by kernel_rfl) l6
      obtain ⟨u,kk⟩:=hI.2.1 l3 hLi
      have z:=u.2.2.1
      obtain ⟨d0,d1,d2,d3,d4,d5⟩:=box_free z
      obtain ⟨x0,x1,x2,x3,x4,x5⟩:=box_cells z
      have hz:=heap_lt z
      go_simp
      refine hK undef _ ⟨q,fun e=>absurd rfl e,keep q rfl,(fun e=>by simp only [show ¬ (3=7) by decide,if_false,l3] at e;cases e),(fun _ e=>by cases e),(fun _=>⟨wr,u,kk,rfl⟩)⟩
    | k+8=>simp at hop
  · intro L q wr hL hI
    obtain ⟨w5,u,kk,rfl⟩:=hI.2.2 (hL 7 (by decide))
    have hP:=put6_heap u.2.2.1 (.int .i64 5) (.int .i64 0) (.string ⟨#[]⟩) (.int .u64 0) (.slice (some ⟨q,0,none⟩) 3 3) (.int .i64 (T.at_:Int))
    obtain ⟨q0,q1,q2,q3,q4,q5⟩:=box_cells hP
    refine at_writeAll (pairs [38,39,40,41,42,43,44] (pickV br (w.heap.size+2) deep T q)) (fun t=>by kernel_rfl) ?_
    simp only [pairs,List.zipIdx,List.map,List.foldl,pickV]
    go_wp2
    exact bodyPost_ret (v:=.agg #[.int .i64 5,.int .i64 0,.string ⟨#[]⟩,.int .u64 0,.slice (some ⟨q,0,none⟩) 3 3,.int .i64 (T.at_:Int)]) (by simp [results,Tryz.results175,go_sem,q0,q1,q2,q3,q4,q5]) rfl (un_kids u kk hgap)
structure NG where
  v:Value
  q:Nat
def notV (br F deep:Nat) (T:Tok) (g:NG):Nat->Value
  | 0=>.pointer (some ⟨br,0,none⟩)
  | 1=>.int .i64 (deep:Int)
  | 2=>.int .i64 ((deep:Int)+1)
  | 3=>g.v
  | 4=>.slice (some ⟨g.q,0,none⟩) 1 1
  | 5=>.pointer (some ⟨F,3,none⟩)
  | 6=>.int .i64 (T.at_:Int)
  | 7=>.agg #[.int .i64 4,.int .i64 0,.string ⟨#[]⟩,.int .u64 0,.slice (some ⟨g.q,0,none⟩) 1 1,.int .i64 (T.at_:Int)]
  | _=>undef
def notInv (B br n:Nat) (w0:World) (T:Tok) (r1 r4:Rd) (t4:Tree) (L:Nat->Bool) (g:NG) (w:World):Prop:=
  (L 3=false->UnAt B br w0 T r1 w)/\(L 3=true->L 4=false->UnAt B br w0 T r4 w/\ERep (w0.heap.size+1) w.heap.size w n g.v t4) /\
  (L 4=true->L 8=false->UnAt B br w0 T r4 w/\KidsAt w0 w n (.slice (some ⟨g.q,0,none⟩) 1 1) [t4]) /\
  (L 8=true->∃ w5,UnAt B br w0 T r4 w5/\KidsAt w0 w5 n (.slice (some ⟨g.q,0,none⟩) 1 1) [t4]/\w=put6 w5 w0.heap.size (.int .i64 4) (.int .i64 0) (.string ⟨#[]⟩) (.int .u64 0) (.slice (some ⟨g.q,0,none⟩) 1 1) (.int .i64 (T.at_:Int)))
theorem un_not {f:Nat} (ih:RUnC f) (B br deep:Nat) (r:Rd) (w:World) (h:RdAt B br r w) (hb:beginsB r.here=true) (hd:deep+1+f=41) (h2:r.here.text=[126]):
    Calls Tryz.prog 175 #[.pointer (some ⟨br,0,none⟩),.int .i64 (deep:Int)] w (Mde B br w r (⟨4,0,⟨#[]⟩,0,[(unaryP f (deep+1) r.next).1],r.here.at_⟩,(unaryP f (deep+1) r.next).2)):=by
  obtain ⟨hW,hG,hz,hf⟩:=un_start h
  have hl:=(to_next r).2.1 h.2.1
  have hh:=here_any B br r _ (h.alloc zeroE)
  have hbg:=begins_any r.here (unW w r.here)
  rw [hb] at hbg
  have HU:=fun w1 hb=>Lib.hid (un_next hW hG hz hf (w1:=w1) hb)
  have F:=fun w' h'=>rnext_any B br r w' h'
  have lN:=((to_pair f).2 (deep+1) r.next).2.1 h.2.1.next
  obtain ⟨t4,r4,e4⟩:∃ t x,unaryP f (deep+1) r.next=(t,x):=⟨_,_,rfl⟩
  have X:∀ w',RdAt B br r.next w'->Calls Tryz.prog 175 #[.pointer (some ⟨br,0,none⟩),.int .i64 ((deep:Int)+1)] w' (Mde B br w' r.next (t4,r4)):=fun w' h'=>by
    have:=ih B br (deep+1) r.next w' h' (by omega)
    rw [e4] at this
    exact this
  rw [e4] at lN ⊢
  have ln:r.next.ts.length+1=r.ts.length:=(is_next h.2.1 (s:=[126]) (by decide) (by unfold Rd.is;rw [h2];exact beq_self_eq_true _)).2
  have HL:Hid (r4.ts.length<=r.next.ts.length/\r.next.ts.length+1=r.ts.length):=⟨lN,ln⟩
  have x1:((bstr r.here.text).toList == [126])=true:=eq_text h2
  have hdd:deep<=40:=by omega
  clear hW hG hz hf hl h hb h2 e4 lN ln
  generalize r.here=T at *
  go_enter Tryz.func175,Tryz.ntmps175
  go_wp2_with (first
    | (go_at_call 119;refine (F _ u1.out.1).mono ?_;rintro e w2 ⟨rfl,h2,g2⟩;have u2:=Lib.hid (u1.out.on h2 g2);obtain ⟨t0,t1,t2,t3⟩:=four_tok u2.out.2.2.2;have hz2:=heap_lt u2.out.2.2.1;have hz3:=heap_lt u2.out.2.2.2)
    | (go_at_call 187;refine hbg.mono ?_;rintro e w1 ⟨rfl,hb1⟩;have u1:=HU _ hb1)
    | (go_at_call 59;refine hh.mono ?_;rintro e w' ⟨rfl,rfl⟩))
  have u2d:UnAt B br w T r.next w2.drew:=u2.out.on h2.drew (grown_drew (grownBy_refl _ _))
  have hgap:gap r.next r4+1<=gap r r4:=by obtain ⟨a,b⟩:=HL.out;unfold gap;omega
  refine wp_region_slots (by kernel_rfl) (by kernel_rfl) (by kernel_rfl) (by kernel_rfl) (notV br (w.heap.size+2) deep T) (notInv B br (gap r.next r4) w T r.next r4 t4) ⟨undef,0⟩ ⟨fun _=>u2d,(fun e=>by cases e),(fun e=>by cases e),(fun e=>by cases e)⟩ ?_ ?_
  · intro L g a wr i op hop hLi hpre hC hI hS K hK
    have s0:a.tmps[0]?.getD undef=.pointer (some ⟨br,0,none⟩):=(hS.old2 0 (by kernel_rfl)).trans rfl
    have s1:a.tmps[1]?.getD undef=.int .i64 (deep:Int):=(hS.old2 1 (by kernel_rfl)).trans rfl
    have s4:a.tmps[4]?.getD undef=.pointer (some ⟨w.heap.size,0,none⟩):=(hS.old2 4 (by kernel_rfl)).trans rfl
    have s5:a.tmps[5]?.getD undef=.pointer (some ⟨w.heap.size+2,0,none⟩):=(hS.old2 5 (by kernel_rfl)).trans rfl
    have keep:∀ (g':NG),g'=g->∀ j,j≠i->L j=true->notV br (w.heap.size+2) deep T g' j=notV br (w.heap.size+2) deep T g j:=fun g' e _ _ _=>by rw [e]
    have same:∀ g',notInv B br (gap r.next r4) w T r.next r4 t4 L g' wr->i≠3->i≠4->i≠8->notInv B br (gap r.next r4) w T r.next r4 t4 (fun j=>if j=i then true else L j) g' wr:=fun g' h h3 h4 h8=>by
     unfold notInv at h ⊢
     simp only [show ¬ (3=i) from fun e=>h3 e.symm,show ¬ (4=i) from fun e=>h4 e.symm,show ¬ (8=i) from fun e=>h8 e.symm,if_false]
     exact h
    match i with
    | 0=>
      obtain rfl:=Option.some.inj hop
      go_simp
      exact hK _ _ ⟨g,fun _=>rfl,keep g rfl,same g hI (by decide) (by decide) (by decide)⟩
    | 1=>
      obtain rfl:=Option.some.inj hop
      go_simp
      exact hK _ _ ⟨g,fun _=>rfl,keep g rfl,same g hI (by decide) (by decide) (by decide)⟩
    | 2=>
      obtain rfl:=Option.some.inj hop
      have n1:=hS.new2 1 29 (by kernel_rfl) (pre_at hpre 1 (by kernel_rfl)) (show 29<66 by decide)
      simp only [notV] at n1
      go_simp
      exact hK _ _ ⟨g,fun _=>by rw [wrap_deep deep hdd];rfl,keep g rfl,same g hI (by decide) (by decide) (by decide)⟩
    | 3=>
      obtain rfl:=Option.some.inj hop
      have n0:=hS.new2 0 28 (by kernel_rfl) (pre_at hpre 0 (by kernel_rfl)) (show 28<66 by decide)
      have n2:=hS.new2 2 30 (by kernel_rfl) (pre_at hpre 2 (by kernel_rfl)) (show 30<66 by decide)
      simp only [notV] at n0 n2
      have no4:L 4=false:=by cases h:L 4 with | false=>rfl | true=>exact absurd (hC.at 4 3 (by kernel_rfl) h) (by simp [hLi])
      have no7:L 7=false:=by cases h:L 7 with | false=>rfl | true=>exact absurd (hC.at 7 4 (by kernel_rfl) h) (by simp [no4])
      have no8:L 8=false:=by cases h:L 8 with | false=>rfl | true=>exact absurd (hC.at 8 7 (by kernel_rfl) h) (by simp [no7])
      have u:=hI.1 hLi
      go_simp
      go_at_call 175
      refine (X wr u.1).mono ?_
      rintro e w3 ⟨v3,rfl,E3,h3,g3⟩
      go_simp
      have hs:=u.2.1.size
      have hlt:=heap_lt u.2.2.2
      refine hK _ _ ⟨{ g with v:=v3 },fun _=>rfl,fun j hj hLj=>?_,(fun e=>by cases e),(fun _ _=>⟨u.on h3 g3,E3.carry (by omega) (Nat.le_refl _) (fun _ _ _ _ _ h=>h)⟩),(fun e=>by simp only [show ¬ (4=3) by decide,if_false,no4] at e;cases e),(fun e=>by simp only [show ¬ (8=3) by decide,if_false,no8] at e;cases e)⟩
      unfold notV
      split <;> first | rfl | exact absurd rfl hj
    | 4=>
      obtain rfl:=Option.some.inj hop
      have l3:=pre_at hpre 3 (by kernel_rfl)
      have n3:=hS.new2 3 31 (by kernel_rfl) l3 (show 31<66 by decide)
      simp only [notV] at n3
      have no7:L 7=false:=by cases h:L 7 with | false=>rfl | true=>exact absurd (hC.at 7 4 (by kernel_rfl) h) (by simp [hLi])
      have no8:L 8=false:=by cases h:L 8 with | false=>rfl | true=>exact absurd (hC.at 8 7 (by kernel_rfl) h) (by simp [no7])
      obtain ⟨u,E⟩:=hI.2.1 l3 hLi
      obtain ⟨ao,kl,cap,hv⟩:=erep_agg E
      rw [hv] at n3 E
      go_simp
      have hs:=u.2.1.size
      have hlt:=heap_lt u.2.2.2
      refine hK _ _ ⟨{ g with q:=wr.heap.size },fun _=>rfl,fun j hj hLj=>?_,(fun e=>by simp only [show ¬ (3=4) by decide,if_false,l3] at e;cases e),(fun _ e=>by cases e),(fun _ _=>⟨u.on (u.1.alloc _) (World.grownBy_alloc _ _ _),kids1 (heap_alloc_new wr _) (show w.heap.size+1<=wr.heap.size by omega) (show wr.heap.size<_ by rw [alloc_size];omega) (carry_alloc E _ (Nat.le_refl _) (Nat.le_refl _))⟩),(fun e=>by simp only [show ¬ (8=4) by decide,if_false,no8] at e;cases e)⟩
      unfold notV
      split <;> first | rfl | exact absurd rfl hj | (rw [no7] at hLj;cases hLj)
    | 5=>
      obtain rfl:=Option.some.inj hop
      go_simp
      exact hK _ _ ⟨g,fun _=>rfl,keep g rfl,same g hI (by decide) (by decide) (by decide)⟩
    | 6=>
      obtain rfl:=Option.some.inj hop
      have n5:=hS.new2 5 33 (by kernel_rfl) (pre_at hpre 5 (by kernel_rfl)) (show 33<66 by decide)
      simp only [notV] at n5
      have no8:L 8=false:=by cases h:L 8 with | false=>rfl | true=>exact absurd (hC.at 7 6 (by kernel_rfl) (hC.at 8 7 (by kernel_rfl) h)) (by simp [hLi])
      have hT:wr.heap[w.heap.size+2]?=some (tokO T):=by
       cases h3:L 3 with
       | false=>exact (hI.1 h3).2.2.2
       | true=>
         cases h4:L 4 with
         | false=>exact (hI.2.1 h3 h4).1.2.2.2
         | true=>exact (hI.2.2.1 h4 no8).1.2.2.2
      obtain ⟨c0,c1,c2,c3⟩:=four_tok hT
      go_simp
      exact hK _ _ ⟨g,fun _=>rfl,keep g rfl,same g hI (by decide) (by decide) (by decide)⟩
    | 7=>
      obtain rfl:=Option.some.inj hop
      have n4:=hS.new2 4 32 (by kernel_rfl) (pre_at hpre 4 (by kernel_rfl)) (show 32<66 by decide)
      have n6:=hS.new2 6 34 (by kernel_rfl) (pre_at hpre 6 (by kernel_rfl)) (show 34<66 by decide)
      simp only [notV] at n4 n6
      go_simp
      exact hK _ _ ⟨g,fun _=>rfl,keep g rfl,same g hI (by decide) (by decide) (by decide)⟩
    | 8=>
      obtain rfl:=Option.some.inj hop
      have l7:=pre_at hpre 7 (by kernel_rfl)
      have n7:=hS.new2 7 35 (by kernel_rfl) l7 (show 35<66 by decide)
      simp only [notV] at n7
      have l4:L 4=true:=hC.at 7 4 (by kernel_rfl) l7
      have l3:L 3=true:=hC.at 4 3 (by kernel_rfl) l4
      obtain ⟨u,kk⟩:=hI.2.2.1 l4 hLi
      have z:=u.2.2.1
      obtain ⟨d0,d1,d2,d3,d4,d5⟩:=box_free z
      obtain ⟨x0,x1,x2,x3,x4,x5⟩:=box_cells z
      have hz:=heap_lt z
      go_simp
      refine hK undef _ ⟨g,fun e=>absurd rfl e,keep g rfl,(fun e=>by simp only [show ¬ (3=8) by decide,if_false,l3] at e;cases e),(fun _ e=>by simp only [show ¬ (4=8) by decide,if_false,l4] at e;cases e),(fun _ e=>by cases e),(fun _=>⟨wr,u,kk,rfl⟩)⟩
    | k+9=>simp at hop
  · intro L g wr hL hI
    obtain ⟨w5,u,kk,rfl⟩:=hI.2.2.2 (hL 8 (by decide))
    have hP:=put6_heap u.2.2.1 (.int .i64 4) (.int .i64 0) (.string ⟨#[]⟩) (.int .u64 0) (.slice (some ⟨g.q,0,none⟩) 1 1) (.int .i64 (T.at_:Int))
    obtain ⟨q0,q1,q2,q3,q4,q5⟩:=box_cells hP
    refine at_writeAll (pairs [28,29,30,31,32,33,34,35] (notV br (w.heap.size+2) deep T g)) (fun t=>by kernel_rfl) ?_
    simp only [pairs,List.zipIdx,List.map,List.foldl,notV]
    go_wp2
    exact bodyPost_ret (v:=.agg #[.int .i64 4,.int .i64 0,.string ⟨#[]⟩,.int .u64 0,.slice (some ⟨g.q,0,none⟩) 1 1,.int .i64 (T.at_:Int)]) (by simp [results,Tryz.results175,go_sem,q0,q1,q2,q3,q4,q5]) rfl (un_kids u kk hgap)
theorem un_step {f:Nat} (ihE:RExC f) (ihU:RUnC f):RUnC (f+1):=by
  intro B br deep r w h hd
  rw [unaryP_succ]
  cases hb:beginsB r.here with
  | false=>
    have e:unaryOf (exprP f) (unaryP f) deep r=(tree0,r.fail 2):=by unfold unaryOf;rw [if_pos hb]
    rw [e];exact un_no B br deep r w h hb
  | true=>
    have hd':deep+1+f=41:=by omega
    by_cases h1:r.here.text=[126]
    · have e:unaryOf (exprP f) (unaryP f) deep r=(⟨4,0,⟨#[]⟩,0,[(unaryP f (deep+1) r.next).1],r.here.at_⟩,(unaryP f (deep+1) r.next).2):=by unfold unaryOf;rw [if_neg (by rw [hb];decide),if_neg (by omega),if_pos h1]
      rw [e];exact un_not ihU B br deep r w h hb hd' h1
    by_cases h2:r.here.text=kPick
    · have e:unaryOf (exprP f) (unaryP f) deep r=(⟨5,0,⟨#[]⟩,0,(threeOf (exprP f) (deep+1) r.next).1,r.here.at_⟩,(threeOf (exprP f) (deep+1) r.next).2):=by unfold unaryOf;rw [if_neg (by rw [hb];decide),if_neg (by omega),if_neg h1,if_pos h2]
      rw [e];exact un_pick ihE B br deep r w h hb hd' h2
    by_cases h3:r.here.text=[40]
    · have e:unaryOf (exprP f) (unaryP f) deep r=((exprP f 0 (deep+1) r.next).1,(exprP f 0 (deep+1) r.next).2.want [41]):=by unfold unaryOf;rw [if_neg (by rw [hb];decide),if_neg (by omega),if_neg h1,if_neg h2,if_pos h3]
      rw [e];exact un_open ihE B br deep r w h hb hd' h3
    by_cases hk:r.here.kind=3
    · have e:unaryOf (exprP f) (unaryP f) deep r=(⟨0,0,⟨#[]⟩,r.here.value,[],r.here.at_⟩,r.next):=by unfold unaryOf;rw [if_neg (by rw [hb];decide),if_neg (by omega),if_neg h1,if_neg h2,if_neg h3,if_pos hk]
      rw [e];exact un_digits B br deep r w h hb (by omega) h1 h2 h3 hk
    · have e:unaryOf (exprP f) (unaryP f) deep r=namedOf (exprP f) r.here deep r.next:=by unfold unaryOf;rw [if_neg (by rw [hb];decide),if_neg (by omega),if_neg h1,if_neg h2,if_neg h3,if_neg hk]
      rw [e];exact un_name ihE B br deep r w h hb hd' h1 h2 h3 hk
theorem un_zero:RUnC 0:=by
  intro B br deep r w h hd
  show Calls Tryz.prog 175 _ w (Mde B br w r (failU r))
  unfold failU
  cases hb:beginsB r.here with
  | false=>rw [if_pos rfl];exact un_no B br deep r w h hb
  | true=>rw [if_neg (by decide)];exact un_deep B br deep r w h hb (by omega) (by omega)
def lenAt (br:Nat) (w:World):Nat:=match w.cell? ⟨br,0,none⟩ with | some (.slice _ n _)=>n | _=>0
theorem RdAt.len {B br:Nat} {r:Rd} {w:World} (h:RdAt B br r w):lenAt br w=r.ts.length:=by
  obtain ⟨_,_,_,g,off,cap,sg,ev,hb,_⟩:=h
  unfold lenAt
  rw [(three_cells hb).1]
def opV (br sg:Nat) (T:Tok) (_:Unit):Nat->Value
  | 0=>.pointer (some ⟨br,0,none⟩)
  | 1=>.pointer (some ⟨br,0,none⟩)
  | 2=>.pointer (some ⟨br,1,none⟩)
  | 3=>.slice (some ⟨sg,0,none⟩) 10 10
  | 4=>.pointer (some ⟨br,0,none⟩)
  | 5=>.agg #[.int .i64 (T.kind:Int),.string (bstr T.text),.int .u64 (T.value:Int),.int .i64 (T.at_:Int)]
  | 6=>.string (bstr T.text)
  | 7=>.int .i64 (opOf T.text)
  | 8=>.int .i64 (opOf T.text)
  | _=>undef
def inX (w:World) (LB:Nat) (wr:World) (g:Nat):Prop:=w.heap.size<g/\g≠LB/\g<wr.heap.size
def ExAt (B br:Nat) (w:World) (LB n:Nat) (left:Tree) (rr:Rd) (wr:World):Prop:=
  RdAt B br rr wr/\w.grownBy wr (some br)/\wr.heap[w.heap.size]?=some zeroE/\w.heap.size<LB /\
  ∃ ao kl cap,wr.heap[LB]?=some (.cells #[.int .i64 left.kind,.int .i64 left.op,.string left.name,.int .u64 (left.value:Int),.slice ao kl cap,.int .i64 left.at_] 50 (0,0)) /\
    ERepX (inX w LB wr) wr n (.agg #[.int .i64 left.kind,.int .i64 left.op,.string left.name,.int .u64 (left.value:Int),.slice ao kl cap,.int .i64 left.at_]) left
theorem ExAt.on {B br LB n:Nat} {w wr w':World} {rr rr':Rd} {left:Tree} (h:ExAt B br w LB n left rr wr) (h':RdAt B br rr' w') (hg:wr.grownBy w' (some br)):ExAt B br w LB n left rr' w':=by
  obtain ⟨h1,h2,h3,h4,ao,kl,cap,h6,h7⟩:=h
  have hs:=hg.size
  exact ⟨h',grownBy_trans h2 hg,h1.heap hg h3 (by decide),h4,ao,kl,cap,h1.heap hg h6 (by decide),h7.carry (fun g hx=>⟨hx.1,hx.2.1,by have:=hx.2.2;omega⟩) (fun g cs fr _ hc=>h1.heap hg hc (by decide))⟩
theorem ExAt.below {B br LB n:Nat} {w wr w':World} {rr:Rd} {left:Tree} (h:ExAt B br w LB n left rr wr) (hb:Below wr.heap.size wr w'):ExAt B br w LB n left rr w':=h.on (h.1.below hb) (grownBy_below hb)
theorem kidsX2 {X:Nat->Prop} {w:World} {R:Value->Tree->Prop} {g:Nat} {fr:Nat × Nat} {x0 x1 x2 x3 x4 x5 y0 y1 y2 y3 y4 y5:Value} {x y:Tree} (hg:w.heap[g]?=some (.cells #[x0,x1,x2,x3,x4,x5,y0,y1,y2,y3,y4,y5] 50 fr)) (hX:X g) (hx:R (.agg #[x0,x1,x2,x3,x4,x5]) x) (hy:R (.agg #[y0,y1,y2,y3,y4,y5]) y):
    KidsX X w R (.slice (some ⟨g,0,none⟩) 2 2) [x,y]:=by
  refine ⟨_,_,rfl,by simp,fun i k h=>?_⟩
  match i,h with
  | 0,h=>simp at h;subst h;exact ⟨g,0,x0,x1,x2,x3,x4,x5,rfl,hX,⟨_,_,hg⟩,by simp [World.cell?,hg],by simp [World.cell?,hg],by simp [World.cell?,hg],by simp [World.cell?,hg],by simp [World.cell?,hg],by simp [World.cell?,hg],hx⟩
  | 1,h=>simp at h;subst h;exact ⟨g,0,y0,y1,y2,y3,y4,y5,rfl,hX,⟨_,_,hg⟩,by simp [World.cell?,hg],by simp [World.cell?,hg],by simp [World.cell?,hg],by simp [World.cell?,hg],by simp [World.cell?,hg],by simp [World.cell?,hg],hy⟩
theorem erepX_pos {X:Nat->Prop} {w:World} {n:Nat} {v:Value} {t:Tree} (h:ERepX X w n v t):1<=n:=by
  cases n with
  | zero=>exact h.elim
  | succ n=>omega
theorem ex_round {B br LB n n4 lo4:Nat} {w w4:World} {r4:Rd} {left t4:Tree} {o:Int} {ao ao4:Option Addr} {kl cp kl4 cap4:Nat} (h4:RdAt B br r4 w4) (g5:w.grownBy w4 (some br)) (z5:w4.heap[w.heap.size]?=some zeroE) (hlb:w.heap.size<LB)
    (b5:w4.heap[LB]?=some (.cells #[.int .i64 left.kind,.int .i64 left.op,.string left.name,.int .u64 (left.value:Int),.slice ao kl cp,.int .i64 left.at_] 50 (0,0)))
    (E5:ERepX (inX w LB w4) w4 n (.agg #[.int .i64 left.kind,.int .i64 left.op,.string left.name,.int .u64 (left.value:Int),.slice ao kl cp,.int .i64 left.at_]) left)
    (E4:ERep lo4 w4.heap.size w4 n4 (.agg #[.int .i64 t4.kind,.int .i64 t4.op,.string t4.name,.int .u64 (t4.value:Int),.slice ao4 kl4 cap4,.int .i64 t4.at_]) t4) (hlo:LB<lo4):
    ExAt B br w LB (max n n4+1) (opT o left t4) r4 (((put6 w4 LB (.int .i64 3) (.int .i64 o) (.string ⟨#[]⟩) (.int .u64 0) (.slice (some ⟨w4.heap.size+1,0,none⟩) 2 2) (.int .i64 left.at_)).alloc
     (.cells #[.int .i64 t4.kind,.int .i64 t4.op,.string t4.name,.int .u64 (t4.value:Int),.slice ao4 kl4 cap4,.int .i64 t4.at_] 50)).alloc
     (.cells #[.int .i64 left.kind,.int .i64 left.op,.string left.name,.int .u64 (left.value:Int),.slice ao kl cp,.int .i64 left.at_,.int .i64 t4.kind,.int .i64 t4.op,.string t4.name,.int .u64 (t4.value:Int),.slice ao4 kl4 cap4,.int .i64 t4.at_] 50)):=by
  have hlt:=heap_lt b5
  have hps:=put6_size w4 LB (.int .i64 3) (.int .i64 o) (.string ⟨#[]⟩) (.int .u64 0) (.slice (some ⟨w4.heap.size+1,0,none⟩) 2 2) (.int .i64 left.at_)
  obtain ⟨W6,hW6⟩:∃ W6,W6=put6 w4 LB (.int .i64 3) (.int .i64 o) (.string ⟨#[]⟩) (.int .u64 0) (.slice (some ⟨w4.heap.size+1,0,none⟩) 2 2) (.int .i64 left.at_):=⟨_,rfl⟩
  have hR:RdAt B br r4 W6:=hW6 ▸ h4.put6 b5 _ _ _ _ _ _
  have hG:w.grownBy W6 (some br):=hW6 ▸ grown_put6 g5 (by omega) _ _ _ _ _ _
  have hZ:W6.heap[w.heap.size]?=some zeroE:=hW6 ▸ (put6_other _ _ _ _ _ _ _ _ _ (by omega)).trans z5
  have hB:W6.heap[LB]?=some (.cells #[.int .i64 3,.int .i64 o,.string ⟨#[]⟩,.int .u64 0,.slice (some ⟨w4.heap.size+1,0,none⟩) 2 2,.int .i64 left.at_] 50 (0,0)):=hW6 ▸ put6_heap b5 _ _ _ _ _ _
  have hO:∀ (g:Nat) (o:Obj),g≠LB->w4.heap[g]?=some o->W6.heap[g]?=some o:=fun g o hne hc=>hW6 ▸ (put6_other _ _ _ _ _ _ _ _ _ hne).trans hc
  rw [<- hW6] at hps ⊢
  clear hW6
  refine ⟨(hR.alloc _).alloc _,grown_alloc (grown_alloc hG _) _,alloc_keep (alloc_keep hZ _) _,hlb,some ⟨w4.heap.size+1,0,none⟩,2,2,alloc_keep (alloc_keep hB _) _,?_⟩
  refine ⟨show (0:Nat)<18446744073709551616 by decide,_,rfl,kidsX2 (g:=w4.heap.size+1) (by rw [alloc_at,if_pos (by rw [alloc_size,hps])]) ⟨by omega,by omega,by rw [alloc_size,alloc_size,hps];omega⟩ ?_ ?_⟩
  · exact (E5.carry (fun g hx=>⟨hx.1,hx.2.1,by have:=hx.2.2;rw [alloc_size,alloc_size,hps];omega⟩) (fun g cs fr hx hc=>alloc_keep (alloc_keep (hO g _ hx.2.1 hc) _) _)).up (Nat.le_max_left _ _)
  · refine ((ERep.toX (X:=inX w LB w4) (fun g h1 h2=>⟨by omega,by omega,h2⟩) E4).carry (fun g hx=>⟨hx.1,hx.2.1,by have:=hx.2.2;rw [alloc_size,alloc_size,hps];omega⟩) (fun g cs fr hx hc=>alloc_keep (alloc_keep (hO g _ hx.2.1 hc) _) _)).up (Nat.le_max_right _ _)
theorem expr_of {ex:ExP} (hto:ToE ex) (P:Rd->Prop) (B br tight deep:Nat) (r:Rd) (w:World) (h:RdAt B br r w) (ht:tight<=7) (hd:deep<=41) (u:Tree × Rd) (hu:∀ w',RdAt B br r w'->Calls Tryz.prog 175 #[.pointer (some ⟨br,0,none⟩),.int .i64 (deep:Int)] w' (Mde B br w' r u)) (hul:u.2.ts.length<=r.ts.length) (hP:P u.2)
    (hex:∀ rr:Rd,rr.good->P rr->tight<tightN (opOf rr.here.text)->P (ex (tightN (opOf rr.here.text)) (deep+1) rr.next).2/\∀ w',RdAt B br rr.next w'->Calls Tryz.prog 162 #[.pointer (some ⟨br,0,none⟩),.int .i64 (tightN (opOf rr.here.text):Int),.int .i64 ((deep:Int)+1)] w' (Mde B br w' rr.next (ex (tightN (opOf rr.here.text)) (deep+1) rr.next))):
    Calls Tryz.prog 162 #[.pointer (some ⟨br,0,none⟩),.int .i64 (tight:Int),.int .i64 (deep:Int)] w (Mde B br w r (loopOf ex tight deep u.2.ts.length u.1 u.2)):=by
  obtain ⟨t1,r1⟩:=u
  simp only at hul hP ⊢
  obtain ⟨fin,hfin⟩:∃ f,f=loopOf ex tight deep r1.ts.length t1 r1:=⟨_,rfl⟩
  rw [<- hfin]
  have HF:Hid (loopOf ex tight deep r1.ts.length t1 r1=fin):=hfin.symm
  clear hfin
  have U:=hu _ (h.alloc zeroE)
  have hG:=World.grownBy_alloc w zeroE (some br)
  have HZ:=Lib.hid (zeroE_at w)
  have HA:=Lib.hid (h.alloc zeroE)
  have HUL:=Lib.hid hul
  have HP:=Lib.hid hP
  clear h hu hul hP
  go_enter Tryz.func162,Tryz.ntmps162
  go_wp2_with (go_at_call 175;refine U.mono ?_;rintro e w1 ⟨v1,rfl,E1,h1,g1⟩;obtain ⟨ao1,kl1,cap1,rfl⟩:=erep_agg E1)
  have hs1:=g1.size
  rw [alloc_size] at hs1
  have X0:ExAt B br w w1.heap.size (gap r r1) t1 r1 (w1.alloc (.cells #[.int .i64 t1.kind,.int .i64 t1.op,.string t1.name,.int .u64 (t1.value:Int),.slice ao1 kl1 cap1,.int .i64 t1.at_] 50)):=by
    refine ⟨h1.alloc _,grown_alloc (grownBy_trans hG g1) _,alloc_keep (HA.out.heap g1 HZ.out (by decide)) _,by omega,ao1,kl1,cap1,heap_alloc_new w1 _,?_⟩
    refine ERepX.carry (fun g hx=>hx) (fun g cs fr hx hc=>alloc_keep hc _) (ERep.toX (X:=inX w w1.heap.size (w1.alloc (.cells #[.int .i64 t1.kind,.int .i64 t1.op,.string t1.name,.int .u64 (t1.value:Int),.slice ao1 kl1 cap1,.int .i64 t1.at_] 50))) (fun g h1 h2=>⟨by rw [alloc_size] at h1;omega,by omega,by rw [alloc_size];omega⟩) E1)
  obtain ⟨LB,hLB⟩:∃ LB,LB=w1.heap.size:=⟨_,rfl⟩
  rw [<- hLB] at X0
  rw [<- hLB]
  go_loopw [8] (fun o wr=>∃ left rr n,ExAt B br w LB n left rr wr/\n+rr.ts.length<=r.ts.length+1/\P rr/\Hid (loopOf ex tight deep rr.ts.length left rr=fin)) (fun _ wr=>lenAt br wr)
  case atStart=>exact ⟨t1,r1,gap r r1,X0,by have:=HUL.out;unfold gap;omega,HP.out,HF⟩
  case round=>
    obtain ⟨left,rr,n,hX,hn,hPr,HL⟩:=hrel
    have HNN:=Lib.hid hn
    have hlenW:=hX.1.len
    have HLW:=Lib.hid hlenW
    clear hn hlenW
    clear X0 HP HF U E1 HZ HA HUL h1 g1 hs1 hLB
    obtain ⟨_,hgd,_,g,off,cap,sg,ev,hb,_,_,_,hsg,_⟩:=id hX.1
    go_wp2
    refine wp_region_slots (by kernel_rfl) (by kernel_rfl) (by kernel_rfl) (by kernel_rfl) (opV br sg rr.here) (fun L _ w'=>Below wr.heap.size wr w') () (Below.refl _ _).drew ?_ ?_
    · intro L _ a wq i op hop hLi hpre hC hI hS K hK
      have s0:a.tmps[0]?.getD undef=.pointer (some ⟨br,0,none⟩):=(hS.old2 0 (by kernel_rfl)).trans rfl
      have hR:=hX.1.below hI
      have hbq:=(hI.block _ (heap_lt hb)).trans hb
      obtain ⟨c0,c1,c2⟩:=three_cells hbq
      have hsg':=(hI.block _ (heap_lt hsg)).trans hsg
      have hltq:=heap_lt hbq
      match i with
      | 0=>
        obtain rfl:=Option.some.inj hop
        go_simp
        exact hK _ _ ⟨(),fun _=>rfl,fun _ _ _=>rfl,hI⟩
      | 1=>
        obtain rfl:=Option.some.inj hop
        have n:=hS.new2 0 13 (by kernel_rfl) (pre_at hpre 0 (by kernel_rfl)) (show 13<41 by decide)
        simp only [opV] at n
        go_simp
        exact hK _ _ ⟨(),fun _=>rfl,fun _ _ _=>rfl,hI⟩
      | 2=>
        obtain rfl:=Option.some.inj hop
        have n:=hS.new2 1 14 (by kernel_rfl) (pre_at hpre 1 (by kernel_rfl)) (show 14<41 by decide)
        simp only [opV] at n
        go_simp
        exact hK _ _ ⟨(),fun _=>rfl,fun _ _ _=>rfl,hI⟩
      | 3=>
        obtain rfl:=Option.some.inj hop
        have n:=hS.new2 2 15 (by kernel_rfl) (pre_at hpre 2 (by kernel_rfl)) (show 15<41 by decide)
        simp only [opV] at n
        go_simp
        exact hK _ _ ⟨(),fun _=>rfl,fun _ _ _=>rfl,hI⟩
      | 4=>
        obtain rfl:=Option.some.inj hop
        go_simp
        exact hK _ _ ⟨(),fun _=>rfl,fun _ _ _=>rfl,hI⟩
      | 5=>
        obtain rfl:=Option.some.inj hop
        have n:=hS.new2 4 17 (by kernel_rfl) (pre_at hpre 4 (by kernel_rfl)) (show 17<41 by decide)
        simp only [opV] at n
        go_simp
        go_at_call 59
        refine (here_any B br rr _ hR).mono ?_
        rintro e w' ⟨rfl,rfl⟩
        go_simp
        exact hK _ _ ⟨(),fun _=>rfl,fun _ _ _=>rfl,hI.alloc hI.size _⟩
      | 6=>
        obtain rfl:=Option.some.inj hop
        have n:=hS.new2 5 18 (by kernel_rfl) (pre_at hpre 5 (by kernel_rfl)) (show 18<41 by decide)
        simp only [opV] at n
        have hf:=tok_text
        go_simp
        exact hK _ _ ⟨(),fun _=>rfl,fun _ _ _=>rfl,hI⟩
      | 7=>
        obtain rfl:=Option.some.inj hop
        have n:=hS.new2 3 16 (by kernel_rfl) (pre_at hpre 3 (by kernel_rfl)) (show 16<41 by decide)
        have m:=hS.new2 6 19 (by kernel_rfl) (pre_at hpre 6 (by kernel_rfl)) (show 19<41 by decide)
        simp only [opV] at n m
        go_simp
        go_at_call 176
        refine (index_any sg rr.here.text _ hsg').mono ?_
        rintro e w' ⟨rfl,rfl⟩
        go_simp
        exact hK _ _ ⟨(),fun _=>rfl,fun _ _ _=>rfl,hI⟩
      | 8=>
        obtain rfl:=Option.some.inj hop
        have n:=hS.new2 7 20 (by kernel_rfl) (pre_at hpre 7 (by kernel_rfl)) (show 20<41 by decide)
        simp only [opV] at n
        go_simp
        exact hK _ _ ⟨(),fun _=>rfl,fun _ _ _=>rfl,hI⟩
      | k+9=>simp at hop
    · intro L _ w2 hL hb2
      have hX2:=hX.below hb2
      refine at_writeAll (pairs [13,14,15,16,17,18,19,20,8] (opV br sg rr.here ())) (fun t=>by kernel_rfl) ?_
      simp only [pairs,List.zipIdx,List.map,List.foldl,opV,List.setIfInBounds_toArray,List.set_cons_zero,List.set_cons_succ]
      clear hX hb hsg hb2
      obtain ⟨o,ho⟩:∃ o,o=opOf rr.here.text:=⟨_,rfl⟩
      rw [<- ho]
      have HO:Hid (o=opOf rr.here.text):=ho
      clear ho
      have htl:=tightN_le o
      by_cases hc:tightN o<=tight
      · have hc':(tightN o:Int)<=(tight:Int):=by omega
        obtain ⟨h2,g2,z2,hlb,ao,kl,cp,b2,E2⟩:=hX2
        obtain ⟨c0,c1,c2,c3,c4,c5⟩:=box_cells b2
        obtain ⟨d0,d1,d2,d3,d4,d5⟩:=box_free z2
        obtain ⟨x0,x1,x2,x3,x4,x5⟩:=box_cells z2
        have hz2:=heap_lt z2
        have hlt2:=heap_lt b2
        go_wp2_with (go_at_call 169;refine (tight_any o _).mono ?_;rintro e w' ⟨rfl,hw⟩;obtain rfl:=hw.symm)
        have hfin:fin=(left,rr):=HL.out.symm.trans (loop_stop (by show tightN (opOf rr.here.text)<=tight;rw [<- HO.out];exact hc))
        rw [hfin]
        have hP6:=put6_heap z2 (.int .i64 left.kind) (.int .i64 left.op) (.string left.name) (.int .u64 (left.value:Int)) (.slice ao kl cp) (.int .i64 left.at_)
        obtain ⟨q0,q1,q2,q3,q4,q5⟩:=box_cells hP6
        have res:ERep w.heap.size (put6 w2 w.heap.size (.int .i64 left.kind) (.int .i64 left.op) (.string left.name) (.int .u64 (left.value:Int)) (.slice ao kl cp) (.int .i64 left.at_)).heap.size (put6 w2 w.heap.size (.int .i64 left.kind) (.int .i64 left.op) (.string left.name) (.int .u64 (left.value:Int)) (.slice ao kl cp) (.int .i64 left.at_)) (gap r rr) _ left:=
          ERepX.toE (X:=inX w LB w2) (fun g hx=>⟨by have:=hx.1;omega,by rw [put6_size];exact hx.2.2⟩) ((E2.up (m:=gap r rr) (by have:=HNN.out;unfold gap;omega)).carry (fun g hx=>hx) fun g cs fr hx hcc=>(put6_other _ _ _ _ _ _ _ _ g (by have:=hx.1;omega)).trans hcc)
        exact bodyPost_ret (v:=.agg #[.int .i64 left.kind,.int .i64 left.op,.string left.name,.int .u64 (left.value:Int),.slice ao kl cp,.int .i64 left.at_]) (by simp [results,Tryz.results162,go_sem,q0,q1,q2,q3,q4,q5]) rfl
          ⟨_,rfl,res,h2.put6 z2 _ _ _ _ _ _,grown_put6 g2 (Nat.le_refl _) _ _ _ _ _ _⟩
      · have hc':¬ (tightN o:Int)<=(tight:Int):=by omega
        obtain ⟨hP4,hx⟩:=hex rr hgd hPr (by rw [<- HO.out];omega)
        rw [<- HO.out] at hP4 hx
        have T4:=hto (tightN o) (deep+1) rr.next
        obtain ⟨t4,r4,e4⟩:∃ t x,ex (tightN o) (deep+1) rr.next=(t,x):=⟨_,_,rfl⟩
        rw [e4] at hP4 hx T4
        obtain ⟨gn,_,ln⟩:=op_not_end hgd (tight:=tight) (by rw [<- HO.out];omega)
        have l4:r4.ts.length<=rr.next.ts.length:=T4.2.1 gn
        have HN:Hid (loopOf ex tight deep r4.ts.length (opT o left t4) r4=fin):=by
          show _=_
          rw [<- HL.out]
          obtain ⟨k,hk⟩:∃ k,rr.ts.length=k+1:=⟨rr.ts.length-1,by omega⟩
          rw [hk,loopOf,<- HO.out,if_neg hc,e4]
          exact loop_fuel hto _ _ _ _ (T4.1 gn) (Nat.le_refl _) (show r4.ts.length<=k by omega)
        have HLN:Hid (rr.next.ts.length+1=rr.ts.length/\r4.ts.length<=rr.next.ts.length):=⟨ln,l4⟩
        have h2:=hX2.1
        have HX2:=Lib.hid hX2
        have HP4:=Lib.hid hP4
        clear hX2 HL hc hex e4 T4 gn ln l4 hP4
        go_wp2_with (first
          | (go_at_call 162;refine (hx _ h3).mono ?_;rintro e w4 ⟨v4,rfl,E4,h4,g4⟩;obtain ⟨ao4,kl4,cap4,rfl⟩:=erep_agg E4;have X4:=X3.on h4 g4;obtain ⟨_,g5,z5,hlb,ao,kl,cp,b5,E5⟩:=id X4;have hlt3:=heap_lt lb3;obtain ⟨c0,c1,c2,c3,c4,c5⟩:=box_cells b5;obtain ⟨d0,d1,d2,d3,d4,d5⟩:=box_free b5;have hlt5:=heap_lt b5)
          | (go_at_call 119;refine (rnext_any B br rr _ h2).mono ?_;rintro e w3 ⟨rfl,h3,g3⟩;have X3:=HX2.out.on h3 g3;obtain ⟨_,_,_,_,_,_,_,lb3,_⟩:=id X3)
          | (go_at_call 169;refine (tight_any o _).mono ?_;rintro e w' ⟨rfl,hw⟩;obtain rfl:=hw.symm))
        have XR:=ex_round (o:=o) h4 g5 z5 hlb b5 E5 E4 hlt3
        obtain ⟨l1,l2⟩:=HLN.out
        have hnn:=HNN.out
        have hn1:1<=n:=erepX_pos E5
        refine ⟨⟨opT o left t4,r4,_,XR,?_,HP4.out,HN⟩,?_⟩
        · show max n (rr.next.ts.length+1-r4.ts.length)+1+r4.ts.length<=r.ts.length+1
          omega
        · rw [XR.1.len,HLW.out];omega
theorem ex_step {f:Nat} (ihE:RExC f) (ihU:RUnC f):RExC (f+1):=by
  intro B br tight deep r w h ht hd
  rw [exprP_succ]
  refine expr_of (to_expr f) (fun _=>True) B br tight deep r w h ht (by omega) (unaryP (f+1) deep r) (fun w' h'=>un_step ihE ihU B br deep r w' h' hd) (((to_pair (f+1)).2 deep r).2.1 h.2.1) trivial (fun rr hg _ hlt=>⟨trivial,fun w' h'=>?_⟩)
  exact ihE B br (tightN (opOf rr.here.text)) (deep+1) rr.next w' h' (tightN_le _) (by omega)
theorem ex_zero:RExC 0:=by
  intro B br tight deep r w h ht hd
  have hl:(failU r).2.ts.length=1:=by unfold failU;simp only;split;exact fail_len 2 h.2.1;exact fail_len 6 h.2.1
  have hgf:(failU r).2.good:=(to_failU r).1 h.2.1
  have stop:∀ rr:Rd,rr.good->rr.ts.length=1->tightN (opOf rr.here.text)=0:=fun rr hg hl=>by
    rcases good_cases hg with ⟨k,_,e⟩ | ⟨_,_,h1,_⟩
    · rw [e];show tightN (opOf [])=0;decide
    · omega
  have e:loopOf (exprP 0) tight deep (failU r).2.ts.length (failU r).1 (failU r).2=failU r:=loop_stop (by show tightN (opOf (failU r).2.here.text)<=tight;rw [stop _ hgf hl];omega)
  show Calls Tryz.prog 162 _ w (Mde B br w r (failU r))
  rw [<- e]
  refine expr_of (to_expr 0) (fun rr=>rr.ts.length=1) B br tight deep r w h ht (by omega) (failU r) (fun w' h'=>un_zero B br deep r w' h' hd) ((to_failU r).2.1 h.2.1) hl (fun rr hg hP hlt=>?_)
  rw [stop rr hg hP] at hlt;omega
theorem ex_all:∀ f,RExC f/\RUnC f
  | 0=>⟨ex_zero,un_zero⟩
  | f+1=>⟨ex_step (ex_all f).1 (ex_all f).2,un_step (ex_all f).1 (ex_all f).2⟩
end Go.Proofs.YtlepckjmdjjolaaGreatDoor.Pr
