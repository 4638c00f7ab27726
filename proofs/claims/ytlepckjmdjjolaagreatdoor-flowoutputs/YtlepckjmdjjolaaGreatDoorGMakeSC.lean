/- Own texts laid together: MakeStmC, MakeStmD, MakeStmF. Conditions: as each theorem says. -/
import Derived.Test.YtlepckjmdjjolaaGreatDoorGMakeF
import Derived.Deep.DrawnRows
set_option maxHeartbeats 2000000
set_option maxRecDepth 100000
set_option linter.unusedVariables false
set_option linter.unusedSimpArgs false
namespace Go.Proofs.YtlepckjmdjjolaaGreatDoor
open Go.ChangeShapes Go.WideShapes Go.ChangeAt Go.RowKit
attribute [local go_sem ↓] Go.wp_at_zero Go.wp_at_succ
theorem stmt_localS (B bm f:Nat) (E:Env) (inside:Bool) (ns:List UInt8) (w:World) (hM:MakerAt B bm E ns w) (hfree:E.loc.length<90) (hcase:nxV ns 12=0):
 Calls Tryz.prog 63 #[.pointer (some ⟨bm,0,none⟩),.bool inside] w (MadeS B bm (f+1) w (oneM 0 (nameX E) (enterE E true 0) (secM E 6 0 ns.tail))):=by
 have hB:=hM.base
 have hth:=thread_cell hM
 have htl:=thread_le hM
 have H1:=next_any B bm E ns 12 _ hM (by omega) (by omega)
 have HM:=Lib.hid hM
 obtain ⟨t1,n1,hp1⟩:∃ t n,secM E 6 0 ns.tail=(t,n):=⟨_,_,rfl⟩
 have P1:=fun w' h=>secretly_all E 6 B bm ns.tail 0 w' (by omega) (by omega) h
 rw [hp1] at P1 ⊢
 have hfI:(E.loc.length:Int)<90:=by omega
 rw [hcase] at H1
 clear hcase hp1 hM
 go_enter Tryz.func63,Tryz.ntmps63
 go_wp2_with (first
  | (go_at_call 34;refine (digit_any E.thread htl _).mono ?_;rintro e w' ⟨rfl,rfl⟩)
  | (go_at_call 92;refine (P1 w1 hM1.out).mono ?_;rintro e w2 ⟨v2,rfl,hE2,hM2,hg2⟩;replace hM2:=Lib.hid hM2;obtain ⟨_,kv2,rfl,kao2,kcap2,rfl,_,_⟩:=id hE2;replace hE2:=Lib.hid hE2)
  | (go_at_call 33;refine H1.mono ?_;rintro e w1 ⟨rfl,hM1,hg1⟩;obtain ⟨lao,lcap,hlc,_⟩:=locals_cell hM1;have hdc:=mdeep_cell hM1;have hhc:=held_cell hM1;replace hM1:=Lib.hid hM1))
 generalize hwE:w2.alloc (.cells #[.int .i64 t1.kind,.int .i64 t1.op,.string t1.name,.int .u64 t1.value,.slice kao2 t1.kids.length kcap2,.int .i64 t1.at_] 50)=wE
 have hbx:wE.heap[w2.heap.size]?=some (.cells #[.int .i64 t1.kind,.int .i64 t1.op,.string t1.name,.int .u64 t1.value,.slice kao2 t1.kids.length kcap2,.int .i64 t1.at_] 50 (0,0)):=by rw [<- hwE];exact heap_alloc_new w2 _
 have hME:Hid (MakerAt B bm E n1 wE):=Lib.hid (by rw [<- hwE];exact hM2.out.alloc _)
 obtain ⟨c0,c1,c2,c3,c4,c5⟩:=box_cells hbx
 have HW:=Lib.hid hwE
 have HBX:=Lib.hid hbx
 clear hwE hbx
 go_region_with (first
  | (go_at_call 91;refine (one_any _ _ _ _ _ _ _ _ _ _ _ _ _ _).mono ?_;rintro e w4 ⟨g,rfl,hgl,hgr,hg4,hb4⟩)
  | (go_at_call 93;refine (enter_any B bm E n1 true 0 _ (by refine hME.out.below ?_;repeat (first | exact Below.refl _ _ | refine Below.drew ?_ | refine Below.alloc ?_ (by simp) _)) (by omega)).mono ?_;rintro e w3 ⟨rfl,hM3,hK3⟩;replace hK3:=hK3.undrew;replace hM3:=Lib.hid hM3;have hbx3:=keep_new hK3 (p:=w2.heap.size) (by first | exact HBX.out | exact (alloc_keep HBX.out _));obtain ⟨d0,d1,d2,d3,d4,d5⟩:=box_cells hbx3;replace hbx3:=Lib.hid hbx3;replace hK3:=Lib.hid hK3))
 all_goals go_wp2
 all_goals go_ret
 all_goals (first | exact local_A (by simp [nameX,ByteArray.size]) hB ((KeepM.of_grown HM.out hg1).trans (KeepM.of_grown hM1.out hg2)) hE2.out hg1.size HW.out hK3.out hM3.out hb4 hgl hg4 | exact local_B (by simp [nameX,ByteArray.size]) hB ((KeepM.of_grown HM.out hg1).trans (KeepM.of_grown hM1.out hg2)) hE2.out hg1.size HW.out hK3.out hM3.out hb4 hgl hg4)
theorem stmt_localP (B bm f:Nat) (E:Env) (inside:Bool) (ns:List UInt8) (w:World) (hM:MakerAt B bm E ns w) (hfree:E.loc.length<90) (hin:inside=false) (hcase:nxV ns 12=1):
 Calls Tryz.prog 63 #[.pointer (some ⟨bm,0,none⟩),.bool inside] w (MadeS B bm (f+1) w (oneM 0 (nameX E) (enterE E false 0) (pubM E 6 0 ns.tail))):=by
 have hB:=hM.base
 have hth:=thread_cell hM
 have htl:=thread_le hM
 have H1:=next_any B bm E ns 12 _ hM (by omega) (by omega)
 have HM:=Lib.hid hM
 obtain ⟨t1,n1,hp1⟩:∃ t n,pubM E 6 0 ns.tail=(t,n):=⟨_,_,rfl⟩
 have P1:=fun w' h=>public_all E 6 B bm ns.tail 0 w' (by omega) (by omega) h
 rw [hp1] at P1 ⊢
 have hfI:(E.loc.length:Int)<90:=by omega
 rw [hcase] at H1
 clear hcase hp1 hM
 subst hin
 go_enter Tryz.func63,Tryz.ntmps63
 go_wp2_with (first
  | (go_at_call 34;refine (digit_any E.thread htl _).mono ?_;rintro e w' ⟨rfl,rfl⟩)
  | (go_at_call 94;refine (P1 w1 hM1.out).mono ?_;rintro e w2 ⟨v2,rfl,hE2,hM2,hg2⟩;replace hM2:=Lib.hid hM2;obtain ⟨_,kv2,rfl,kao2,kcap2,rfl,_,_⟩:=id hE2;replace hE2:=Lib.hid hE2)
  | (go_at_call 33;refine H1.mono ?_;rintro e w1 ⟨rfl,hM1,hg1⟩;obtain ⟨lao,lcap,hlc,_⟩:=locals_cell hM1;have hdc:=mdeep_cell hM1;have hhc:=held_cell hM1;replace hM1:=Lib.hid hM1))
 generalize hwE:w2.alloc (.cells #[.int .i64 t1.kind,.int .i64 t1.op,.string t1.name,.int .u64 t1.value,.slice kao2 t1.kids.length kcap2,.int .i64 t1.at_] 50)=wE
 have hbx:wE.heap[w2.heap.size]?=some (.cells #[.int .i64 t1.kind,.int .i64 t1.op,.string t1.name,.int .u64 t1.value,.slice kao2 t1.kids.length kcap2,.int .i64 t1.at_] 50 (0,0)):=by rw [<- hwE];exact heap_alloc_new w2 _
 have hME:Hid (MakerAt B bm E n1 wE):=Lib.hid (by rw [<- hwE];exact hM2.out.alloc _)
 obtain ⟨c0,c1,c2,c3,c4,c5⟩:=box_cells hbx
 have HW:=Lib.hid hwE
 have HBX:=Lib.hid hbx
 clear hwE hbx
 go_region_with (first
  | (go_at_call 91;refine (one_any _ _ _ _ _ _ _ _ _ _ _ _ _ _).mono ?_;rintro e w4 ⟨g,rfl,hgl,hgr,hg4,hb4⟩)
  | (go_at_call 93;refine (enter_any B bm E n1 false 0 _ (by refine hME.out.below ?_;repeat (first | exact Below.refl _ _ | refine Below.drew ?_ | refine Below.alloc ?_ (by simp) _)) (by omega)).mono ?_;rintro e w3 ⟨rfl,hM3,hK3⟩;replace hK3:=hK3.undrew;replace hM3:=Lib.hid hM3;have hbx3:=keep_new hK3 (p:=w2.heap.size) (by first | exact HBX.out | exact (alloc_keep HBX.out _));obtain ⟨d0,d1,d2,d3,d4,d5⟩:=box_cells hbx3;replace hbx3:=Lib.hid hbx3;replace hK3:=Lib.hid hK3))
 all_goals go_wp2
 all_goals go_ret
 all_goals (first | exact local_A (by simp [nameX,ByteArray.size]) hB ((KeepM.of_grown HM.out hg1).trans (KeepM.of_grown hM1.out hg2)) hE2.out hg1.size HW.out hK3.out hM3.out hb4 hgl hg4 | exact local_B (by simp [nameX,ByteArray.size]) hB ((KeepM.of_grown HM.out hg1).trans (KeepM.of_grown hM1.out hg2)) hE2.out hg1.size HW.out hK3.out hM3.out hb4 hgl hg4)
theorem stmt_storeS (B bm f:Nat) (E:Env) (inside:Bool) (ns:List UInt8) (w:World) (hM:MakerAt B bm E ns w) (hcase:nxV ns 12=3):
 Calls Tryz.prog 63 #[.pointer (some ⟨bm,0,none⟩),.bool inside] w (MadeS B bm (f+1) w (storeM (dig 116 E) E (placeM (pubM E 5) E 0 ns.tail).1 (secM E 6 0 (placeM (pubM E 5) E 0 ns.tail).2))):=by
 have hB:=hM.base
 have hth:=thread_cell hM
 have htl:=thread_le hM
 have H1:=next_any B bm E ns 12 _ hM (by omega) (by omega)
 have HM:=Lib.hid hM
 obtain ⟨t1,n1,hp1⟩:∃ t n,placeM (pubM E 5) E 0 ns.tail=(t,n):=⟨_,_,rfl⟩
 have P1:=fun w' h=>cellOf_all (public_all E 5) B bm ns.tail 0 ⟨#[116,digitB E.thread]⟩ w' (by omega) (by omega) h
 rw [hp1] at P1 ⊢
 obtain ⟨t2,n2,hp2⟩:∃ t n,secM E 6 0 n1=(t,n):=⟨_,_,rfl⟩
 have P2:=fun w' h=>secretly_all E 6 B bm n1 0 w' (by omega) (by omega) h
 rw [hp2] at P2 ⊢
 have hcat:=cat2 116 (digitB E.thread)
 unfold dig
 rw [hcase] at H1
 clear hcase hp1 hp2 hM
 go_enter Tryz.func63,Tryz.ntmps63
 go_wp2_with (first
  | (go_at_call 34;refine (digit_any E.thread htl _).mono ?_;rintro e w' ⟨rfl,rfl⟩)
  | (go_at_call 95;refine (P1 w1 hM1.out).mono ?_;rintro e w2 ⟨v2,rfl,hE2,hM2,hg2⟩;replace hM2:=Lib.hid hM2;obtain ⟨_,kv2,rfl,kao2,kcap2,rfl,_,_⟩:=id hE2;replace hE2:=Lib.hid hE2)
  | (go_at_call 33;refine H1.mono ?_;rintro e w1 ⟨rfl,hM1,hg1⟩;obtain ⟨lao,lcap,hlc,_⟩:=locals_cell hM1;have hdc:=mdeep_cell hM1;have hhc:=held_cell hM1;replace hM1:=Lib.hid hM1))
 generalize hwE:w2.alloc (.cells #[.int .i64 t1.kind,.int .i64 t1.op,.string t1.name,.int .u64 t1.value,.slice kao2 t1.kids.length kcap2,.int .i64 t1.at_] 50)=wE
 have hbx:wE.heap[w2.heap.size]?=some (.cells #[.int .i64 t1.kind,.int .i64 t1.op,.string t1.name,.int .u64 t1.value,.slice kao2 t1.kids.length kcap2,.int .i64 t1.at_] 50 (0,0)):=by rw [<- hwE];exact heap_alloc_new w2 _
 have hME:Hid (MakerAt B bm E n1 wE):=Lib.hid (by rw [<- hwE];exact hM2.out.alloc _)
 obtain ⟨c0,c1,c2,c3,c4,c5⟩:=box_cells hbx
 have HW:=Lib.hid hwE
 have HBX:=Lib.hid hbx
 clear hwE hbx
 go_region_with (first
  | (go_at_call 91;refine (one_any _ _ _ _ _ _ _ _ _ _ _ _ _ _).mono ?_;rintro e w4 ⟨g,rfl,hgl,hgr,hg4,hb4⟩)
  | (go_at_call 92;refine (P2 _ (by refine hME.out.below ?_;repeat (first | exact Below.refl _ _ | refine Below.drew ?_ | refine Below.alloc ?_ (by simp) _))).mono ?_;rintro e w3 ⟨v3,rfl,hE3,hM3,hg3⟩;replace hM3:=Lib.hid hM3;have hK3:KeepM B wE w3:=KeepM.of_grown (w:=wE) hME.out ⟨hg3.os,hg3.tape,hg3.output,hg3.size,hg3.block⟩;have hbx3:=keep_new hK3 (p:=w2.heap.size) HBX.out;obtain ⟨d0,d1,d2,d3,d4,d5⟩:=box_cells hbx3;replace hbx3:=Lib.hid hbx3;replace hK3:=Lib.hid hK3;obtain ⟨_,kv3,rfl,kao3,kcap3,rfl,_,_⟩:=id hE3;replace hE3:=Lib.hid hE3))
 all_goals go_wp2
 all_goals go_ret
 all_goals exact store_A (by simp [ByteArray.size]) hB ((KeepM.of_grown HM.out hg1).trans (KeepM.of_grown hM1.out hg2)) hE2.out hg1.size HW.out hE3.out hK3.out hM3.out hb4 hgl hg4
theorem stmt_storeP (B bm f:Nat) (E:Env) (inside:Bool) (ns:List UInt8) (w:World) (hM:MakerAt B bm E ns w) (hin:inside=false) (hcase:nxV ns 12=7):
 Calls Tryz.prog 63 #[.pointer (some ⟨bm,0,none⟩),.bool inside] w (MadeS B bm (f+1) w (storeM (dig 113 E) E (placeM (pubM E 5) E 0 ns.tail).1 (pubM E 6 0 (placeM (pubM E 5) E 0 ns.tail).2))):=by
 have hB:=hM.base
 have hth:=thread_cell hM
 have htl:=thread_le hM
 have H1:=next_any B bm E ns 12 _ hM (by omega) (by omega)
 have HM:=Lib.hid hM
 obtain ⟨t1,n1,hp1⟩:∃ t n,placeM (pubM E 5) E 0 ns.tail=(t,n):=⟨_,_,rfl⟩
 have P1:=fun w' h=>cellOf_all (public_all E 5) B bm ns.tail 0 ⟨#[113,digitB E.thread]⟩ w' (by omega) (by omega) h
 rw [hp1] at P1 ⊢
 obtain ⟨t2,n2,hp2⟩:∃ t n,pubM E 6 0 n1=(t,n):=⟨_,_,rfl⟩
 have P2:=fun w' h=>public_all E 6 B bm n1 0 w' (by omega) (by omega) h
 rw [hp2] at P2 ⊢
 have hcat:=cat2 113 (digitB E.thread)
 unfold dig
 rw [hcase] at H1
 clear hcase hp1 hp2 hM
 subst hin
 go_enter Tryz.func63,Tryz.ntmps63
 go_wp2_with (first
  | (go_at_call 34;refine (digit_any E.thread htl _).mono ?_;rintro e w' ⟨rfl,rfl⟩)
  | (go_at_call 95;refine (P1 w1 hM1.out).mono ?_;rintro e w2 ⟨v2,rfl,hE2,hM2,hg2⟩;replace hM2:=Lib.hid hM2;obtain ⟨_,kv2,rfl,kao2,kcap2,rfl,_,_⟩:=id hE2;replace hE2:=Lib.hid hE2)
  | (go_at_call 33;refine H1.mono ?_;rintro e w1 ⟨rfl,hM1,hg1⟩;obtain ⟨lao,lcap,hlc,_⟩:=locals_cell hM1;have hdc:=mdeep_cell hM1;have hhc:=held_cell hM1;replace hM1:=Lib.hid hM1))
 generalize hwE:w2.alloc (.cells #[.int .i64 t1.kind,.int .i64 t1.op,.string t1.name,.int .u64 t1.value,.slice kao2 t1.kids.length kcap2,.int .i64 t1.at_] 50)=wE
 have hbx:wE.heap[w2.heap.size]?=some (.cells #[.int .i64 t1.kind,.int .i64 t1.op,.string t1.name,.int .u64 t1.value,.slice kao2 t1.kids.length kcap2,.int .i64 t1.at_] 50 (0,0)):=by rw [<- hwE];exact heap_alloc_new w2 _
 have hME:Hid (MakerAt B bm E n1 wE):=Lib.hid (by rw [<- hwE];exact hM2.out.alloc _)
 obtain ⟨c0,c1,c2,c3,c4,c5⟩:=box_cells hbx
 have HW:=Lib.hid hwE
 have HBX:=Lib.hid hbx
 clear hwE hbx
 go_region_with (first
  | (go_at_call 91;refine (one_any _ _ _ _ _ _ _ _ _ _ _ _ _ _).mono ?_;rintro e w4 ⟨g,rfl,hgl,hgr,hg4,hb4⟩)
  | (go_at_call 94;refine (P2 _ (by refine hME.out.below ?_;repeat (first | exact Below.refl _ _ | refine Below.drew ?_ | refine Below.alloc ?_ (by simp) _))).mono ?_;rintro e w3 ⟨v3,rfl,hE3,hM3,hg3⟩;replace hM3:=Lib.hid hM3;have hK3:KeepM B wE w3:=KeepM.of_grown (w:=wE) hME.out ⟨hg3.os,hg3.tape,hg3.output,hg3.size,hg3.block⟩;have hbx3:=keep_new hK3 (p:=w2.heap.size) HBX.out;obtain ⟨d0,d1,d2,d3,d4,d5⟩:=box_cells hbx3;replace hbx3:=Lib.hid hbx3;replace hK3:=Lib.hid hK3;obtain ⟨_,kv3,rfl,kao3,kcap3,rfl,_,_⟩:=id hE3;replace hE3:=Lib.hid hE3))
 all_goals go_wp2
 all_goals go_ret
 all_goals exact store_A (by simp [ByteArray.size]) hB ((KeepM.of_grown HM.out hg1).trans (KeepM.of_grown hM1.out hg2)) hE2.out hg1.size HW.out hE3.out hK3.out hM3.out hb4 hgl hg4
attribute [local go_sem ↓] Go.wp_at_zero Go.wp_at_succ
theorem stmt_ifS {f:Nat} (ih:MStmtC f) (B bm:Nat) (E:Env) (inside:Bool) (ns:List UInt8) (w:World) (hM:MakerAt B bm E ns w) (hf:6<=f+1+E.deep+heldN E) (hd1:1<=E.deep) (hd:E.deep<4) (hroom:roomE E) (hcase:nxV ns 12=4):
 Calls Tryz.prog 63 #[.pointer (some ⟨bm,0,none⟩),.bool inside] w (MadeS B bm (f+1) w (ifM (stmtM f) true E (secM E 6 0 ns.tail))):=by
 have hB:=hM.base
 have hth:=thread_cell hM
 have htl:=thread_le hM
 have H1:=next_any B bm E ns 12 _ hM (by omega) (by omega)
 have HM:=Lib.hid hM
 have hfull:=maker_full hM
 obtain ⟨t1,n1,hp1⟩:∃ t n,secM E 6 0 ns.tail=(t,n):=⟨_,_,rfl⟩
 have P1:=fun w' h=>secretly_all E 6 B bm ns.tail 0 w' (by omega) (by omega) h
 rw [hp1] at P1 ⊢
 have hrm:roomE { E with deep:=E.deep+1 } := by unfold roomE at hroom ⊢;simp only;omega
 obtain ⟨b1,m1,hq1⟩:∃ b m,blockM (stmtM f) true E n1=(b,E,m):=⟨_,_,Prod.ext rfl (Prod.ext (block_env (fun E ns hf=>stmt_grow f true E ns hf) E n1 hfull) rfl)⟩
 have P2:=fun w' h=>block_any ih B bm true E n1 w' h (by omega) (by omega) hrm
 rw [hq1] at P2
 obtain ⟨b2,m2,hq2⟩:∃ b m,blockM (stmtM f) true E m1=(b,E,m):=⟨_,_,Prod.ext rfl (Prod.ext (block_env (fun E ns hf=>stmt_grow f true E ns hf) E m1 hfull) rfl)⟩
 have P3:=fun w' h=>block_any ih B bm true E m1 w' h (by omega) (by omega) hrm
 rw [hq2] at P3
 have hgoal:ifM (stmtM f) true E (t1,n1)=([⟨3,⟨#[]⟩,[t1],0,b1,b2,0⟩],E,m2):=by simp only [ifM,hq1,hq2]
 rw [hgoal]
 have hdI:(E.deep:Int)<4:=by omega
 rw [hcase] at H1
 clear hcase hp1 hq1 hq2 hgoal hM
 go_enter Tryz.func63,Tryz.ntmps63
 go_wp2_with (first
  | (go_at_call 34;refine (digit_any E.thread htl _).mono ?_;rintro e w' ⟨rfl,rfl⟩)
  | (go_at_call 92;refine (P1 w1 hM1.out).mono ?_;rintro e w2 ⟨v2,rfl,hE2,hM2,hg2⟩;replace hM2:=Lib.hid hM2;obtain ⟨_,kv2,rfl,kao2,kcap2,rfl,_,_⟩:=id hE2;replace hE2:=Lib.hid hE2)
  | (go_at_call 33;refine H1.mono ?_;rintro e w1 ⟨rfl,hM1,hg1⟩;obtain ⟨lao,lcap,hlc,_⟩:=locals_cell hM1;have hdc:=mdeep_cell hM1;have hhc:=held_cell hM1;replace hM1:=Lib.hid hM1))
 generalize hwE:w2.alloc (.cells #[.int .i64 t1.kind,.int .i64 t1.op,.string t1.name,.int .u64 t1.value,.slice kao2 t1.kids.length kcap2,.int .i64 t1.at_] 50)=wE
 have hbx:wE.heap[w2.heap.size]?=some (.cells #[.int .i64 t1.kind,.int .i64 t1.op,.string t1.name,.int .u64 t1.value,.slice kao2 t1.kids.length kcap2,.int .i64 t1.at_] 50 (0,0)):=by rw [<- hwE];exact heap_alloc_new w2 _
 have hME:Hid (MakerAt B bm E n1 wE):=Lib.hid (by rw [<- hwE];exact hM2.out.alloc _)
 obtain ⟨c0,c1,c2,c3,c4,c5⟩:=box_cells hbx
 have HW:=Lib.hid hwE
 have HBX:=Lib.hid hbx
 clear hwE hbx
 go_region_with (first
  | (go_at_call 91;refine (one_any _ _ _ _ _ _ _ _ _ _ _ _ _ _).mono ?_;rintro e w5 ⟨g,rfl,hgl,hgr,hg5,hb5⟩)
  | (go_at_call 35;revert hM3;intro hM3;have hX:=hM3.out;refine (P3 _ (by refine hX.below ?_;repeat (first | exact Below.refl _ _ | refine Below.drew ?_ | refine Below.alloc ?_ (by simp) _))).mono ?_;clear hX;rintro e w4 ⟨v4,rfl,hS4,hM4,hK4⟩;replace hM4:=Lib.hid hM4;have hbx4:=keep_new hK4 (p:=w2.heap.size) (by first | exact hbx3.out | exact (alloc_keep hbx3.out _));obtain ⟨e0,e1,e2,e3,e4,e5⟩:=box_cells hbx4;replace hbx4:=Lib.hid hbx4;replace hK4:=Lib.hid hK4;obtain ⟨bao4,bcap4,rfl,_⟩:=id hS4;replace hS4:=Lib.hid hS4)
  | (go_at_call 35;revert hME;intro hME;have hX:=hME.out;refine (P2 _ (by refine hX.below ?_;repeat (first | exact Below.refl _ _ | refine Below.drew ?_ | refine Below.alloc ?_ (by simp) _))).mono ?_;clear hX;rintro e w3 ⟨v3,rfl,hS3,hM3,hK3⟩;replace hK3:=hK3.undrew;replace hM3:=Lib.hid hM3;have hbx3:=keep_new hK3 (p:=w2.heap.size) (by first | exact HBX.out | exact (alloc_keep HBX.out _));obtain ⟨d0,d1,d2,d3,d4,d5⟩:=box_cells hbx3;replace hbx3:=Lib.hid hbx3;replace hK3:=Lib.hid hK3;obtain ⟨bao3,bcap3,rfl,_⟩:=id hS3;replace hS3:=Lib.hid hS3))
 all_goals go_wp2
 all_goals go_ret
 all_goals (first | exact if_A hB ((KeepM.of_grown HM.out hg1).trans (KeepM.of_grown hM1.out hg2)) hE2.out hg1.size HW.out hS3.out hK3.out hS4.out hK4.out hM4.out hb5 hgl hg5 | exact if_B hB ((KeepM.of_grown HM.out hg1).trans (KeepM.of_grown hM1.out hg2)) hE2.out hg1.size HW.out hS3.out hK3.out hS4.out hK4.out hM4.out hb5 hgl hg5 | exact if_C hB ((KeepM.of_grown HM.out hg1).trans (KeepM.of_grown hM1.out hg2)) hE2.out hg1.size HW.out hS3.out hK3.out hS4.out hK4.out hM4.out hb5 hgl hg5)
attribute [local go_sem ↓] Go.wp_at_zero Go.wp_at_succ
theorem stmt_ifP {f:Nat} (ih:MStmtC f) (B bm:Nat) (E:Env) (inside:Bool) (ns:List UInt8) (w:World) (hM:MakerAt B bm E ns w) (hf:6<=f+1+E.deep+heldN E) (hd1:1<=E.deep) (hd:E.deep<4) (hroom:roomE E) (hin:inside=false) (hcase:nxV ns 12=6):
 Calls Tryz.prog 63 #[.pointer (some ⟨bm,0,none⟩),.bool inside] w (MadeS B bm (f+1) w (ifM (stmtM f) false E (pubM E 6 0 ns.tail))):=by
 have hB:=hM.base
 have hth:=thread_cell hM
 have htl:=thread_le hM
 have H1:=next_any B bm E ns 12 _ hM (by omega) (by omega)
 have HM:=Lib.hid hM
 have hfull:=maker_full hM
 obtain ⟨t1,n1,hp1⟩:∃ t n,pubM E 6 0 ns.tail=(t,n):=⟨_,_,rfl⟩
 have P1:=fun w' h=>public_all E 6 B bm ns.tail 0 w' (by omega) (by omega) h
 rw [hp1] at P1 ⊢
 have hrm:roomE { E with deep:=E.deep+1 } := by unfold roomE at hroom ⊢;simp only;omega
 obtain ⟨b1,m1,hq1⟩:∃ b m,blockM (stmtM f) false E n1=(b,E,m):=⟨_,_,Prod.ext rfl (Prod.ext (block_env (fun E ns hf=>stmt_grow f false E ns hf) E n1 hfull) rfl)⟩
 have P2:=fun w' h=>block_any ih B bm false E n1 w' h (by omega) (by omega) hrm
 rw [hq1] at P2
 obtain ⟨b2,m2,hq2⟩:∃ b m,blockM (stmtM f) false E m1=(b,E,m):=⟨_,_,Prod.ext rfl (Prod.ext (block_env (fun E ns hf=>stmt_grow f false E ns hf) E m1 hfull) rfl)⟩
 have P3:=fun w' h=>block_any ih B bm false E m1 w' h (by omega) (by omega) hrm
 rw [hq2] at P3
 have hgoal:ifM (stmtM f) false E (t1,n1)=([⟨3,⟨#[]⟩,[t1],0,b1,b2,0⟩],E,m2):=by simp only [ifM,hq1,hq2]
 rw [hgoal]
 have hdI:(E.deep:Int)<4:=by omega
 rw [hcase] at H1
 clear hcase hp1 hq1 hq2 hgoal hM
 subst hin
 go_enter Tryz.func63,Tryz.ntmps63
 go_wp2_with (first
  | (go_at_call 34;refine (digit_any E.thread htl _).mono ?_;rintro e w' ⟨rfl,rfl⟩)
  | (go_at_call 94;refine (P1 w1 hM1.out).mono ?_;rintro e w2 ⟨v2,rfl,hE2,hM2,hg2⟩;replace hM2:=Lib.hid hM2;obtain ⟨_,kv2,rfl,kao2,kcap2,rfl,_,_⟩:=id hE2;replace hE2:=Lib.hid hE2)
  | (go_at_call 33;refine H1.mono ?_;rintro e w1 ⟨rfl,hM1,hg1⟩;obtain ⟨lao,lcap,hlc,_⟩:=locals_cell hM1;have hdc:=mdeep_cell hM1;have hhc:=held_cell hM1;replace hM1:=Lib.hid hM1))
 generalize hwE:w2.alloc (.cells #[.int .i64 t1.kind,.int .i64 t1.op,.string t1.name,.int .u64 t1.value,.slice kao2 t1.kids.length kcap2,.int .i64 t1.at_] 50)=wE
 have hbx:wE.heap[w2.heap.size]?=some (.cells #[.int .i64 t1.kind,.int .i64 t1.op,.string t1.name,.int .u64 t1.value,.slice kao2 t1.kids.length kcap2,.int .i64 t1.at_] 50 (0,0)):=by rw [<- hwE];exact heap_alloc_new w2 _
 have hME:Hid (MakerAt B bm E n1 wE):=Lib.hid (by rw [<- hwE];exact hM2.out.alloc _)
 obtain ⟨c0,c1,c2,c3,c4,c5⟩:=box_cells hbx
 have HW:=Lib.hid hwE
 have HBX:=Lib.hid hbx
 clear hwE hbx
 go_region_with (first
  | (go_at_call 91;refine (one_any _ _ _ _ _ _ _ _ _ _ _ _ _ _).mono ?_;rintro e w5 ⟨g,rfl,hgl,hgr,hg5,hb5⟩)
  | (go_at_call 35;revert hM3;intro hM3;have hX:=hM3.out;refine (P3 _ (by refine hX.below ?_;repeat (first | exact Below.refl _ _ | refine Below.drew ?_ | refine Below.alloc ?_ (by simp) _))).mono ?_;clear hX;rintro e w4 ⟨v4,rfl,hS4,hM4,hK4⟩;replace hM4:=Lib.hid hM4;have hbx4:=keep_new hK4 (p:=w2.heap.size) (by first | exact hbx3.out | exact (alloc_keep hbx3.out _));obtain ⟨e0,e1,e2,e3,e4,e5⟩:=box_cells hbx4;replace hbx4:=Lib.hid hbx4;replace hK4:=Lib.hid hK4;obtain ⟨bao4,bcap4,rfl,_⟩:=id hS4;replace hS4:=Lib.hid hS4)
  | (go_at_call 35;revert hME;intro hME;have hX:=hME.out;refine (P2 _ (by refine hX.below ?_;repeat (first | exact Below.refl _ _ | refine Below.drew ?_ | refine Below.alloc ?_ (by simp) _))).mono ?_;clear hX;rintro e w3 ⟨v3,rfl,hS3,hM3,hK3⟩;replace hK3:=hK3.undrew;replace hM3:=Lib.hid hM3;have hbx3:=keep_new hK3 (p:=w2.heap.size) (by first | exact HBX.out | exact (alloc_keep HBX.out _));obtain ⟨d0,d1,d2,d3,d4,d5⟩:=box_cells hbx3;replace hbx3:=Lib.hid hbx3;replace hK3:=Lib.hid hK3;obtain ⟨bao3,bcap3,rfl,_⟩:=id hS3;replace hS3:=Lib.hid hS3))
 all_goals go_wp2
 all_goals go_ret
 all_goals (first | exact if_A hB ((KeepM.of_grown HM.out hg1).trans (KeepM.of_grown hM1.out hg2)) hE2.out hg1.size HW.out hS3.out hK3.out hS4.out hK4.out hM4.out hb5 hgl hg5 | exact if_B hB ((KeepM.of_grown HM.out hg1).trans (KeepM.of_grown hM1.out hg2)) hE2.out hg1.size HW.out hS3.out hK3.out hS4.out hK4.out hM4.out hb5 hgl hg5 | exact if_C hB ((KeepM.of_grown HM.out hg1).trans (KeepM.of_grown hM1.out hg2)) hE2.out hg1.size HW.out hS3.out hK3.out hS4.out hK4.out hM4.out hb5 hgl hg5)
end Go.Proofs.YtlepckjmdjjolaaGreatDoor
