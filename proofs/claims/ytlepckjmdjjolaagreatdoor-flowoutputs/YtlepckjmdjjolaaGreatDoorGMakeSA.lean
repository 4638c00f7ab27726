/- Own texts laid together: MakeStmA, MakeStmB. Conditions: as each theorem says. -/
import Derived.Test.YtlepckjmdjjolaaGreatDoorGMakeK
set_option maxHeartbeats 1000000
set_option maxRecDepth 100000
set_option linter.unusedVariables false
set_option linter.unusedSimpArgs false
namespace Go.Proofs.YtlepckjmdjjolaaGreatDoor
open Go.ChangeShapes Go.WideShapes Go.ChangeAt Go.RowKit
theorem stmt_assignS (B bm f:Nat) (E:Env) (inside:Bool) (ns:List UInt8) (w:World) (hM:MakerAt B bm E ns w) (hcase:nxV ns 12=2):
 Calls Tryz.prog 63 #[.pointer (some ⟨bm,0,none⟩),.bool inside] w (MadeS B bm (f+1) w (oneM 1 (dig 115 E) E (secM E 6 0 ns.tail))):=by
 have hB:=hM.base
 have hth:=thread_cell hM
 have htl:=thread_le hM
 have H1:=next_any B bm E ns 12 _ hM (by omega) (by omega)
 have HM:=Lib.hid hM
 obtain ⟨t1,n1,hp1⟩:∃ t n,secM E 6 0 ns.tail=(t,n):=⟨_,_,rfl⟩
 have P1:=fun w' h=>secretly_all E 6 B bm ns.tail 0 w' (by omega) (by omega) h
 rw [hp1] at P1 ⊢
 rw [hcase] at H1
 have hcat:=cat2 115 (digitB E.thread)
 unfold dig
 clear hcase hp1 hM
 go_enter Tryz.func63,Tryz.ntmps63
 go_wp2_with (first
  | (go_at_call 34;refine (digit_any E.thread htl _).mono ?_;rintro e w' ⟨rfl,rfl⟩)
  | (go_at_call 91;refine (one_any _ _ _ _ _ _ _ _ _ _ _ _ _ _).mono ?_;rintro e w3 ⟨g,rfl,hgl,hgr,hg3,hb3⟩)
  | (go_at_call 92;refine (P1 w1 hM1.out).mono ?_;rintro e w2 ⟨v2,rfl,hE2,hM2,hg2⟩;replace hM2:=Lib.hid hM2;obtain ⟨_,kv2,rfl,kao2,kcap2,rfl,_,_⟩:=id hE2;replace hE2:=Lib.hid hE2)
  | (go_at_call 33;refine H1.mono ?_;rintro e w1 ⟨rfl,hM1,hg1⟩;obtain ⟨lao,lcap,hlc,_⟩:=locals_cell hM1;have hdc:=mdeep_cell hM1;have hhc:=held_cell hM1;replace hM1:=Lib.hid hM1))
 go_ret
 exact made_one (by simp [ByteArray.size,countS]) hB ((KeepM.of_grown HM.out hg1).trans (KeepM.of_grown hM1.out hg2)) hE2.out hg1.size hM2.out hb3 hgl hgr hg3
theorem stmt_in0 (B bm f:Nat) (E:Env) (inside:Bool) (ns:List UInt8) (w:World) (hM:MakerAt B bm E ns w) (hfull:¬ E.loc.length<90) (hin:inside=true) (hcase:nxV ns 12=0):
 Calls Tryz.prog 63 #[.pointer (some ⟨bm,0,none⟩),.bool inside] w (MadeS B bm (f+1) w (oneM 1 (dig 115 E) E (secM E 6 0 ns.tail))):=by
 have hB:=hM.base
 have hth:=thread_cell hM
 have htl:=thread_le hM
 have H1:=next_any B bm E ns 12 _ hM (by omega) (by omega)
 have HM:=Lib.hid hM
 obtain ⟨t1,n1,hp1⟩:∃ t n,secM E 6 0 ns.tail=(t,n):=⟨_,_,rfl⟩
 have P1:=fun w' h=>secretly_all E 6 B bm ns.tail 0 w' (by omega) (by omega) h
 rw [hp1] at P1 ⊢
 have hfI:¬ (E.loc.length:Int)<90:=by omega
 rw [hcase] at H1
 have hcat:=cat2 115 (digitB E.thread)
 unfold dig
 clear hcase hp1 hM
 subst hin
 go_enter Tryz.func63,Tryz.ntmps63
 go_wp2_with (first
  | (go_at_call 34;refine (digit_any E.thread htl _).mono ?_;rintro e w' ⟨rfl,rfl⟩)
  | (go_at_call 91;refine (one_any _ _ _ _ _ _ _ _ _ _ _ _ _ _).mono ?_;rintro e w3 ⟨g,rfl,hgl,hgr,hg3,hb3⟩)
  | (go_at_call 92;refine (P1 w1 hM1.out).mono ?_;rintro e w2 ⟨v2,rfl,hE2,hM2,hg2⟩;replace hM2:=Lib.hid hM2;obtain ⟨_,kv2,rfl,kao2,kcap2,rfl,_,_⟩:=id hE2;replace hE2:=Lib.hid hE2)
  | (go_at_call 33;refine H1.mono ?_;rintro e w1 ⟨rfl,hM1,hg1⟩;obtain ⟨lao,lcap,hlc,_⟩:=locals_cell hM1;have hdc:=mdeep_cell hM1;have hhc:=held_cell hM1;replace hM1:=Lib.hid hM1))
 go_ret
 exact made_one (by simp [ByteArray.size,countS]) hB ((KeepM.of_grown HM.out hg1).trans (KeepM.of_grown hM1.out hg2)) hE2.out hg1.size hM2.out hb3 hgl hgr hg3
theorem stmt_in1 (B bm f:Nat) (E:Env) (inside:Bool) (ns:List UInt8) (w:World) (hM:MakerAt B bm E ns w) (hfull:¬ E.loc.length<90) (hin:inside=true) (hcase:nxV ns 12=1):
 Calls Tryz.prog 63 #[.pointer (some ⟨bm,0,none⟩),.bool inside] w (MadeS B bm (f+1) w (oneM 1 (dig 115 E) E (secM E 6 0 ns.tail))):=by
 have hB:=hM.base
 have hth:=thread_cell hM
 have htl:=thread_le hM
 have H1:=next_any B bm E ns 12 _ hM (by omega) (by omega)
 have HM:=Lib.hid hM
 obtain ⟨t1,n1,hp1⟩:∃ t n,secM E 6 0 ns.tail=(t,n):=⟨_,_,rfl⟩
 have P1:=fun w' h=>secretly_all E 6 B bm ns.tail 0 w' (by omega) (by omega) h
 rw [hp1] at P1 ⊢
 have hfI:¬ (E.loc.length:Int)<90:=by omega
 rw [hcase] at H1
 have hcat:=cat2 115 (digitB E.thread)
 unfold dig
 clear hcase hp1 hM
 subst hin
 go_enter Tryz.func63,Tryz.ntmps63
 go_wp2_with (first
  | (go_at_call 34;refine (digit_any E.thread htl _).mono ?_;rintro e w' ⟨rfl,rfl⟩)
  | (go_at_call 91;refine (one_any _ _ _ _ _ _ _ _ _ _ _ _ _ _).mono ?_;rintro e w3 ⟨g,rfl,hgl,hgr,hg3,hb3⟩)
  | (go_at_call 92;refine (P1 w1 hM1.out).mono ?_;rintro e w2 ⟨v2,rfl,hE2,hM2,hg2⟩;replace hM2:=Lib.hid hM2;obtain ⟨_,kv2,rfl,kao2,kcap2,rfl,_,_⟩:=id hE2;replace hE2:=Lib.hid hE2)
  | (go_at_call 33;refine H1.mono ?_;rintro e w1 ⟨rfl,hM1,hg1⟩;obtain ⟨lao,lcap,hlc,_⟩:=locals_cell hM1;have hdc:=mdeep_cell hM1;have hhc:=held_cell hM1;replace hM1:=Lib.hid hM1))
 go_ret
 exact made_one (by simp [ByteArray.size,countS]) hB ((KeepM.of_grown HM.out hg1).trans (KeepM.of_grown hM1.out hg2)) hE2.out hg1.size hM2.out hb3 hgl hgr hg3
theorem stmt_in2 (B bm f:Nat) (E:Env) (inside:Bool) (ns:List UInt8) (w:World) (hM:MakerAt B bm E ns w) (hfree:E.loc.length<90) (hin:inside=true) (hcase:nxV ns 12=1):
 Calls Tryz.prog 63 #[.pointer (some ⟨bm,0,none⟩),.bool inside] w (MadeS B bm (f+1) w (oneM 1 (dig 115 E) E (secM E 6 0 ns.tail))):=by
 have hB:=hM.base
 have hth:=thread_cell hM
 have htl:=thread_le hM
 have H1:=next_any B bm E ns 12 _ hM (by omega) (by omega)
 have HM:=Lib.hid hM
 obtain ⟨t1,n1,hp1⟩:∃ t n,secM E 6 0 ns.tail=(t,n):=⟨_,_,rfl⟩
 have P1:=fun w' h=>secretly_all E 6 B bm ns.tail 0 w' (by omega) (by omega) h
 rw [hp1] at P1 ⊢
 have hfI:(E.loc.length:Int)<90:=by omega
 rw [hcase] at H1
 have hcat:=cat2 115 (digitB E.thread)
 unfold dig
 clear hcase hp1 hM
 subst hin
 go_enter Tryz.func63,Tryz.ntmps63
 go_wp2_with (first
  | (go_at_call 34;refine (digit_any E.thread htl _).mono ?_;rintro e w' ⟨rfl,rfl⟩)
  | (go_at_call 91;refine (one_any _ _ _ _ _ _ _ _ _ _ _ _ _ _).mono ?_;rintro e w3 ⟨g,rfl,hgl,hgr,hg3,hb3⟩)
  | (go_at_call 92;refine (P1 w1 hM1.out).mono ?_;rintro e w2 ⟨v2,rfl,hE2,hM2,hg2⟩;replace hM2:=Lib.hid hM2;obtain ⟨_,kv2,rfl,kao2,kcap2,rfl,_,_⟩:=id hE2;replace hE2:=Lib.hid hE2)
  | (go_at_call 33;refine H1.mono ?_;rintro e w1 ⟨rfl,hM1,hg1⟩;obtain ⟨lao,lcap,hlc,_⟩:=locals_cell hM1;have hdc:=mdeep_cell hM1;have hhc:=held_cell hM1;replace hM1:=Lib.hid hM1))
 go_ret
 exact made_one (by simp [ByteArray.size,countS]) hB ((KeepM.of_grown HM.out hg1).trans (KeepM.of_grown hM1.out hg2)) hE2.out hg1.size hM2.out hb3 hgl hgr hg3
theorem stmt_in3 (B bm f:Nat) (E:Env) (inside:Bool) (ns:List UInt8) (w:World) (hM:MakerAt B bm E ns w) (hdown:¬ E.deep<4) (hin:inside=true) (hcase:nxV ns 12=4):
 Calls Tryz.prog 63 #[.pointer (some ⟨bm,0,none⟩),.bool inside] w (MadeS B bm (f+1) w (oneM 1 (dig 115 E) E (secM E 6 0 ns.tail))):=by
 have hB:=hM.base
 have hth:=thread_cell hM
 have htl:=thread_le hM
 have H1:=next_any B bm E ns 12 _ hM (by omega) (by omega)
 have HM:=Lib.hid hM
 obtain ⟨t1,n1,hp1⟩:∃ t n,secM E 6 0 ns.tail=(t,n):=⟨_,_,rfl⟩
 have P1:=fun w' h=>secretly_all E 6 B bm ns.tail 0 w' (by omega) (by omega) h
 rw [hp1] at P1 ⊢
 have hdI:¬ (E.deep:Int)<4:=by omega
 rw [hcase] at H1
 have hcat:=cat2 115 (digitB E.thread)
 unfold dig
 clear hcase hp1 hM
 subst hin
 go_enter Tryz.func63,Tryz.ntmps63
 go_wp2_with (first
  | (go_at_call 34;refine (digit_any E.thread htl _).mono ?_;rintro e w' ⟨rfl,rfl⟩)
  | (go_at_call 91;refine (one_any _ _ _ _ _ _ _ _ _ _ _ _ _ _).mono ?_;rintro e w3 ⟨g,rfl,hgl,hgr,hg3,hb3⟩)
  | (go_at_call 92;refine (P1 w1 hM1.out).mono ?_;rintro e w2 ⟨v2,rfl,hE2,hM2,hg2⟩;replace hM2:=Lib.hid hM2;obtain ⟨_,kv2,rfl,kao2,kcap2,rfl,_,_⟩:=id hE2;replace hE2:=Lib.hid hE2)
  | (go_at_call 33;refine H1.mono ?_;rintro e w1 ⟨rfl,hM1,hg1⟩;obtain ⟨lao,lcap,hlc,_⟩:=locals_cell hM1;have hdc:=mdeep_cell hM1;have hhc:=held_cell hM1;replace hM1:=Lib.hid hM1))
 go_ret
 exact made_one (by simp [ByteArray.size,countS]) hB ((KeepM.of_grown HM.out hg1).trans (KeepM.of_grown hM1.out hg2)) hE2.out hg1.size hM2.out hb3 hgl hgr hg3
theorem stmt_in4 (B bm f:Nat) (E:Env) (inside:Bool) (ns:List UInt8) (w:World) (hM:MakerAt B bm E ns w) (hdown:¬ E.deep<4) (hin:inside=true) (hcase:nxV ns 12=5):
 Calls Tryz.prog 63 #[.pointer (some ⟨bm,0,none⟩),.bool inside] w (MadeS B bm (f+1) w (oneM 1 (dig 115 E) E (secM E 6 0 ns.tail))):=by
 have hB:=hM.base
 have hth:=thread_cell hM
 have htl:=thread_le hM
 have H1:=next_any B bm E ns 12 _ hM (by omega) (by omega)
 have HM:=Lib.hid hM
 obtain ⟨t1,n1,hp1⟩:∃ t n,secM E 6 0 ns.tail=(t,n):=⟨_,_,rfl⟩
 have P1:=fun w' h=>secretly_all E 6 B bm ns.tail 0 w' (by omega) (by omega) h
 rw [hp1] at P1 ⊢
 have hdI:¬ (E.deep:Int)<4:=by omega
 rw [hcase] at H1
 have hcat:=cat2 115 (digitB E.thread)
 unfold dig
 clear hcase hp1 hM
 subst hin
 go_enter Tryz.func63,Tryz.ntmps63
 go_wp2_with (first
  | (go_at_call 34;refine (digit_any E.thread htl _).mono ?_;rintro e w' ⟨rfl,rfl⟩)
  | (go_at_call 91;refine (one_any _ _ _ _ _ _ _ _ _ _ _ _ _ _).mono ?_;rintro e w3 ⟨g,rfl,hgl,hgr,hg3,hb3⟩)
  | (go_at_call 92;refine (P1 w1 hM1.out).mono ?_;rintro e w2 ⟨v2,rfl,hE2,hM2,hg2⟩;replace hM2:=Lib.hid hM2;obtain ⟨_,kv2,rfl,kao2,kcap2,rfl,_,_⟩:=id hE2;replace hE2:=Lib.hid hE2)
  | (go_at_call 33;refine H1.mono ?_;rintro e w1 ⟨rfl,hM1,hg1⟩;obtain ⟨lao,lcap,hlc,_⟩:=locals_cell hM1;have hdc:=mdeep_cell hM1;have hhc:=held_cell hM1;replace hM1:=Lib.hid hM1))
 go_ret
 exact made_one (by simp [ByteArray.size,countS]) hB ((KeepM.of_grown HM.out hg1).trans (KeepM.of_grown hM1.out hg2)) hE2.out hg1.size hM2.out hb3 hgl hgr hg3
theorem stmt_in5 (B bm f:Nat) (E:Env) (inside:Bool) (ns:List UInt8) (w:World) (hM:MakerAt B bm E ns w) (hin:inside=true) (hcase:nxV ns 12=6):
 Calls Tryz.prog 63 #[.pointer (some ⟨bm,0,none⟩),.bool inside] w (MadeS B bm (f+1) w (oneM 1 (dig 115 E) E (secM E 6 0 ns.tail))):=by
 have hB:=hM.base
 have hth:=thread_cell hM
 have htl:=thread_le hM
 have H1:=next_any B bm E ns 12 _ hM (by omega) (by omega)
 have HM:=Lib.hid hM
 obtain ⟨t1,n1,hp1⟩:∃ t n,secM E 6 0 ns.tail=(t,n):=⟨_,_,rfl⟩
 have P1:=fun w' h=>secretly_all E 6 B bm ns.tail 0 w' (by omega) (by omega) h
 rw [hp1] at P1 ⊢
 rw [hcase] at H1
 have hcat:=cat2 115 (digitB E.thread)
 unfold dig
 clear hcase hp1 hM
 subst hin
 go_enter Tryz.func63,Tryz.ntmps63
 go_wp2_with (first
  | (go_at_call 34;refine (digit_any E.thread htl _).mono ?_;rintro e w' ⟨rfl,rfl⟩)
  | (go_at_call 91;refine (one_any _ _ _ _ _ _ _ _ _ _ _ _ _ _).mono ?_;rintro e w3 ⟨g,rfl,hgl,hgr,hg3,hb3⟩)
  | (go_at_call 92;refine (P1 w1 hM1.out).mono ?_;rintro e w2 ⟨v2,rfl,hE2,hM2,hg2⟩;replace hM2:=Lib.hid hM2;obtain ⟨_,kv2,rfl,kao2,kcap2,rfl,_,_⟩:=id hE2;replace hE2:=Lib.hid hE2)
  | (go_at_call 33;refine H1.mono ?_;rintro e w1 ⟨rfl,hM1,hg1⟩;obtain ⟨lao,lcap,hlc,_⟩:=locals_cell hM1;have hdc:=mdeep_cell hM1;have hhc:=held_cell hM1;replace hM1:=Lib.hid hM1))
 go_ret
 exact made_one (by simp [ByteArray.size,countS]) hB ((KeepM.of_grown HM.out hg1).trans (KeepM.of_grown hM1.out hg2)) hE2.out hg1.size hM2.out hb3 hgl hgr hg3
theorem stmt_in6 (B bm f:Nat) (E:Env) (inside:Bool) (ns:List UInt8) (w:World) (hM:MakerAt B bm E ns w) (hin:inside=true) (hcase:nxV ns 12=7):
 Calls Tryz.prog 63 #[.pointer (some ⟨bm,0,none⟩),.bool inside] w (MadeS B bm (f+1) w (oneM 1 (dig 115 E) E (secM E 6 0 ns.tail))):=by
 have hB:=hM.base
 have hth:=thread_cell hM
 have htl:=thread_le hM
 have H1:=next_any B bm E ns 12 _ hM (by omega) (by omega)
 have HM:=Lib.hid hM
 obtain ⟨t1,n1,hp1⟩:∃ t n,secM E 6 0 ns.tail=(t,n):=⟨_,_,rfl⟩
 have P1:=fun w' h=>secretly_all E 6 B bm ns.tail 0 w' (by omega) (by omega) h
 rw [hp1] at P1 ⊢
 rw [hcase] at H1
 have hcat:=cat2 115 (digitB E.thread)
 unfold dig
 clear hcase hp1 hM
 subst hin
 go_enter Tryz.func63,Tryz.ntmps63
 go_wp2_with (first
  | (go_at_call 34;refine (digit_any E.thread htl _).mono ?_;rintro e w' ⟨rfl,rfl⟩)
  | (go_at_call 91;refine (one_any _ _ _ _ _ _ _ _ _ _ _ _ _ _).mono ?_;rintro e w3 ⟨g,rfl,hgl,hgr,hg3,hb3⟩)
  | (go_at_call 92;refine (P1 w1 hM1.out).mono ?_;rintro e w2 ⟨v2,rfl,hE2,hM2,hg2⟩;replace hM2:=Lib.hid hM2;obtain ⟨_,kv2,rfl,kao2,kcap2,rfl,_,_⟩:=id hE2;replace hE2:=Lib.hid hE2)
  | (go_at_call 33;refine H1.mono ?_;rintro e w1 ⟨rfl,hM1,hg1⟩;obtain ⟨lao,lcap,hlc,_⟩:=locals_cell hM1;have hdc:=mdeep_cell hM1;have hhc:=held_cell hM1;replace hM1:=Lib.hid hM1))
 go_ret
 exact made_one (by simp [ByteArray.size,countS]) hB ((KeepM.of_grown HM.out hg1).trans (KeepM.of_grown hM1.out hg2)) hE2.out hg1.size hM2.out hb3 hgl hgr hg3
theorem stmt_in7 (B bm f:Nat) (E:Env) (inside:Bool) (ns:List UInt8) (w:World) (hM:MakerAt B bm E ns w) (hin:inside=true) (hcase:nxV ns 12=8):
 Calls Tryz.prog 63 #[.pointer (some ⟨bm,0,none⟩),.bool inside] w (MadeS B bm (f+1) w (oneM 1 (dig 115 E) E (secM E 6 0 ns.tail))):=by
 have hB:=hM.base
 have hth:=thread_cell hM
 have htl:=thread_le hM
 have H1:=next_any B bm E ns 12 _ hM (by omega) (by omega)
 have HM:=Lib.hid hM
 obtain ⟨t1,n1,hp1⟩:∃ t n,secM E 6 0 ns.tail=(t,n):=⟨_,_,rfl⟩
 have P1:=fun w' h=>secretly_all E 6 B bm ns.tail 0 w' (by omega) (by omega) h
 rw [hp1] at P1 ⊢
 rw [hcase] at H1
 have hcat:=cat2 115 (digitB E.thread)
 unfold dig
 clear hcase hp1 hM
 subst hin
 go_enter Tryz.func63,Tryz.ntmps63
 go_wp2_with (first
  | (go_at_call 34;refine (digit_any E.thread htl _).mono ?_;rintro e w' ⟨rfl,rfl⟩)
  | (go_at_call 91;refine (one_any _ _ _ _ _ _ _ _ _ _ _ _ _ _).mono ?_;rintro e w3 ⟨g,rfl,hgl,hgr,hg3,hb3⟩)
  | (go_at_call 92;refine (P1 w1 hM1.out).mono ?_;rintro e w2 ⟨v2,rfl,hE2,hM2,hg2⟩;replace hM2:=Lib.hid hM2;obtain ⟨_,kv2,rfl,kao2,kcap2,rfl,_,_⟩:=id hE2;replace hE2:=Lib.hid hE2)
  | (go_at_call 33;refine H1.mono ?_;rintro e w1 ⟨rfl,hM1,hg1⟩;obtain ⟨lao,lcap,hlc,_⟩:=locals_cell hM1;have hdc:=mdeep_cell hM1;have hhc:=held_cell hM1;replace hM1:=Lib.hid hM1))
 go_ret
 exact made_one (by simp [ByteArray.size,countS]) hB ((KeepM.of_grown HM.out hg1).trans (KeepM.of_grown hM1.out hg2)) hE2.out hg1.size hM2.out hb3 hgl hgr hg3
theorem stmt_in8 (B bm f:Nat) (E:Env) (inside:Bool) (ns:List UInt8) (w:World) (hM:MakerAt B bm E ns w) (hin:inside=true) (hcase:nxV ns 12=9):
 Calls Tryz.prog 63 #[.pointer (some ⟨bm,0,none⟩),.bool inside] w (MadeS B bm (f+1) w (oneM 1 (dig 115 E) E (secM E 6 0 ns.tail))):=by
 have hB:=hM.base
 have hth:=thread_cell hM
 have htl:=thread_le hM
 have H1:=next_any B bm E ns 12 _ hM (by omega) (by omega)
 have HM:=Lib.hid hM
 obtain ⟨t1,n1,hp1⟩:∃ t n,secM E 6 0 ns.tail=(t,n):=⟨_,_,rfl⟩
 have P1:=fun w' h=>secretly_all E 6 B bm ns.tail 0 w' (by omega) (by omega) h
 rw [hp1] at P1 ⊢
 rw [hcase] at H1
 have hcat:=cat2 115 (digitB E.thread)
 unfold dig
 clear hcase hp1 hM
 subst hin
 go_enter Tryz.func63,Tryz.ntmps63
 go_wp2_with (first
  | (go_at_call 34;refine (digit_any E.thread htl _).mono ?_;rintro e w' ⟨rfl,rfl⟩)
  | (go_at_call 91;refine (one_any _ _ _ _ _ _ _ _ _ _ _ _ _ _).mono ?_;rintro e w3 ⟨g,rfl,hgl,hgr,hg3,hb3⟩)
  | (go_at_call 92;refine (P1 w1 hM1.out).mono ?_;rintro e w2 ⟨v2,rfl,hE2,hM2,hg2⟩;replace hM2:=Lib.hid hM2;obtain ⟨_,kv2,rfl,kao2,kcap2,rfl,_,_⟩:=id hE2;replace hE2:=Lib.hid hE2)
  | (go_at_call 33;refine H1.mono ?_;rintro e w1 ⟨rfl,hM1,hg1⟩;obtain ⟨lao,lcap,hlc,_⟩:=locals_cell hM1;have hdc:=mdeep_cell hM1;have hhc:=held_cell hM1;replace hM1:=Lib.hid hM1))
 go_ret
 exact made_one (by simp [ByteArray.size,countS]) hB ((KeepM.of_grown HM.out hg1).trans (KeepM.of_grown hM1.out hg2)) hE2.out hg1.size hM2.out hb3 hgl hgr hg3
theorem stmt_in9 (B bm f:Nat) (E:Env) (inside:Bool) (ns:List UInt8) (w:World) (hM:MakerAt B bm E ns w) (hin:inside=true) (hcase:nxV ns 12=10):
 Calls Tryz.prog 63 #[.pointer (some ⟨bm,0,none⟩),.bool inside] w (MadeS B bm (f+1) w (oneM 1 (dig 115 E) E (secM E 6 0 ns.tail))):=by
 have hB:=hM.base
 have hth:=thread_cell hM
 have htl:=thread_le hM
 have H1:=next_any B bm E ns 12 _ hM (by omega) (by omega)
 have HM:=Lib.hid hM
 obtain ⟨t1,n1,hp1⟩:∃ t n,secM E 6 0 ns.tail=(t,n):=⟨_,_,rfl⟩
 have P1:=fun w' h=>secretly_all E 6 B bm ns.tail 0 w' (by omega) (by omega) h
 rw [hp1] at P1 ⊢
 rw [hcase] at H1
 have hcat:=cat2 115 (digitB E.thread)
 unfold dig
 clear hcase hp1 hM
 subst hin
 go_enter Tryz.func63,Tryz.ntmps63
 go_wp2_with (first
  | (go_at_call 34;refine (digit_any E.thread htl _).mono ?_;rintro e w' ⟨rfl,rfl⟩)
  | (go_at_call 91;refine (one_any _ _ _ _ _ _ _ _ _ _ _ _ _ _).mono ?_;rintro e w3 ⟨g,rfl,hgl,hgr,hg3,hb3⟩)
  | (go_at_call 92;refine (P1 w1 hM1.out).mono ?_;rintro e w2 ⟨v2,rfl,hE2,hM2,hg2⟩;replace hM2:=Lib.hid hM2;obtain ⟨_,kv2,rfl,kao2,kcap2,rfl,_,_⟩:=id hE2;replace hE2:=Lib.hid hE2)
  | (go_at_call 33;refine H1.mono ?_;rintro e w1 ⟨rfl,hM1,hg1⟩;obtain ⟨lao,lcap,hlc,_⟩:=locals_cell hM1;have hdc:=mdeep_cell hM1;have hhc:=held_cell hM1;replace hM1:=Lib.hid hM1))
 go_ret
 exact made_one (by simp [ByteArray.size,countS]) hB ((KeepM.of_grown HM.out hg1).trans (KeepM.of_grown hM1.out hg2)) hE2.out hg1.size hM2.out hb3 hgl hgr hg3
theorem stmt_in10 (B bm f:Nat) (E:Env) (inside:Bool) (ns:List UInt8) (w:World) (hM:MakerAt B bm E ns w) (hin:inside=true) (hcase:nxV ns 12=11):
 Calls Tryz.prog 63 #[.pointer (some ⟨bm,0,none⟩),.bool inside] w (MadeS B bm (f+1) w (oneM 1 (dig 115 E) E (secM E 6 0 ns.tail))):=by
 have hB:=hM.base
 have hth:=thread_cell hM
 have htl:=thread_le hM
 have H1:=next_any B bm E ns 12 _ hM (by omega) (by omega)
 have HM:=Lib.hid hM
 obtain ⟨t1,n1,hp1⟩:∃ t n,secM E 6 0 ns.tail=(t,n):=⟨_,_,rfl⟩
 have P1:=fun w' h=>secretly_all E 6 B bm ns.tail 0 w' (by omega) (by omega) h
 rw [hp1] at P1 ⊢
 rw [hcase] at H1
 have hcat:=cat2 115 (digitB E.thread)
 unfold dig
 clear hcase hp1 hM
 subst hin
 go_enter Tryz.func63,Tryz.ntmps63
 go_wp2_with (first
  | (go_at_call 34;refine (digit_any E.thread htl _).mono ?_;rintro e w' ⟨rfl,rfl⟩)
  | (go_at_call 91;refine (one_any _ _ _ _ _ _ _ _ _ _ _ _ _ _).mono ?_;rintro e w3 ⟨g,rfl,hgl,hgr,hg3,hb3⟩)
  | (go_at_call 92;refine (P1 w1 hM1.out).mono ?_;rintro e w2 ⟨v2,rfl,hE2,hM2,hg2⟩;replace hM2:=Lib.hid hM2;obtain ⟨_,kv2,rfl,kao2,kcap2,rfl,_,_⟩:=id hE2;replace hE2:=Lib.hid hE2)
  | (go_at_call 33;refine H1.mono ?_;rintro e w1 ⟨rfl,hM1,hg1⟩;obtain ⟨lao,lcap,hlc,_⟩:=locals_cell hM1;have hdc:=mdeep_cell hM1;have hhc:=held_cell hM1;replace hM1:=Lib.hid hM1))
 go_ret
 exact made_one (by simp [ByteArray.size,countS]) hB ((KeepM.of_grown HM.out hg1).trans (KeepM.of_grown hM1.out hg2)) hE2.out hg1.size hM2.out hb3 hgl hgr hg3
theorem stmt_bump (B bm f:Nat) (E:Env) (inside:Bool) (ns:List UInt8) (w:World) (hM:MakerAt B bm E ns w) (hin:inside=false) (hcase:nxV ns 12=9):
 Calls Tryz.prog 63 #[.pointer (some ⟨bm,0,none⟩),.bool inside] w (MadeS B bm (f+1) w (oneM 7 (countS) E (pubM E 6 0 ns.tail))):=by
 have hB:=hM.base
 have hth:=thread_cell hM
 have htl:=thread_le hM
 have H1:=next_any B bm E ns 12 _ hM (by omega) (by omega)
 have HM:=Lib.hid hM
 obtain ⟨t1,n1,hp1⟩:∃ t n,pubM E 6 0 ns.tail=(t,n):=⟨_,_,rfl⟩
 have P1:=fun w' h=>public_all E 6 B bm ns.tail 0 w' (by omega) (by omega) h
 rw [hp1] at P1 ⊢
 rw [hcase] at H1
 clear hcase hp1 hM
 subst hin
 go_enter Tryz.func63,Tryz.ntmps63
 go_wp2_with (first
  | (go_at_call 34;refine (digit_any E.thread htl _).mono ?_;rintro e w' ⟨rfl,rfl⟩)
  | (go_at_call 91;refine (one_any _ _ _ _ _ _ _ _ _ _ _ _ _ _).mono ?_;rintro e w3 ⟨g,rfl,hgl,hgr,hg3,hb3⟩)
  | (go_at_call 94;refine (P1 w1 hM1.out).mono ?_;rintro e w2 ⟨v2,rfl,hE2,hM2,hg2⟩;replace hM2:=Lib.hid hM2;obtain ⟨_,kv2,rfl,kao2,kcap2,rfl,_,_⟩:=id hE2;replace hE2:=Lib.hid hE2)
  | (go_at_call 33;refine H1.mono ?_;rintro e w1 ⟨rfl,hM1,hg1⟩;obtain ⟨lao,lcap,hlc,_⟩:=locals_cell hM1;have hdc:=mdeep_cell hM1;have hhc:=held_cell hM1;replace hM1:=Lib.hid hM1))
 go_ret
 exact made_one (by simp [ByteArray.size,countS]) hB ((KeepM.of_grown HM.out hg1).trans (KeepM.of_grown hM1.out hg2)) hE2.out hg1.size hM2.out hb3 hgl hgr hg3
theorem stmt_output (B bm f:Nat) (E:Env) (inside:Bool) (ns:List UInt8) (w:World) (hM:MakerAt B bm E ns w) (hin:inside=false) (hcase:nxV ns 12=10):
 Calls Tryz.prog 63 #[.pointer (some ⟨bm,0,none⟩),.bool inside] w (MadeS B bm (f+1) w (oneM 9 (⟨#[]⟩) E (pubM E 6 0 ns.tail))):=by
 have hB:=hM.base
 have hth:=thread_cell hM
 have htl:=thread_le hM
 have H1:=next_any B bm E ns 12 _ hM (by omega) (by omega)
 have HM:=Lib.hid hM
 obtain ⟨t1,n1,hp1⟩:∃ t n,pubM E 6 0 ns.tail=(t,n):=⟨_,_,rfl⟩
 have P1:=fun w' h=>public_all E 6 B bm ns.tail 0 w' (by omega) (by omega) h
 rw [hp1] at P1 ⊢
 rw [hcase] at H1
 clear hcase hp1 hM
 subst hin
 go_enter Tryz.func63,Tryz.ntmps63
 go_wp2_with (first
  | (go_at_call 34;refine (digit_any E.thread htl _).mono ?_;rintro e w' ⟨rfl,rfl⟩)
  | (go_at_call 91;refine (one_any _ _ _ _ _ _ _ _ _ _ _ _ _ _).mono ?_;rintro e w3 ⟨g,rfl,hgl,hgr,hg3,hb3⟩)
  | (go_at_call 94;refine (P1 w1 hM1.out).mono ?_;rintro e w2 ⟨v2,rfl,hE2,hM2,hg2⟩;replace hM2:=Lib.hid hM2;obtain ⟨_,kv2,rfl,kao2,kcap2,rfl,_,_⟩:=id hE2;replace hE2:=Lib.hid hE2)
  | (go_at_call 33;refine H1.mono ?_;rintro e w1 ⟨rfl,hM1,hg1⟩;obtain ⟨lao,lcap,hlc,_⟩:=locals_cell hM1;have hdc:=mdeep_cell hM1;have hhc:=held_cell hM1;replace hM1:=Lib.hid hM1))
 go_ret
 exact made_one (by simp [ByteArray.size,countS]) hB ((KeepM.of_grown HM.out hg1).trans (KeepM.of_grown hM1.out hg2)) hE2.out hg1.size hM2.out hb3 hgl hgr hg3
theorem stmt_out0 (B bm f:Nat) (E:Env) (inside:Bool) (ns:List UInt8) (w:World) (hM:MakerAt B bm E ns w) (hfull:¬ E.loc.length<90) (hin:inside=false) (hcase:nxV ns 12=0):
 Calls Tryz.prog 63 #[.pointer (some ⟨bm,0,none⟩),.bool inside] w (MadeS B bm (f+1) w (oneM 1 (dig 112 E) E (pubM E 6 0 ns.tail))):=by
 have hB:=hM.base
 have hth:=thread_cell hM
 have htl:=thread_le hM
 have H1:=next_any B bm E ns 12 _ hM (by omega) (by omega)
 have HM:=Lib.hid hM
 obtain ⟨t1,n1,hp1⟩:∃ t n,pubM E 6 0 ns.tail=(t,n):=⟨_,_,rfl⟩
 have P1:=fun w' h=>public_all E 6 B bm ns.tail 0 w' (by omega) (by omega) h
 rw [hp1] at P1 ⊢
 have hfI:¬ (E.loc.length:Int)<90:=by omega
 rw [hcase] at H1
 have hcat:=cat2 112 (digitB E.thread)
 unfold dig
 clear hcase hp1 hM
 subst hin
 go_enter Tryz.func63,Tryz.ntmps63
 go_wp2_with (first
  | (go_at_call 34;refine (digit_any E.thread htl _).mono ?_;rintro e w' ⟨rfl,rfl⟩)
  | (go_at_call 91;refine (one_any _ _ _ _ _ _ _ _ _ _ _ _ _ _).mono ?_;rintro e w3 ⟨g,rfl,hgl,hgr,hg3,hb3⟩)
  | (go_at_call 94;refine (P1 w1 hM1.out).mono ?_;rintro e w2 ⟨v2,rfl,hE2,hM2,hg2⟩;replace hM2:=Lib.hid hM2;obtain ⟨_,kv2,rfl,kao2,kcap2,rfl,_,_⟩:=id hE2;replace hE2:=Lib.hid hE2)
  | (go_at_call 33;refine H1.mono ?_;rintro e w1 ⟨rfl,hM1,hg1⟩;obtain ⟨lao,lcap,hlc,_⟩:=locals_cell hM1;have hdc:=mdeep_cell hM1;have hhc:=held_cell hM1;replace hM1:=Lib.hid hM1))
 go_ret
 exact made_one (by simp [ByteArray.size,countS]) hB ((KeepM.of_grown HM.out hg1).trans (KeepM.of_grown hM1.out hg2)) hE2.out hg1.size hM2.out hb3 hgl hgr hg3
theorem stmt_out1 (B bm f:Nat) (E:Env) (inside:Bool) (ns:List UInt8) (w:World) (hM:MakerAt B bm E ns w) (hfull:¬ E.loc.length<90) (hin:inside=false) (hcase:nxV ns 12=1):
 Calls Tryz.prog 63 #[.pointer (some ⟨bm,0,none⟩),.bool inside] w (MadeS B bm (f+1) w (oneM 1 (dig 112 E) E (pubM E 6 0 ns.tail))):=by
 have hB:=hM.base
 have hth:=thread_cell hM
 have htl:=thread_le hM
 have H1:=next_any B bm E ns 12 _ hM (by omega) (by omega)
 have HM:=Lib.hid hM
 obtain ⟨t1,n1,hp1⟩:∃ t n,pubM E 6 0 ns.tail=(t,n):=⟨_,_,rfl⟩
 have P1:=fun w' h=>public_all E 6 B bm ns.tail 0 w' (by omega) (by omega) h
 rw [hp1] at P1 ⊢
 have hfI:¬ (E.loc.length:Int)<90:=by omega
 rw [hcase] at H1
 have hcat:=cat2 112 (digitB E.thread)
 unfold dig
 clear hcase hp1 hM
 subst hin
 go_enter Tryz.func63,Tryz.ntmps63
 go_wp2_with (first
  | (go_at_call 34;refine (digit_any E.thread htl _).mono ?_;rintro e w' ⟨rfl,rfl⟩)
  | (go_at_call 91;refine (one_any _ _ _ _ _ _ _ _ _ _ _ _ _ _).mono ?_;rintro e w3 ⟨g,rfl,hgl,hgr,hg3,hb3⟩)
  | (go_at_call 94;refine (P1 w1 hM1.out).mono ?_;rintro e w2 ⟨v2,rfl,hE2,hM2,hg2⟩;replace hM2:=Lib.hid hM2;obtain ⟨_,kv2,rfl,kao2,kcap2,rfl,_,_⟩:=id hE2;replace hE2:=Lib.hid hE2)
  | (go_at_call 33;refine H1.mono ?_;rintro e w1 ⟨rfl,hM1,hg1⟩;obtain ⟨lao,lcap,hlc,_⟩:=locals_cell hM1;have hdc:=mdeep_cell hM1;have hhc:=held_cell hM1;replace hM1:=Lib.hid hM1))
 go_ret
 exact made_one (by simp [ByteArray.size,countS]) hB ((KeepM.of_grown HM.out hg1).trans (KeepM.of_grown hM1.out hg2)) hE2.out hg1.size hM2.out hb3 hgl hgr hg3
theorem stmt_out2 (B bm f:Nat) (E:Env) (inside:Bool) (ns:List UInt8) (w:World) (hM:MakerAt B bm E ns w) (hdown:¬ E.deep<4) (hin:inside=false) (hcase:nxV ns 12=4):
 Calls Tryz.prog 63 #[.pointer (some ⟨bm,0,none⟩),.bool inside] w (MadeS B bm (f+1) w (oneM 1 (dig 112 E) E (pubM E 6 0 ns.tail))):=by
 have hB:=hM.base
 have hth:=thread_cell hM
 have htl:=thread_le hM
 have H1:=next_any B bm E ns 12 _ hM (by omega) (by omega)
 have HM:=Lib.hid hM
 obtain ⟨t1,n1,hp1⟩:∃ t n,pubM E 6 0 ns.tail=(t,n):=⟨_,_,rfl⟩
 have P1:=fun w' h=>public_all E 6 B bm ns.tail 0 w' (by omega) (by omega) h
 rw [hp1] at P1 ⊢
 have hdI:¬ (E.deep:Int)<4:=by omega
 rw [hcase] at H1
 have hcat:=cat2 112 (digitB E.thread)
 unfold dig
 clear hcase hp1 hM
 subst hin
 go_enter Tryz.func63,Tryz.ntmps63
 go_wp2_with (first
  | (go_at_call 34;refine (digit_any E.thread htl _).mono ?_;rintro e w' ⟨rfl,rfl⟩)
  | (go_at_call 91;refine (one_any _ _ _ _ _ _ _ _ _ _ _ _ _ _).mono ?_;rintro e w3 ⟨g,rfl,hgl,hgr,hg3,hb3⟩)
  | (go_at_call 94;refine (P1 w1 hM1.out).mono ?_;rintro e w2 ⟨v2,rfl,hE2,hM2,hg2⟩;replace hM2:=Lib.hid hM2;obtain ⟨_,kv2,rfl,kao2,kcap2,rfl,_,_⟩:=id hE2;replace hE2:=Lib.hid hE2)
  | (go_at_call 33;refine H1.mono ?_;rintro e w1 ⟨rfl,hM1,hg1⟩;obtain ⟨lao,lcap,hlc,_⟩:=locals_cell hM1;have hdc:=mdeep_cell hM1;have hhc:=held_cell hM1;replace hM1:=Lib.hid hM1))
 go_ret
 exact made_one (by simp [ByteArray.size,countS]) hB ((KeepM.of_grown HM.out hg1).trans (KeepM.of_grown hM1.out hg2)) hE2.out hg1.size hM2.out hb3 hgl hgr hg3
theorem stmt_out3 (B bm f:Nat) (E:Env) (inside:Bool) (ns:List UInt8) (w:World) (hM:MakerAt B bm E ns w) (hdown:¬ E.deep<4) (hin:inside=false) (hcase:nxV ns 12=5):
 Calls Tryz.prog 63 #[.pointer (some ⟨bm,0,none⟩),.bool inside] w (MadeS B bm (f+1) w (oneM 1 (dig 112 E) E (pubM E 6 0 ns.tail))):=by
 have hB:=hM.base
 have hth:=thread_cell hM
 have htl:=thread_le hM
 have H1:=next_any B bm E ns 12 _ hM (by omega) (by omega)
 have HM:=Lib.hid hM
 obtain ⟨t1,n1,hp1⟩:∃ t n,pubM E 6 0 ns.tail=(t,n):=⟨_,_,rfl⟩
 have P1:=fun w' h=>public_all E 6 B bm ns.tail 0 w' (by omega) (by omega) h
 rw [hp1] at P1 ⊢
 have hdI:¬ (E.deep:Int)<4:=by omega
 rw [hcase] at H1
 have hcat:=cat2 112 (digitB E.thread)
 unfold dig
 clear hcase hp1 hM
 subst hin
 go_enter Tryz.func63,Tryz.ntmps63
 go_wp2_with (first
  | (go_at_call 34;refine (digit_any E.thread htl _).mono ?_;rintro e w' ⟨rfl,rfl⟩)
  | (go_at_call 91;refine (one_any _ _ _ _ _ _ _ _ _ _ _ _ _ _).mono ?_;rintro e w3 ⟨g,rfl,hgl,hgr,hg3,hb3⟩)
  | (go_at_call 94;refine (P1 w1 hM1.out).mono ?_;rintro e w2 ⟨v2,rfl,hE2,hM2,hg2⟩;replace hM2:=Lib.hid hM2;obtain ⟨_,kv2,rfl,kao2,kcap2,rfl,_,_⟩:=id hE2;replace hE2:=Lib.hid hE2)
  | (go_at_call 33;refine H1.mono ?_;rintro e w1 ⟨rfl,hM1,hg1⟩;obtain ⟨lao,lcap,hlc,_⟩:=locals_cell hM1;have hdc:=mdeep_cell hM1;have hhc:=held_cell hM1;replace hM1:=Lib.hid hM1))
 go_ret
 exact made_one (by simp [ByteArray.size,countS]) hB ((KeepM.of_grown HM.out hg1).trans (KeepM.of_grown hM1.out hg2)) hE2.out hg1.size hM2.out hb3 hgl hgr hg3
theorem stmt_out4 (B bm f:Nat) (E:Env) (inside:Bool) (ns:List UInt8) (w:World) (hM:MakerAt B bm E ns w) (hdown:¬ E.deep<4) (hin:inside=false) (hcase:nxV ns 12=6):
 Calls Tryz.prog 63 #[.pointer (some ⟨bm,0,none⟩),.bool inside] w (MadeS B bm (f+1) w (oneM 1 (dig 112 E) E (pubM E 6 0 ns.tail))):=by
 have hB:=hM.base
 have hth:=thread_cell hM
 have htl:=thread_le hM
 have H1:=next_any B bm E ns 12 _ hM (by omega) (by omega)
 have HM:=Lib.hid hM
 obtain ⟨t1,n1,hp1⟩:∃ t n,pubM E 6 0 ns.tail=(t,n):=⟨_,_,rfl⟩
 have P1:=fun w' h=>public_all E 6 B bm ns.tail 0 w' (by omega) (by omega) h
 rw [hp1] at P1 ⊢
 have hdI:¬ (E.deep:Int)<4:=by omega
 rw [hcase] at H1
 have hcat:=cat2 112 (digitB E.thread)
 unfold dig
 clear hcase hp1 hM
 subst hin
 go_enter Tryz.func63,Tryz.ntmps63
 go_wp2_with (first
  | (go_at_call 34;refine (digit_any E.thread htl _).mono ?_;rintro e w' ⟨rfl,rfl⟩)
  | (go_at_call 91;refine (one_any _ _ _ _ _ _ _ _ _ _ _ _ _ _).mono ?_;rintro e w3 ⟨g,rfl,hgl,hgr,hg3,hb3⟩)
  | (go_at_call 94;refine (P1 w1 hM1.out).mono ?_;rintro e w2 ⟨v2,rfl,hE2,hM2,hg2⟩;replace hM2:=Lib.hid hM2;obtain ⟨_,kv2,rfl,kao2,kcap2,rfl,_,_⟩:=id hE2;replace hE2:=Lib.hid hE2)
  | (go_at_call 33;refine H1.mono ?_;rintro e w1 ⟨rfl,hM1,hg1⟩;obtain ⟨lao,lcap,hlc,_⟩:=locals_cell hM1;have hdc:=mdeep_cell hM1;have hhc:=held_cell hM1;replace hM1:=Lib.hid hM1))
 go_ret
 exact made_one (by simp [ByteArray.size,countS]) hB ((KeepM.of_grown HM.out hg1).trans (KeepM.of_grown hM1.out hg2)) hE2.out hg1.size hM2.out hb3 hgl hgr hg3
theorem stmt_out5 (B bm f:Nat) (E:Env) (inside:Bool) (ns:List UInt8) (w:World) (hM:MakerAt B bm E ns w) (hheld:E.held=true) (hin:inside=false) (hcase:nxV ns 12=8):
 Calls Tryz.prog 63 #[.pointer (some ⟨bm,0,none⟩),.bool inside] w (MadeS B bm (f+1) w (oneM 1 (dig 112 E) E (pubM E 6 0 ns.tail))):=by
 have hB:=hM.base
 have hth:=thread_cell hM
 have htl:=thread_le hM
 have H1:=next_any B bm E ns 12 _ hM (by omega) (by omega)
 have HM:=Lib.hid hM
 obtain ⟨t1,n1,hp1⟩:∃ t n,pubM E 6 0 ns.tail=(t,n):=⟨_,_,rfl⟩
 have P1:=fun w' h=>public_all E 6 B bm ns.tail 0 w' (by omega) (by omega) h
 rw [hp1] at P1 ⊢
 rw [hcase] at H1
 have hcat:=cat2 112 (digitB E.thread)
 unfold dig
 clear hcase hp1 hM
 subst hin
 go_enter Tryz.func63,Tryz.ntmps63
 go_wp2_with (first
  | (go_at_call 34;refine (digit_any E.thread htl _).mono ?_;rintro e w' ⟨rfl,rfl⟩)
  | (go_at_call 91;refine (one_any _ _ _ _ _ _ _ _ _ _ _ _ _ _).mono ?_;rintro e w3 ⟨g,rfl,hgl,hgr,hg3,hb3⟩)
  | (go_at_call 94;refine (P1 w1 hM1.out).mono ?_;rintro e w2 ⟨v2,rfl,hE2,hM2,hg2⟩;replace hM2:=Lib.hid hM2;obtain ⟨_,kv2,rfl,kao2,kcap2,rfl,_,_⟩:=id hE2;replace hE2:=Lib.hid hE2)
  | (go_at_call 33;refine H1.mono ?_;rintro e w1 ⟨rfl,hM1,hg1⟩;obtain ⟨lao,lcap,hlc,_⟩:=locals_cell hM1;have hdc:=mdeep_cell hM1;have hhc:=held_cell hM1;rw [hheld] at hhc;replace hM1:=Lib.hid hM1))
 go_ret
 exact made_one (by simp [ByteArray.size,countS]) hB ((KeepM.of_grown HM.out hg1).trans (KeepM.of_grown hM1.out hg2)) hE2.out hg1.size hM2.out hb3 hgl hgr hg3
theorem stmt_fence (B bm f:Nat) (E:Env) (inside:Bool) (ns:List UInt8) (w:World) (hM:MakerAt B bm E ns w) (hin:inside=false) (hcase:nxV ns 12=11):
 Calls Tryz.prog 63 #[.pointer (some ⟨bm,0,none⟩),.bool inside] w (MadeS B bm (f+1) w ([stmE 8 ⟨#[]⟩ []],E,ns.tail)):=by
 have hB:=hM.base
 have hth:=thread_cell hM
 have htl:=thread_le hM
 have H1:=next_any B bm E ns 12 _ hM (by omega) (by omega)
 have HM:=Lib.hid hM
 rw [hcase] at H1
 clear hcase hM
 subst hin
 go_enter Tryz.func63,Tryz.ntmps63
 go_wp2_with (first
  | (go_at_call 34;refine (digit_any E.thread htl _).mono ?_;rintro e w' ⟨rfl,rfl⟩)
  | (go_at_call 91;refine (one_any _ _ _ _ _ _ _ _ _ _ _ _ _ _).mono ?_;rintro e w3 ⟨g,rfl,hgl,hgr,hg3,hb3⟩)
  | (go_at_call 33;refine H1.mono ?_;rintro e w1 ⟨rfl,hM1,hg1⟩;obtain ⟨lao,lcap,hlc,_⟩:=locals_cell hM1;have hdc:=mdeep_cell hM1;have hhc:=held_cell hM1;replace hM1:=Lib.hid hM1))
 go_ret
 have hz:=hg1.size
 exact ⟨_,rfl,stms1 hg3 (by omega) hgr (srep0 (by decide)),hM1.out.below hb3,(KeepM.of_grown HM.out hg1).trans (KeepM.of_below (by omega) hb3)⟩
end Go.Proofs.YtlepckjmdjjolaaGreatDoor
