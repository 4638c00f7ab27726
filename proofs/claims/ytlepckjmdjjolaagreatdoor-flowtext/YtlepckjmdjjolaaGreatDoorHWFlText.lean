/- The walk of FlowText: on every text it returns true. Conditions: lex's variables, and that of errors, are as they are laid. -/
import Derived.Test.YtlepckjmdjjolaaGreatDoorGFlOwnW
import Derived.Test.YtlepckjmdjjolaaGreatDoorHFlSmall
import Derived.Test.YtlepckjmdjjolaaGreatDoorGPProgA
set_option maxHeartbeats 4000000
set_option maxRecDepth 100000
namespace Go.Proofs.YtlepckjmdjjolaaGreatDoor.Fl
open Go.ChangeShapes Go.WideShapes Go.ChangeAt Go.RowKit
open Pr (bigM parseP)
set_option linter.unusedVariables false
set_option linter.unusedSimpArgs false
theorem agrees_any {m n:Nat} {p:Prg} {dv tv:Value} {w:World} (hD:Dcls 0 w.heap.size w dv p.decls) (hT:Thrs 0 w.heap.size m n w tv p.threads) (hk:p.decls.length+cntT n p.threads<=900000) (hn:∀ ss ∈ p.threads,∀ s ∈ ss,nmS m n s) (hg:∀ ss ∈ p.threads,∀ s ∈ ss,Pr.gS m n s) (hTV:TypeVar w):
 Calls Tryz.prog 13 #[.agg #[dv,tv]] w fun e w'=>e=.returned (.bool true)/\Below w.heap.size w w':=by
 have PW:=fun (w1:World) (hb:Below w.heap.size w w1)=>want_any (dcls_later hD hb) (thrs_later hT hb) hk hn hg (tv_on hTV hb)
 have PC:=fun (w1:World) (hb:Below w.heap.size w w1)=>check_any (dcls_later hD hb) (thrs_later hT hb) hk hn
 have HTV:=Lib.hid hTV
 have hbx:∀ o,Below w.heap.size w (w.alloc o):=fun o=>(Below.refl _ _).alloc (Nat.le_refl _) o
 generalize checkP m n p=R at PW PC
 clear hD hT hk hn hg hTV
 cases R with
 | none=>
   go_enter Tryz.func13,Tryz.ntmps13
   go_wp2_with (first
    | (go_at_call 16;refine (PC _ h02).mono ?_;rintro e w3 ⟨hb3,rfl⟩)
    | (go_at_call 32;refine (PW _ (hbx _)).mono ?_;rintro e w2 ⟨rfl,hb2,_⟩;have h02:=(hbx (.cells #[dv,tv] 26)).trans (hb2.mono (hbx _).size);have hB:=keep hb2 (heap_alloc_new w _);obtain ⟨p0,p1⟩:=box_two hB))
   go_ret
   exact ⟨rfl,h02.trans (hb3.mono h02.size)⟩
 | some x=>
   go_enter Tryz.func13,Tryz.ntmps13
   go_wp2_with (first
    | (go_at_call 24;refine (place_any fb x.2 _ w4 (tv_on HTV.out h04) (keep hb4 hft)).mono ?_;rintro e w5 ⟨rfl,hb5⟩)
    | (go_at_call 23;refine (number_any fb x.2 x.1 w3 (tv_on HTV.out h03) hft).mono ?_;rintro e w4 ⟨rfl,hb4⟩;have h04:=h03.trans (hb4.mono h03.size))
    | (go_at_call 16;refine (PC _ h02).mono ?_;rintro e w3 ⟨hb3,fb,rfl,hft,hfz⟩;have h03:=h02.trans (hb3.mono h02.size))
    | (go_at_call 32;refine (PW _ (hbx _)).mono ?_;rintro e w2 ⟨rfl,hb2,hx0⟩;have hx:=hx0 x rfl;have hxb:(numE (some x) == 0)=false:=(by simpa [numE] using hx);have h02:=(hbx (.cells #[dv,tv] 26)).trans (hb2.mono (hbx _).size);have hB:=keep hb2 (heap_alloc_new w _);obtain ⟨p0,p1⟩:=box_two hB))
   go_ret
   exact ⟨by simp [numE,plE],h04.trans (hb5.mono h04.size)⟩
theorem text_walk (s:ByteArray) (w:World) (hsz:s.size<=maxLen) (hV:Lx.Vars w) (hTV:TypeVar w):Calls Tryz.prog 3 #[.string s] w fun e w'=>e=.returned (.bool true)/\Below w.heap.size w w':=by
 have HA:=awake_any w hV hTV
 cases hp:parseP (bys s) with
 | ok p=>
   have P1:=fun w1 (hb:Below w.heap.size w w1)=>Pr.program_ok s p w1 hsz (lx_on hV hb) (Lib.hid hp)
   obtain ⟨hk,hn⟩:=small_of_ok hp
   have hg:=(Pr.read_ok (M:=bigM) (by unfold bigM;omega) hp).1.s
   have PA:=fun (dv tv:Value) (w1:World) (hb:Below w.heap.size w w1) (D:Dcls 0 w1.heap.size w1 dv p.decls) (T:Thrs 0 w1.heap.size bigM 41 w1 tv p.threads)=>agrees_any D T hk hn hg (tv_on hTV hb)
   clear hp hk hn hg hV hTV
   go_enter Tryz.func3,Tryz.ntmps3
   go_wp2_with (first
    | (go_at_call 13;refine (PA _ _ _ h0A D2 T2).mono ?_;rintro e w3 ⟨rfl,hb3⟩)
    | (go_at_call 12;refine (P1 _ hb1).mono ?_;rintro e w2 ⟨dv,tv,rfl,D1,T1,hb2⟩;have h02:=hb1.trans (hb2.mono hb1.size);have hbA:Below w2.heap.size w2 (w2.alloc (.cells #[dv,tv] 26)):=(Below.refl _ _).alloc (Nat.le_refl _) _;have D2:=dcls_later (dcls_zero D1) hbA;have T2:=thrs_later (thrs_zero T1) hbA;obtain ⟨dao,dcap,rfl⟩:=Pr.dcls_slice D1;obtain ⟨tao,tcap,rfl⟩:=Pr.thrs_slice T1;have h0A:=h02.trans (hbA.mono h02.size);clear D1 T1 hbA)
    | (go_at_call 11;refine HA.mono ?_;rintro e w1 ⟨rfl,hb1⟩))
   go_ret
   exact ⟨rfl,h0A.trans (hb3.mono h0A.size)⟩
 | error x=>
   have P1:=fun w1 (hb:Below w.heap.size w w1)=>Pr.program_err s x.1 x.2 w1 hsz (lx_on hV hb) (Lib.hid hp)
   clear hp hV hTV
   go_enter Tryz.func3,Tryz.ntmps3
   go_wp2_with (first
    | (go_at_call 12;refine (P1 _ hb1).mono ?_;rintro e w2 ⟨fb,rfl,hfb,hb2⟩;have h02:=hb1.trans (hb2.mono hb1.size))
    | (go_at_call 11;refine HA.mono ?_;rintro e w1 ⟨rfl,hb1⟩))
   go_ret
   exact ⟨rfl,h02.alloc h02.size _⟩
end Go.Proofs.YtlepckjmdjjolaaGreatDoor.Fl
