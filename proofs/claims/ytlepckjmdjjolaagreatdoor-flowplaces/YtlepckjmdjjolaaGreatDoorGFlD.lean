/- Own texts laid together: FlNum, FlAw0, FlAwake. Conditions: as each theorem says. -/
import Derived.Test.YtlepckjmdjjolaaGreatDoorGFlC
import Derived.Test.YtlepckjmdjjolaaGreatDoorGPProgA
import Derived.Test.YtlepckjmdjjolaaGreatDoorGErrAll
import Derived.Test.YtlepckjmdjjolaaGreatDoorGPGd
import Derived.Test.YtlepckjmdjjolaaGreatDoorGPValueA
import Derived.Test.YtlepckjmdjjolaaGreatDoorGFlA
set_option maxHeartbeats 4000000
set_option maxRecDepth 100000
set_option linter.unusedVariables false
set_option linter.unusedSimpArgs false
namespace Go.Proofs.YtlepckjmdjjolaaGreatDoor.Fl
open Go.ChangeShapes Go.WideShapes Go.ChangeAt Go.RowKit
open Pr (bigM parseP)
theorem as_nil (t:TypeId) (v:Value) (w:World):Calls Tryz.prog 51 #[.nilIface,.iface t v] w fun e w'=>e=.returned (.bool false)/\w'=w:=by
 go_enter Tryz.func51,Tryz.ntmps51
 go_wp2
 go_ret
 exact ⟨rfl,rfl⟩
theorem number_nil (w:World):Calls Tryz.prog 23 #[.nilIface] w fun e w'=>e=.returned (.int .i64 0)/\Below w.heap.size w w':=by
 have hb:∀ o,Below w.heap.size w (w.alloc o):=fun o=>(Below.refl _ _).alloc (Nat.le_refl _) o
 go_enter Tryz.func23,Tryz.ntmps23
 go_wp2_with (go_at_call 51;refine (as_nil _ _ _).mono ?_;rintro e w1 ⟨rfl,rfl⟩)
 go_ret
 exact ⟨rfl,hb _⟩
end Go.Proofs.YtlepckjmdjjolaaGreatDoor.Fl
namespace Go.Proofs.YtlepckjmdjjolaaGreatDoor.Fl
open Pr (bigM parseP)
def awT0:List UInt8:=[115,101,99,114,101,116,32,107,59,32,112,117,98,108,105,99,32,97,59,32,116,104,114,101,97,100,32,123,32,125]
def awT1:List UInt8:=[115,101,99,114,101,116,32,107,59,32,112,117,98,108,105,99,32,97,59,32,116,104,114,101,97,100,32,123,32,97,32,61,32,107,59,32,125]
def awT2:List UInt8:=[115,101,99,114,101,116,32,107,59,32,112,117,98,108,105,99,32,97,59,32,116,104,114,101,97,100,32,123,32,105,102,32,40,107,41,32,123,32,97,32,61,32,49,59,32,125,32,125]
def awT3:List UInt8:=[115,101,99,114,101,116,32,107,59,32,112,117,98,108,105,99,32,97,59,32,116,104,114,101,97,100,32,123,32,105,102,32,40,107,41,32,123,32,107,32,61,32,49,59,32,125,32,125]
def awB (l:List UInt8) (k:Nat) (o:Option Int):Bool:=match parseP l with
 | .ok p=>p.threads.length == k && ((checkP bigM 41 p).map (·.1) == o)
 | .error _=>false
theorem aw_is {l:List UInt8} {k:Nat} {o:Option Int} (h:awB l k o=true):∃ p,parseP l=.ok p/\p.threads.length=k/\(checkP bigM 41 p).map (·.1)=o:=by
 unfold awB at h
 split at h
 · rename_i p hp
   simp only [Bool.and_eq_true,beq_iff_eq] at h
   exact ⟨p,hp,h.1,h.2⟩
 · cases h
theorem aw0:∃ p,parseP awT0=.ok p/\p.threads.length=1/\(checkP bigM 41 p).map (·.1)=none:=aw_is (by kernel_rfl)
theorem aw1:∃ p,parseP awT1=.ok p/\p.threads.length=1/\(checkP bigM 41 p).map (·.1)=some 4:=aw_is (by kernel_rfl)
theorem aw2:∃ p,parseP awT2=.ok p/\p.threads.length=1/\(checkP bigM 41 p).map (·.1)=some 4:=aw_is (by kernel_rfl)
theorem aw3:∃ p,parseP awT3=.ok p/\p.threads.length=1/\(checkP bigM 41 p).map (·.1)=none:=aw_is (by kernel_rfl)
end Go.Proofs.YtlepckjmdjjolaaGreatDoor.Fl
namespace Go.Proofs.YtlepckjmdjjolaaGreatDoor.Fl
open Go.ChangeShapes Go.WideShapes Go.ChangeAt Go.RowKit
open Pr (bigM parseP)
theorem len_of_ok {l:List UInt8} {p:Prg} (h:parseP l=.ok p):l.length<=65536:=by
 obtain ⟨ts,hts,_⟩:=Pr.parse_ok h
 unfold Lx.cutAll at hts
 split at hts
 · cases hts
 · omega
def nmEB:Nat->Tree->Bool
 | 0,_=>true
 | n+1,e=>decide (e.name.size<=35184372088832) && e.kids.all (nmEB n)
def nmSB (m:Nat):Nat->Stm->Bool
 | 0,_=>true
 | n+1,s=>s.exprs.all (nmEB m) && s.body.all (nmSB m n) && s.els.all (nmSB m n)
theorem nmE_of:∀ (n:Nat) (e:Tree),nmEB n e=true->nmE n e
 | 0,_,_=>trivial
 | n+1,e,h=>by
   simp only [nmEB,Bool.and_eq_true,decide_eq_true_eq,List.all_eq_true] at h
   exact ⟨h.1,fun k hk=>nmE_of n k (h.2 k hk)⟩
theorem nmS_of (m:Nat):∀ (n:Nat) (s:Stm),nmSB m n s=true->nmS m n s
 | 0,_,_=>trivial
 | n+1,s,h=>by
   simp only [nmSB,Bool.and_eq_true,List.all_eq_true] at h
   exact ⟨fun e he=>nmE_of m e (h.1.1 e he),fun t ht=>nmS_of m n t (h.1.2 t ht),fun t ht=>nmS_of m n t (h.2 t ht)⟩
def Small (p:Prg):Prop:=p.decls.length+cntT 41 p.threads<=900000/\∀ ss ∈ p.threads,∀ s ∈ ss,nmS bigM 41 s
def smallB (l:List UInt8):Bool:=match parseP l with
 | .ok p=>decide (p.decls.length+cntT 41 p.threads<=900000) && p.threads.all (fun ss=>ss.all (nmSB bigM 41))
 | .error _=>false
theorem small_is {l:List UInt8} {p:Prg} (hp:parseP l=.ok p) (h:smallB l=true):Small p:=by
 unfold smallB at h
 rw [hp] at h
 simp only [Bool.and_eq_true,decide_eq_true_eq,List.all_eq_true] at h
 exact ⟨h.1,fun ss hs s hx=>nmS_of bigM 41 s (h.2 ss hs s hx)⟩
theorem dcls_zero {lo:Nat} {w:World} {v:Value} {ds:List Dcl} (h:Dcls lo w.heap.size w v ds):Dcls 0 w.heap.size w v ds:=by
 obtain ⟨ao,cap,e,hl,hr⟩:=h
 refine ⟨ao,cap,e,hl,fun i d hd=>?_⟩
 obtain ⟨hf,g,off,a,_,b,c⟩:=hr i d hd
 exact ⟨hf,g,off,a,Nat.zero_le _,b,c⟩
theorem thrs_zero {lo m n:Nat} {w:World} {v:Value} {ts:List (List Stm)} (h:Thrs lo w.heap.size m n w v ts):Thrs 0 w.heap.size m n w v ts:=by
 obtain ⟨ao,cap,e,hl,hr⟩:=h
 refine ⟨ao,cap,e,hl,fun i d hd=>?_⟩
 obtain ⟨g,off,tao,tcap,a,_,b,c,d1,hS⟩:=hr i d hd
 exact ⟨g,off,tao,tcap,a,Nat.zero_le _,b,c,d1,hS.carry (Nat.zero_le _) (Nat.le_refl _) (fun _ _ _ _ _ h=>h) fun _ _ hr=>hr.carry (Nat.zero_le _) (Nat.le_refl _) (Same35.refl _ _ _) (fun _ _ _ _ _ h=>h)⟩
theorem dcls_later {w w':World} {v:Value} {ds:List Dcl} (h:Dcls 0 w.heap.size w v ds) (hb:Below w.heap.size w w'):Dcls 0 w'.heap.size w' v ds:=by
 obtain ⟨ao,cap,e,hl,hr⟩:=h.on hb
 refine ⟨ao,cap,e,hl,fun i d hd=>?_⟩
 obtain ⟨hf,g,off,a,l,b,c⟩:=hr i d hd
 exact ⟨hf,g,off,a,l,Nat.lt_of_lt_of_le b hb.size,c⟩
theorem thrs_later {m n:Nat} {w w':World} {v:Value} {ts:List (List Stm)} (h:Thrs 0 w.heap.size m n w v ts) (hb:Below w.heap.size w w'):Thrs 0 w'.heap.size m n w' v ts:=by
 obtain ⟨ao,cap,e,hl,hr⟩:=h.on hb
 refine ⟨ao,cap,e,hl,fun i d hd=>?_⟩
 obtain ⟨g,off,tao,tcap,a,l,b,c,d1,hS⟩:=hr i d hd
 exact ⟨g,off,tao,tcap,a,l,Nat.lt_of_lt_of_le b hb.size,c,d1,hS.carry (Nat.le_refl _) hb.size (fun _ _ _ _ _ h=>h) fun _ _ hr=>hr.carry (Nat.le_refl _) hb.size (Same35.refl _ _ _) (fun _ _ _ _ _ h=>h)⟩
def numE:Option Er->Int
 | none=>0
 | some x=>x.1
theorem lx_on {w w':World} (h:Lx.Vars w) (hb:Below w.heap.size w w'):Lx.Vars w':=h.grown hb h.lt
theorem tv_on {w w':World} (h:TypeVar w) (hb:Below w.heap.size w w'):TypeVar w':=(hb.cell (p:=⟨0,0,none⟩) h.lt).trans h
theorem checks_ok (s:ByteArray) (l:List UInt8) (hs:bys s=l) (p:Prg) (hp:Hid (parseP l=.ok p)) (hsm:Small p) (w:World) (hV:Lx.Vars w) (hTV:TypeVar w):
    Calls Tryz.prog 27 #[.string s] w fun e w'=>e=.returned (.int .i64 (numE (checkP bigM 41 p)))/\Below w.heap.size w w':=by
 subst hs
 have hsz:s.size<=maxLen:=by have:=len_of_ok hp.out;rw [bys_length] at this;unfold maxLen;omega
 obtain ⟨hk,hn⟩:=hsm
 have P1:=Pr.program_ok s p w hsz hV hp
 have PC:=fun (dv tv:Value) (w1:World) (D:Dcls 0 w1.heap.size w1 dv p.decls) (T:Thrs 0 w1.heap.size bigM 41 w1 tv p.threads)=>check_any D T hk hn
 have HTV:=Lib.hid hTV
 obtain ⟨R,hR⟩:∃ R,checkP bigM 41 p=R:=⟨_,rfl⟩
 rw [hR] at PC ⊢
 clear hV hTV hk hn hR hsz
 cases R with
 | none=>
   go_enter Tryz.func27,Tryz.ntmps27
   go_wp2_with (first
    | (go_at_call 23;refine (number_nil _).mono ?_;rintro e w3 ⟨rfl,hb3⟩)
    | (go_at_call 16;refine (PC _ _ _ D2 T2).mono ?_;rintro e w2 ⟨hb2,rfl⟩)
    | (go_at_call 12;refine P1.mono ?_;rintro e w1 ⟨dv,tv,rfl,D1,T1,hb1⟩;have hbA:Below w1.heap.size w1 (w1.alloc (.cells #[dv,tv] 26)):=(Below.refl _ _).alloc (Nat.le_refl _) _;have D2:=dcls_later (dcls_zero D1) hbA;have T2:=thrs_later (thrs_zero T1) hbA;obtain ⟨dao,dcap,rfl⟩:=Pr.dcls_slice D1;obtain ⟨tao,tcap,rfl⟩:=Pr.thrs_slice T1;have h0A:=hb1.trans (hbA.mono hb1.size);clear D1 T1 hbA))
   go_ret
   have h02:=h0A.trans (hb2.mono h0A.size)
   exact ⟨rfl,h02.trans (hb3.mono h02.size)⟩
 | some x=>
   go_enter Tryz.func27,Tryz.ntmps27
   go_wp2_with (first
    | (go_at_call 23;refine (number_any fb x.2 x.1 w2 (tv_on HTV.out h02) hft).mono ?_;rintro e w3 ⟨rfl,hb3⟩)
    | (go_at_call 16;refine (PC _ _ _ D2 T2).mono ?_;rintro e w2 ⟨hb2,fb,rfl,hft,hfz⟩;have h02:=h0A.trans (hb2.mono h0A.size))
    | (go_at_call 12;refine P1.mono ?_;rintro e w1 ⟨dv,tv,rfl,D1,T1,hb1⟩;have hbA:Below w1.heap.size w1 (w1.alloc (.cells #[dv,tv] 26)):=(Below.refl _ _).alloc (Nat.le_refl _) _;have D2:=dcls_later (dcls_zero D1) hbA;have T2:=thrs_later (thrs_zero T1) hbA;obtain ⟨dao,dcap,rfl⟩:=Pr.dcls_slice D1;obtain ⟨tao,tcap,rfl⟩:=Pr.thrs_slice T1;have h0A:=hb1.trans (hbA.mono hb1.size);clear D1 T1 hbA))
   go_ret
   exact ⟨rfl,h02.trans (hb3.mono h02.size)⟩
theorem num_of {o:Option Er} {r:Option Int} (h:o.map (·.1)=r):numE o=r.getD 0:=by
 subst h
 cases o <;> rfl
theorem awake_any (w:World) (hV:Lx.Vars w) (hTV:TypeVar w):Calls Tryz.prog 11 #[] w fun e w'=>e=.returned (.bool true)/\Below w.heap.size w w':=by
 obtain ⟨p0,hp0,ht0,_⟩:=aw0
 obtain ⟨p1,hp1,_,hc1⟩:=aw1
 obtain ⟨p2,hp2,_,hc2⟩:=aw2
 obtain ⟨p3,hp3,_,hc3⟩:=aw3
 have P0:=fun (s:ByteArray) (hs:bys s=awT0)=>Pr.program_ok s p0 w (by have:=len_of_ok hp0;rw [<- hs,bys_length] at this;unfold maxLen;omega) hV (Lib.hid (hs ▸ hp0))
 have C1:=fun (s:ByteArray) (hs:bys s=awT1) (w1:World) (hb:Below w.heap.size w w1)=>checks_ok s awT1 hs p1 (Lib.hid hp1) (small_is hp1 (by kernel_rfl)) w1 (lx_on hV hb) (tv_on hTV hb)
 have C2:=fun (s:ByteArray) (hs:bys s=awT2) (w1:World) (hb:Below w.heap.size w w1)=>checks_ok s awT2 hs p2 (Lib.hid hp2) (small_is hp2 (by kernel_rfl)) w1 (lx_on hV hb) (tv_on hTV hb)
 have C3:=fun (s:ByteArray) (hs:bys s=awT3) (w1:World) (hb:Below w.heap.size w w1)=>checks_ok s awT3 hs p3 (Lib.hid hp3) (small_is hp3 (by kernel_rfl)) w1 (lx_on hV hb) (tv_on hTV hb)
 rw [num_of hc1] at C1
 rw [num_of hc2] at C2
 rw [num_of hc3] at C3
 have HT0:=Lib.hid ht0
 clear hp0 hp1 hp2 hp3 hc1 hc2 hc3 hV hTV ht0
 go_enter Tryz.func11,Tryz.ntmps11
 go_wp2_with (first
    | (go_at_call 27;refine (C3 _ (by rfl) _ h03).mono ?_;rintro e w4 ⟨rfl,hb4⟩)
    | (go_at_call 27;refine (C2 _ (by rfl) _ h02).mono ?_;rintro e w3 ⟨rfl,hb3⟩;have h03:=h02.trans (hb3.mono h02.size))
    | (go_at_call 27;refine (C1 _ (by rfl) _ h0A).mono ?_;rintro e w2 ⟨rfl,hb2⟩;have h02:=h0A.trans (hb2.mono h0A.size))
    | (go_at_call 12;refine (P0 _ (by rfl)).mono ?_;rintro e w1 ⟨dv,tv,rfl,D1,T1,hb1⟩;obtain ⟨dao,dcap,rfl⟩:=Pr.dcls_slice D1;obtain ⟨tao,tcap,rfl⟩:=Pr.thrs_slice T1;rw [HT0.out];have h0A:=hb1.trans ((show Below w1.heap.size w1 (w1.alloc (.cells #[.slice dao p0.decls.length dcap,.slice tao 1 tcap] 26)) from (Below.refl _ _).alloc (Nat.le_refl _) _).mono hb1.size);clear D1 T1))
 go_ret
 exact ⟨rfl,h03.trans (hb4.mono h03.size)⟩
end Go.Proofs.YtlepckjmdjjolaaGreatDoor.Fl
