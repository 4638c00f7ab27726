/- The walk of FlowPlaces: on every size, place and count it returns true. Conditions: lex's variables, and that of errors, are as they are laid. -/
import Derived.Test.YtlepckjmdjjolaaGreatDoorHFlPlP
import Derived.Test.YtlepckjmdjjolaaGreatDoorHFlSmall
set_option maxHeartbeats 4000000
set_option maxRecDepth 100000
namespace Go.Proofs.YtlepckjmdjjolaaGreatDoor.Fl
open Go.ChangeShapes Go.WideShapes Go.ChangeAt Go.RowKit
open Pr
open Go.Lib (decDigits)
set_option linter.unusedVariables false
set_option linter.unusedSimpArgs false
theorem enc_dig:∀ m:Fin 10,Utf8.encode (48+(m.val:Int))=⟨#[UInt8.ofNat (48+m.val)]⟩:=by decide
theorem enc_fl (n:Nat) (h:n<10):Utf8.encode (48+(n:Int))=bstr (decDigits n):=by
 rw [Go.Lib.decDigits_one h];exact enc_dig ⟨n,h⟩
theorem cat_fl (n:Nat) (h:¬ n<10):bstr (decDigits (n / 10))++bstr (decDigits (n % 10))=bstr (decDigits n):=by
 rw [bstr_cat]
 have e:decDigits n=decDigits (n / 10)++[UInt8.ofNat (48+n % 10)]:=by rw [decDigits,dif_neg h]
 rw [e,Go.Lib.decDigits_one (show n % 10<10 by omega)]
theorem div_fl (n:Nat):((n / 10:Nat):Int)=(n:Int) / 10:=by omega
theorem mod_fl (n:Nat):((n % 10:Nat):Int)=(n:Int) % 10:=by omega
theorem numF_1 (n:Nat) (h:n<10) (w:World):Calls Tryz.prog 25 #[.int .i64 (n:Int)] w fun e w'=>e=.returned (.string (bstr (decDigits n)))/\w'=w:=by
 have hl:(n:Int)<10:=by omega
 go_enter Tryz.func25,Tryz.ntmps25
 go_wp2
 go_ret
 exact ⟨by rw [enc_fl n h];rfl,rfl⟩
theorem numF_2 (n:Nat) (h:n<100) (w:World):Calls Tryz.prog 25 #[.int .i64 (n:Int)] w fun e w'=>e=.returned (.string (bstr (decDigits n)))/\w'=w:=by
 by_cases h1:n<10
 · exact numF_1 n h1 w
 have hl:¬ (n:Int)<10:=by omega
 have C1:=numF_1 (n / 10) (by omega) w
 have C2:=numF_1 (n % 10) (by omega) w
 have s1:(bstr (decDigits (n / 10))).size<=3:=by rw [bstr_size];exact dig_few _ (by omega)
 have s2:(bstr (decDigits (n % 10))).size<=3:=by rw [bstr_size];exact dig_few _ (by omega)
 rw [div_fl] at C1
 rw [mod_fl] at C2
 go_enter Tryz.func25,Tryz.ntmps25
 go_wp2_with fail
 go_at_call 25
 refine C1.mono ?_
 rintro e w' ⟨rfl,rfl⟩
 go_wp2_with fail
 go_at_call 25
 refine C2.mono ?_
 rintro e w' ⟨rfl,rfl⟩
 go_wp2
 go_ret
 exact ⟨by rw [cat_fl n h1];rfl,rfl⟩
theorem numF_any (n:Nat) (h:n<1000) (w:World):Calls Tryz.prog 25 #[.int .i64 (n:Int)] w fun e w'=>e=.returned (.string (bstr (decDigits n)))/\w'=w:=by
 by_cases h1:n<10
 · exact numF_1 n h1 w
 have hl:¬ (n:Int)<10:=by omega
 have C1:=numF_2 (n / 10) (by omega) w
 have C2:=numF_1 (n % 10) (by omega) w
 have s1:(bstr (decDigits (n / 10))).size<=3:=by rw [bstr_size];exact dig_few _ (by omega)
 have s2:(bstr (decDigits (n % 10))).size<=3:=by rw [bstr_size];exact dig_few _ (by omega)
 rw [div_fl] at C1
 rw [mod_fl] at C2
 go_enter Tryz.func25,Tryz.ntmps25
 go_wp2_with fail
 go_at_call 25
 refine C1.mono ?_
 rintro e w' ⟨rfl,rfl⟩
 go_wp2_with fail
 go_at_call 25
 refine C2.mono ?_
 rintro e w' ⟨rfl,rfl⟩
 go_wp2
 go_ret
 exact ⟨by rw [cat_fl n h1];rfl,rfl⟩
theorem wantF (b:Bool) (w:World):Calls Tryz.prog 26 #[.bool b] w fun e w'=>e=.returned (.int .i64 (if b then 0 else 3))/\w'=w:=by
 cases b
 all_goals
  go_enter Tryz.func26,Tryz.ntmps26
  go_wp2
  go_ret
  exact ⟨rfl,rfl⟩
@[reducible] def strA (n m:Nat):ByteArray:=⟨#[112,117,98,108,105,99,32,97,91]⟩++bstr (decDigits n)++⟨#[93,59,32,116,104,114,101,97,100,32,123,32,97,91]⟩++bstr (decDigits m)++⟨#[93,32,61,32,49,59,32,125]⟩
@[reducible] def strB (n c:Nat):ByteArray:=⟨#[112,117,98,108,105,99,32,97,91]⟩++bstr (decDigits n)++⟨#[93,59,32,116,104,114,101,97,100,32,123,32,108,111,111,112,32,105,32]⟩++bstr (decDigits c)++⟨#[32,123,32,97,91,105,93,32,61,32,49,59,32,125,32,125]⟩
theorem bys_app (a b:ByteArray):bys (a++b)=bys a++bys b:=by simp [bys,ByteArray.data_append]
theorem bys_A (n m:Nat):bys (strA n m)=flat (itA n m):=by
  unfold strA
  simp only [bys_app,bys_bstr]
  simp [itA,headI,storeI,flat,iS,iG,It.text,kw,wd,sn,dg,aS,bys,kPublic,kThread,Go.Lib.decDigits_one (show 1<10 by decide)]
theorem bys_B (n c:Nat):bys (strB n c)=flat (itB n c):=by
  unfold strB
  simp only [bys_app,bys_bstr]
  simp [itB,headI,storeI,flat,iS,iG,It.text,kw,wd,sn,dg,aS,jS,bys,kPublic,kThread,kLoop,Go.Lib.decDigits_one (show 1<10 by decide)]
theorem places_walk (a0 a1 a2:Int) (w:World) (b0:0<=a0/\a0<256) (b1:0<=a1/\a1<65536) (b2:0<=a2/\a2<256) (hV:Lx.Vars w) (hTV:TypeVar w):
 Calls Tryz.prog 10 #[.int .u8 a0,.int .u16 a1,.int .u8 a2] w fun e w'=>e=.returned (.bool true)/\Below w.heap.size w w':=by
  have HA:=awake_any w hV hTV
  obtain ⟨x,hx,hx0,hx1⟩:∃ x,Int.tmod a0 64=x/\0<=x/\x<64:=⟨_,rfl,by rw [Int.tmod_eq_emod_of_nonneg b0.1];omega,by rw [Int.tmod_eq_emod_of_nonneg b0.1];omega⟩
  obtain ⟨y,hy,hy0,hy1⟩:∃ y,Int.tmod a1 100=y/\0<=y/\y<100:=⟨_,rfl,by rw [Int.tmod_eq_emod_of_nonneg b1.1];omega,by rw [Int.tmod_eq_emod_of_nonneg b1.1];omega⟩
  obtain ⟨X1,hX1⟩:∃ X1,X1=1+x:=⟨_,rfl⟩
  obtain ⟨X3,hX3⟩:∃ X3,X3=1+a2:=⟨_,rfl⟩
  obtain ⟨n,hn⟩:∃ n:Nat,(n:Int)=X1:=⟨X1.toNat,by omega⟩
  obtain ⟨m,hm⟩:∃ m:Nat,(m:Int)=y:=⟨y.toNat,by omega⟩
  obtain ⟨c,hc⟩:∃ c:Nat,(c:Int)=X3:=⟨X3.toNat,by omega⟩
  have PN:=fun w=>numF_any n (by omega) w
  have PM:=fun w=>numF_any m (by omega) w
  have PK:=fun w=>numF_any c (by omega) w
  rw [hn] at PN
  rw [hm] at PM
  rw [hc] at PK
  have s1:(bstr (decDigits n)).size<=3:=by rw [bstr_size];exact dig_few _ (by omega)
  have s2:(bstr (decDigits m)).size<=3:=by rw [bstr_size];exact dig_few _ (by omega)
  have s3:(bstr (decDigits c)).size<=3:=by rw [bstr_size];exact dig_few _ (by omega)
  obtain ⟨q1,hq1,hr1⟩:=readA (n:=n) (m:=m) (by omega) (by omega) (by omega)
  obtain ⟨q2,hq2,hr2⟩:=readB (n:=n) (c:=c) (by omega) (by omega) (by omega) (by omega)
  have PC1:=fun w1 (hb:Below w.heap.size w w1)=>checks_ok (strA n m) _ (bys_A n m) q1 (Lib.hid hq1) (small_of_ok hq1) w1 (lx_on hV hb) (tv_on hTV hb)
  have PC2:=fun w1 (hb:Below w.heap.size w w1)=>checks_ok (strB n c) _ (bys_B n c) q2 (Lib.hid hq2) (small_of_ok hq2) w1 (lx_on hV hb) (tv_on hTV hb)
  obtain ⟨t1,ht1⟩:∃ t1,decide (y<X1)=t1:=⟨_,rfl⟩
  obtain ⟨t2,ht2⟩:∃ t2,decide (X3<=X1)=t2:=⟨_,rfl⟩
  have e1:(if m<n then (0:Int) else 3)=if t1 then 0 else 3:=by
   rw [<- ht1]
   by_cases h:m<n
   · rw [if_pos h,if_pos (by simp;omega)]
   · rw [if_neg h,if_neg (by simp;omega)]
  have e2:(if c<=n then (0:Int) else 3)=if t2 then 0 else 3:=by
   rw [<- ht2]
   by_cases h:c<=n
   · rw [if_pos h,if_pos (by simp;omega)]
   · rw [if_neg h,if_neg (by simp;omega)]
  have PW1:=fun w=>wantF t1 w
  have PW2:=fun w=>wantF t2 w
  rw [hr1,e1] at PC1
  rw [hr2,e2] at PC2
  generalize (if t1 then (0:Int) else 3)=v1 at PC1 PW1
  generalize (if t2 then (0:Int) else 3)=v2 at PC2 PW2
  have hw1:wrap64 (1+x)=X1:=by unfold wrap64;omega
  have hw2:wrap64 (1+a2)=X3:=by unfold wrap64;omega
  have hw3:wrap64 x=x:=by unfold wrap64;omega
  have hw4:wrap64 y=y:=by unfold wrap64;omega
  have hw5:wrap64 a2=a2:=by unfold wrap64;omega
  clear e1 e2 hq1 hr1 hq2 hr2 hn hm hc hV hTV hx0 hx1 hy0 hy1 b0 b1 b2 hX1 hX3
  go_enter Tryz.func10,Tryz.ntmps10
  go_wp2_with fail
  go_at_call 11
  refine HA.mono ?_
  rintro e w1 ⟨rfl,hb1⟩
  go_wp2_with fail
  go_at_call 25
  refine (PN _).mono ?_
  rintro e w' ⟨rfl,hw'⟩
  obtain rfl:=hw'.symm
  go_wp2_with fail
  go_at_call 25
  refine (PM _).mono ?_
  rintro e w' ⟨rfl,hw'⟩
  obtain rfl:=hw'.symm
  go_wp2_with fail
  go_at_call 25
  refine (PN _).mono ?_
  rintro e w' ⟨rfl,hw'⟩
  obtain rfl:=hw'.symm
  go_wp2_with fail
  go_at_call 25
  refine (PK _).mono ?_
  rintro e w' ⟨rfl,hw'⟩
  obtain rfl:=hw'.symm
  go_wp2_with fail
  go_at_call 27
  refine (PC1 _ hb1).mono ?_
  rintro e w2 ⟨rfl,hb2⟩
  have h02:=hb1.trans (hb2.mono hb1.size)
  go_wp2_with fail
  go_at_call 26
  refine (PW1 _).mono ?_
  rintro e w' ⟨rfl,hw'⟩
  obtain rfl:=hw'.symm
  go_wp2_with fail
  go_at_call 27
  refine (PC2 _ h02).mono ?_
  rintro e w3 ⟨rfl,hb3⟩
  go_wp2_with fail
  go_at_call 26
  refine (PW2 _).mono ?_
  rintro e w' ⟨rfl,hw'⟩
  obtain rfl:=hw'.symm
  go_wp2
  go_ret
  exact ⟨by simp,h02.trans (hb3.mono h02.size)⟩
end Go.Proofs.YtlepckjmdjjolaaGreatDoor.Fl
