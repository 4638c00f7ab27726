/- Own texts laid together: LxLeaf, LxStr, LxNum, LxNum2, LxOnce, LxKind, LxAsk. Conditions: as each theorem says. -/
import Derived.Test.YtlepckjmdjjolaaGreatDoorRows
import Derived.Test.YtlepckjmdjjolaaGreatDoorLxPlain
import Derived.WalkKit
import Derived.ProofKit
import Derived.OpenShut
import Derived.Lib.Strings
import Derived.Lib.Bytealg
import Derived.Lib.BufferWrite
import Derived.Lib.UnsafeStr
import Derived.Laws.MakeOwn
import Derived.Lib.ConvBytes
import Derived.Lib.IfaceEq
import Derived.Laws.Strings3
import Derived.BigCall
import Derived.BigGuard
import Derived.Deep.RegionWith
import Derived.Defers
import Derived.Laws.Pointers
import Derived.Laws.LoneSync
import Derived.RegionTactic
import Derived.RegionCalls
import Derived.ChangeAlike
import Derived.Maps.Own
import Derived.Maps.OwnOps
import Derived.Maps.OwnSet
import Derived.Maps.Range
import Derived.Maps.AppendAt
set_option maxHeartbeats 32000000
set_option maxRecDepth 100000
set_option linter.unusedVariables false
set_option linter.unusedSimpArgs false
namespace Go.Proofs.YtlepckjmdjjolaaGreatDoor.Lx
open Go.ChangeShapes Go.WideShapes Go.ChangeAt Go.RowKit
theorem ret_int {k:IntKind} {a b:Int} (h:a=b):Ending.returned (.int k a)=.returned (.int k b):=by rw [h]
theorem ret_bool {a b:Bool} (h:a=b):Ending.returned (.bool a)=.returned (.bool b):=by rw [h]
theorem lexBlank (c:Int) (w:World):Calls Tryz.prog 78 #[.int .u8 c] w fun e w'=>e=.returned (.bool (blankB c))/\w'=w:=by
 go_enter Tryz.func78,Tryz.ntmps78
 go_wp2
 all_goals go_ret
 all_goals refine ⟨ret_bool ?_,rfl⟩
 all_goals (unfold blankB;rw [Bool.eq_iff_iff];simp;try omega)
theorem lexLetter (c:Int) (w:World):Calls Tryz.prog 79 #[.int .u8 c] w fun e w'=>e=.returned (.bool (letterB c))/\w'=w:=by
 go_enter Tryz.func79,Tryz.ntmps79
 go_wp2
 all_goals go_ret
 all_goals refine ⟨ret_bool ?_,rfl⟩
 all_goals (unfold letterB;rw [Bool.eq_iff_iff];simp;try omega)
theorem lexDigit (c:Int) (w:World):Calls Tryz.prog 83 #[.int .u8 c] w fun e w'=>e=.returned (.bool (digitB c))/\w'=w:=by
 go_enter Tryz.func83,Tryz.ntmps83
 go_wp2
 all_goals go_ret
 all_goals refine ⟨ret_bool ?_,rfl⟩
 all_goals (unfold digitB;rw [Bool.eq_iff_iff];simp;try omega)
theorem lexWord (c:Int) (w:World):Calls Tryz.prog 81 #[.int .u8 c] w fun e w'=>e=.returned (.bool (wordB c))/\w'=w:=by
 cases hl:letterB c
 all_goals
  go_enter Tryz.func81,Tryz.ntmps81
  go_wp2_with (first | (go_at_call 79;refine (lexLetter _ _).mono ?_;rintro e w' ⟨rfl,rfl⟩) | (go_at_call 83;refine (lexDigit _ _).mono ?_;rintro e w' ⟨rfl,rfl⟩))
  go_ret
  exact ⟨ret_bool (by simp [wordB,hl]),rfl⟩
theorem runWord (s:ByteArray) (k0:Nat) (w:World) (hs:s.size<=65536) (h0:k0<=s.size):
 Calls Tryz.prog 80 #[.string s,.int .i64 k0,.func (.func 81) #[] #[]] w fun e w'=>e=.returned (.int .i64 ((k0+lead wordB ((bys s).drop k0):Nat):Int))/\w'=w:=by
 go_enter Tryz.func80,Tryz.ntmps80
 go_wp2
 go_loop [1] (fun i=>∃ k:Nat,k<=s.size/\i=.int .i64 k/\Hid (k+lead wordB ((bys s).drop k)=k0+lead wordB ((bys s).drop k0))) (fun i=>s.size-(intOf i).toNat)
 case atStart=>exact ⟨k0,h0,rfl,rfl⟩
 case round=>
  obtain ⟨k,hk,rfl,hh⟩:=hrel
  by_cases hlt:k<s.size
  · have hd:=drop_cons s k hlt
    cases hc:wordB (num s[k])
    · have H:Hid (k=k0+lead wordB ((bys s).drop k0)):=by rw [<- hh.out,hd,lead_no hc];rfl
      clear hd hh
      unfold num at hc
      go_wp2_with (go_at_call 81;refine (lexWord _ _).mono ?_;rintro e w' ⟨rfl,rfl⟩)
      go_ret
      exact ⟨ret_int (by have:=H.out;omega),rfl⟩
    · have H:Hid (k+1+lead wordB ((bys s).drop (k+1))=k0+lead wordB ((bys s).drop k0)):=by rw [<- hh.out,hd,lead_yes hc];show _=_;omega
      clear hd hh
      unfold num at hc
      go_wp2_with (go_at_call 81;refine (lexWord _ _).mono ?_;rintro e w' ⟨rfl,rfl⟩)
      go_round
      case rel=>exact ⟨k+1,by omega,by go_num,H⟩
      case measure=>simp [intOf];omega
  · have H:Hid (k=k0+lead wordB ((bys s).drop k0)):=by rw [<- hh.out,drop_all s k hlt];rfl
    clear hh
    go_wp2
    go_ret
    exact ⟨ret_int (by have:=H.out;omega),rfl⟩
theorem runDigit (s:ByteArray) (k0:Nat) (w:World) (hs:s.size<=65536) (h0:k0<=s.size):
 Calls Tryz.prog 80 #[.string s,.int .i64 k0,.func (.func 83) #[] #[]] w fun e w'=>e=.returned (.int .i64 ((k0+lead digitB ((bys s).drop k0):Nat):Int))/\w'=w:=by
 go_enter Tryz.func80,Tryz.ntmps80
 go_wp2
 go_loop [1] (fun i=>∃ k:Nat,k<=s.size/\i=.int .i64 k/\Hid (k+lead digitB ((bys s).drop k)=k0+lead digitB ((bys s).drop k0))) (fun i=>s.size-(intOf i).toNat)
 case atStart=>exact ⟨k0,h0,rfl,rfl⟩
 case round=>
  obtain ⟨k,hk,rfl,hh⟩:=hrel
  by_cases hlt:k<s.size
  · have hd:=drop_cons s k hlt
    cases hc:digitB (num s[k])
    · have H:Hid (k=k0+lead digitB ((bys s).drop k0)):=by rw [<- hh.out,hd,lead_no hc];rfl
      clear hd hh
      unfold num at hc
      go_wp2_with (go_at_call 83;refine (lexDigit _ _).mono ?_;rintro e w' ⟨rfl,rfl⟩)
      go_ret
      exact ⟨ret_int (by have:=H.out;omega),rfl⟩
    · have H:Hid (k+1+lead digitB ((bys s).drop (k+1))=k0+lead digitB ((bys s).drop k0)):=by rw [<- hh.out,hd,lead_yes hc];show _=_;omega
      clear hd hh
      unfold num at hc
      go_wp2_with (go_at_call 83;refine (lexDigit _ _).mono ?_;rintro e w' ⟨rfl,rfl⟩)
      go_round
      case rel=>exact ⟨k+1,by omega,by go_num,H⟩
      case measure=>simp [intOf];omega
  · have H:Hid (k=k0+lead digitB ((bys s).drop k0)):=by rw [<- hh.out,drop_all s k hlt];rfl
    clear hh
    go_wp2
    go_ret
    exact ⟨ret_int (by have:=H.out;omega),rfl⟩
theorem blanks_hash {r:Bool} {c:UInt8} {l:List UInt8} (h:num c=35):blanks r (c :: l)=blanks true l+1:=by simp [blanks,h]
theorem blanks_line {r:Bool} {c:UInt8} {l:List UInt8} (h2:num c=10):blanks r (c :: l)=blanks false l+1:=by simp [blanks,h2]
theorem blanks_more {r:Bool} {c:UInt8} {l:List UInt8} (h:¬ num c=35) (h2:¬ num c=10) (h3:(r || blankB (num c))=true):blanks r (c :: l)=blanks r l+1:=by simp only [blanks,if_neg h,if_neg h2,h3,if_true]
theorem blanks_stop {r:Bool} {c:UInt8} {l:List UInt8} (h:¬ num c=35) (h2:¬ num c=10) (h3:(r || blankB (num c))=false):blanks r (c :: l)=0:=by simp [blanks,h,h2,h3]
theorem lexSkip (s:ByteArray) (k0:Nat) (w:World) (hs:s.size<=65536) (h0:k0<=s.size):
 Calls Tryz.prog 53 #[.string s,.int .i64 k0] w fun e w'=>e=.returned (.int .i64 ((k0+blanks false ((bys s).drop k0):Nat):Int))/\w'=w:=by
 go_enter Tryz.func53,Tryz.ntmps53
 go_wp2
 go_loop [1,5] (fun i v=>∃ (k:Nat) (r:Bool),k<=s.size/\i=.int .i64 k/\v=.bool r/\Hid (k+blanks r ((bys s).drop k)=k0+blanks false ((bys s).drop k0))) (fun i _=>s.size-(intOf i).toNat)
 case atStart=>exact ⟨k0,false,h0,rfl,rfl,rfl⟩
 case round=>
  obtain ⟨k,r,hk,rfl,rfl,hh⟩:=hrel
  by_cases hlt:k<s.size
  · have hd:=drop_cons s k hlt
    by_cases h35:num s[k]=35
    · have H:Hid (k+1+blanks true ((bys s).drop (k+1))=k0+blanks false ((bys s).drop k0)):=by rw [<- hh.out,hd,blanks_hash h35];show _=_;omega
      clear hd hh
      unfold num at h35
      go_wp2
      go_round
      case rel=>exact ⟨k+1,true,by omega,by go_num,rfl,H⟩
      case measure=>simp [intOf];omega
    · by_cases h10:num s[k]=10
      · have H:Hid (k+1+blanks false ((bys s).drop (k+1))=k0+blanks false ((bys s).drop k0)):=by rw [<- hh.out,hd,blanks_line h10];show _=_;omega
        clear hd hh
        unfold num at h35 h10
        go_wp2
        go_round
        case rel=>exact ⟨k+1,false,by omega,by go_num,rfl,H⟩
        case measure=>simp [intOf];omega
      · cases hb:blankB (num s[k])
        · cases r
          · have H:Hid (k=k0+blanks false ((bys s).drop k0)):=by rw [<- hh.out,hd,blanks_stop h35 h10 (by simp [hb])];rfl
            clear hd hh
            unfold num at h35 h10 hb
            go_wp2_with (go_at_call 78;refine (lexBlank _ _).mono ?_;rintro e w' ⟨rfl,rfl⟩)
            go_ret
            exact ⟨ret_int (by have:=H.out;omega),rfl⟩
          · have H:Hid (k+1+blanks true ((bys s).drop (k+1))=k0+blanks false ((bys s).drop k0)):=by rw [<- hh.out,hd,blanks_more h35 h10 (by simp)];show _=_;omega
            clear hd hh
            unfold num at h35 h10 hb
            go_wp2_with (go_at_call 78;refine (lexBlank _ _).mono ?_;rintro e w' ⟨rfl,rfl⟩)
            go_round
            case rel=>exact ⟨k+1,true,by omega,by go_num,rfl,H⟩
            case measure=>simp [intOf];omega
        · have H:Hid (k+1+blanks r ((bys s).drop (k+1))=k0+blanks false ((bys s).drop k0)):=by rw [<- hh.out,hd,blanks_more h35 h10 (by simp [hb])];show _=_;omega
          clear hd hh
          unfold num at h35 h10 hb
          cases r
          all_goals
           go_wp2_with (go_at_call 78;refine (lexBlank _ _).mono ?_;rintro e w' ⟨rfl,rfl⟩)
           go_round
           case rel=>exact ⟨k+1,_,by omega,by go_num,rfl,H⟩
           case measure=>simp [intOf];omega
  · have H:Hid (k=k0+blanks false ((bys s).drop k0)):=by rw [<- hh.out,drop_all s k hlt];rfl
    clear hh
    go_wp2
    go_ret
    exact ⟨ret_int (by have:=H.out;omega),rfl⟩
theorem wrap_any (ev:Value) (k:Int) (w:World):
 Calls Tryz.prog 42 #[.iface 65 ev,.int .i64 k] w fun e w'=>e=.returned (.iface 124 (.pointer (some ⟨w.heap.size,0,none⟩)))/\w'=w.alloc (.cells #[.int .i64 k,.iface 65 ev] 127):=by
 go_enter Tryz.func42,Tryz.ntmps42
 go_wp2
 go_ret
 exact ⟨rfl,rfl⟩
def preB (s p:ByteArray):Bool:=(bys p).isPrefixOf (bys s)
theorem Tryz.info5:(Tryz.prog.info? 5).map (fun i=>(i.zero,i.size,i.bytes))=some (some (.int .u8 0),1,1):=by kernel_rfl
theorem hasPrefixIn (s p:ByteArray) (w:World):
    Calls Tryz.prog 141 #[.string s,.string p] w fun e w'=>e=.returned (.bool (preB s p))/\w'=w:=by
 have hp:Lib.hasPrefix (bys s) (bys p)=preB s p:=rfl
 rw [<- hp,<- Lib.hasPrefix_of_take,<- Lib.size_eq,<- Lib.size_eq]
 go_enter Tryz.func141,Tryz.ntmps141
 go_wp2
 · rename_i h
   go_ret
   refine ⟨?_,rfl⟩
   show Ending.returned (Value.bool ((s.extract 0 p.size).toList == p.toList))=_
   rw [Lib.extract_toList,Lib.toList_data]
   simp [h]
 · rename_i h
   go_ret
   refine ⟨?_,rfl⟩
   show Ending.returned (Value.bool false)=_
   simp [h]
theorem hasPrefix_any (s p:ByteArray) (w:World):
    Calls Tryz.prog 117 #[.string s,.string p] w fun e w'=>e=.returned (.bool (preB s p))/\w'=w:=by
 go_enter Tryz.func117,Tryz.ntmps117
 go_wp2_with (go_at_call 141;refine (hasPrefixIn _ _ _).mono ?_;rintro e w' ⟨rfl,rfl⟩)
 go_ret
 exact ⟨rfl,rfl⟩
def idx (s:ByteArray) (c:Int):Int:=Lib.indexByte (bys s) c.toNat.toUInt8
theorem indexByteIn (s:ByteArray) (c:Int) (w:World):
    Calls Tryz.prog 142 #[.string s,.int .u8 c] w fun e w'=>e=.returned (.int .i64 (idx s c))/\w'=w:=by
 go_enter Tryz.func142,Tryz.ntmps142
 go_wp2
 rw [run_callFunc_extern Tryz.func161 (by kernel_rfl) (by kernel_rfl) (by kernel_rfl) (e:=Extern.BytealgIndexByte.indexByte) (by kernel_rfl),Lib.run_indexByteString]
 simp only [Result.andThen]
 rw [Oper.upon_value]
 go_wp2
 go_ret
 exact ⟨rfl,rfl⟩
theorem indexByte_any (s:ByteArray) (c:Int) (w:World):
    Calls Tryz.prog 118 #[.string s,.int .u8 c] w fun e w'=>e=.returned (.int .i64 (idx s c))/\w'=w:=by
 go_enter Tryz.func118,Tryz.ntmps118
 go_wp2_with (go_at_call 142;refine (indexByteIn _ _ _).mono ?_;rintro e w' ⟨rfl,rfl⟩)
 go_ret
 exact ⟨rfl,rfl⟩
theorem cloneIn (s:ByteArray) (w:World) (hlim:s.size<=281474976710656):
    Calls Tryz.prog 77 #[.string s] w fun e w'=>e=.returned (.string s)/\Below w.heap.size w w':=by
 by_cases h0:s.size=0
 · have hs:s=⟨#[]⟩:=by
    apply ByteArray.ext
    exact Array.eq_empty_of_size_eq_zero h0
   subst hs
   go_enter Tryz.func77,Tryz.ntmps77
   go_wp2
   go_ret
   exact ⟨rfl,Below.refl _ _⟩
 · obtain ⟨i0,hi,hz0,hz1,hz2⟩:=info_parts Tryz.info5
   have hinfo:(Tryz.prog.info? 5).map (·.size)=some 1:=by rw [hi];simp [hz1]
   have hco:Tryz.prog.cellsOf 5=1:=by simp [Program.cellsOf,hi,hz1]
   obtain ⟨M,hM⟩:∃ M,M=madeCells (Value.int .u8 0).cells (((s.size:Nat):Int).toNat*i0.size):=⟨_,rfl⟩
   have hMs:M.size=s.size:=by rw [hM,size_madeCells,hz1];simp
   have hmk:∀ W:World,(Instr.makeSlice 33 (.int .i64 (s.size:Int)) (.int .i64 (s.size:Int))).run Tryz.prog W=.ok (.slice (some ⟨W.heap.size,0,none⟩) s.size s.size) (W.alloc (.cells M 5)):=fun W=>by
    have h:=run_make (P:=Tryz.prog) W 33 5 i0 (.int .u8 0) Tryz.underlying33 hi hz0 .i64 .i64 (s.size:Int) (s.size:Int) (by omega) (by omega) (by rw [hz2];omega) (by omega)
    rw [<- hM] at h
    simpa using h
   clear hM
   have hcp:=Lib.run_copy_row_string (P:=Tryz.prog) (w.alloc (.cells M 5)) 33 9 3 5 w.heap.size 0 s.size s.size s M 5 Tryz.underlying33 hinfo (heap_alloc_new w _) (Nat.le_refl _) (by omega)
   obtain ⟨Y,hY⟩:∃ Y,Y=(M.toList.take 0++Lib.byteCells s.data.toList++M.toList.drop (0+s.size)).toArray:=⟨_,rfl⟩
   rw [<- hY] at hcp
   have hYl:Y.toList=Lib.byteCells s.data.toList:=by
    rw [hY,List.toList_toArray,List.take_zero,List.nil_append,List.drop_of_length_le (by rw [Array.length_toList];omega),List.append_nil]
   have hYs:Y.size=s.size:=by rw [<- Array.length_toList,hYl,Lib.byteCells_length,<- Lib.size_eq]
   have hgY:((w.alloc (.cells M 5)).setRow w.heap.size Y).heap[w.heap.size]?=some (.cells Y 5 (0,0)):=setRow_heap _ _ M _ 5 (0,0) (heap_alloc_new w _)
   have hne:s.data.toList≠[]:=fun e=>h0 (by rw [Lib.size_eq,e];rfl)
   have hUS:=Lib.run_unsafeString_row (P:=Tryz.prog) ((w.alloc (.cells M 5)).setRow w.heap.size Y) 160 3 9 5 Tryz.underlying160 hco w.heap.size Y.size (by unfold World.shape?;rw [hgY]) s.data.toList hne (by rw [<- Lib.size_eq];omega) (by rw [<- Lib.size_eq];omega)
    (fun j x hx=>Lib.cells_of_row hgY Y.size j _ (by rw [List.take_of_length_le (by rw [Array.length_toList];exact Nat.le_refl _),hYl];simp [Lib.byteCells,hx]))
   rw [<- Lib.size_eq] at hUS
   clear hY
   go_enter Tryz.func77,Tryz.ntmps77
   go_wp2
   go_ret
   have hb1:Below w.heap.size w (w.alloc (.cells M 5)):=(Below.refl _ w).alloc (Nat.le_refl _) _
   have hb2:Below w.heap.size (w.alloc (.cells M 5)) ((w.alloc (.cells M 5)).setRow w.heap.size Y):=⟨rfl,rfl,rfl,by simp,fun k hk=>setRow_other _ _ _ _ (by omega)⟩
   exact ⟨rfl,Lib.below_freeze (hb1.trans hb2) (p:=⟨w.heap.size,0,none⟩) (Nat.le_refl _) _⟩
theorem clone_any (s:ByteArray) (w:World) (hlim:s.size<=281474976710656):
    Calls Tryz.prog 52 #[.string s] w fun e w'=>e=.returned (.string s)/\Below w.heap.size w w':=by
 go_enter Tryz.func52,Tryz.ntmps52
 go_wp2_with (go_at_call 77;refine (cloneIn _ _ hlim).mono ?_;rintro e w' ⟨rfl,hb⟩)
 go_ret
 exact ⟨rfl,hb⟩
theorem index_has (l:List UInt8) (c:UInt8):decide (0<=Lib.indexByte l c)=l.contains c:=by
 induction l with
 | nil=>rfl
 | cons b l ih=>
   have hg:=Lib.indexByte_ge l c
   unfold Lib.indexByte
   by_cases h:b=c
   · subst h;simp
   · have h':(c == b)=false:=by simpa using fun e=>h e.symm
     simp only [List.contains_cons,h',Bool.false_or,<- ih]
     rw [if_neg (by simpa using h)]
     by_cases h1:Lib.indexByte l c = -1
     · simp [h1]
     · rw [if_neg (by simpa using h1),Bool.eq_iff_iff];simp;omega
theorem idx_sign (c:UInt8):decide (0<=idx ⟨#[59,61,91,93,123,125,40,41,44,43,45,42,38,124,94,60,126]⟩ (c.toNat:Int))=signList.contains c:=by
 rw [<- index_has]
 have:((c.toNat:Int)).toNat.toUInt8=c:=by simp
 unfold idx
 rw [this];rfl
theorem sign_two1 {s:ByteArray} (h1:preB s ⟨#[60,60]⟩=true):signN (bys s)=2:=by
 have h:[60,60].isPrefixOf (bys s)=true:=h1
 simp [signN,h]
theorem sign_two2 {s:ByteArray} (h1:preB s ⟨#[60,60]⟩=false) (h2:preB s ⟨#[62,62]⟩=true):signN (bys s)=2:=by
 have h:[60,60].isPrefixOf (bys s)=false:=h1
 have h':[62,62].isPrefixOf (bys s)=true:=h2
 simp [signN,h,h']
theorem sign_two3 {s:ByteArray} (h1:preB s ⟨#[60,60]⟩=false) (h2:preB s ⟨#[62,62]⟩=false) (h3:preB s ⟨#[61,61]⟩=true):signN (bys s)=2:=by
 have h:[60,60].isPrefixOf (bys s)=false:=h1
 have h':[62,62].isPrefixOf (bys s)=false:=h2
 have h'':[61,61].isPrefixOf (bys s)=true:=h3
 simp [signN,h,h',h'']
theorem sign_one {s:ByteArray} (h0:0<s.size) (h1:preB s ⟨#[60,60]⟩=false) (h2:preB s ⟨#[62,62]⟩=false) (h3:preB s ⟨#[61,61]⟩=false):signN (bys s)=if (0:Int)<=idx ⟨#[59,61,91,93,123,125,40,41,44,43,45,42,38,124,94,60,126]⟩ (s[0].toNat:Int) then 1 else 0:=by
 have h:[60,60].isPrefixOf (bys s)=false:=h1
 have h':[62,62].isPrefixOf (bys s)=false:=h2
 have h'':[61,61].isPrefixOf (bys s)=false:=h3
 have hc:=idx_sign s[0]
 have hd:=drop_cons s 0 h0
 rw [List.drop_zero] at hd
 unfold signN
 rw [h,h',h'',hd]
 simp only [Bool.false_eq_true,if_false,<- hc,decide_eq_true_eq]
theorem signSize_any (s:ByteArray) (w:World) (h0:0<s.size):
    Calls Tryz.prog 85 #[.string s] w fun e w'=>e=.returned (.int .i64 ((signN (bys s):Nat):Int))/\Below w.heap.size w w':=by
 cases h1:preB s ⟨#[60,60]⟩
 · cases h2:preB s ⟨#[62,62]⟩
   · cases h3:preB s ⟨#[61,61]⟩
     · have hN:=sign_one h0 h1 h2 h3
       by_cases hi:(0:Int)<=idx ⟨#[59,61,91,93,123,125,40,41,44,43,45,42,38,124,94,60,126]⟩ (s[0].toNat:Int)
       · rw [if_pos hi] at hN
         rw [hN]
         clear hN
         go_enter Tryz.func85,Tryz.ntmps85
         go_wp2
         refine wp_loop_rounds 4 ?_
         rw [rounds_succ]
         go_wp2_with (go_at_call 117;refine (hasPrefix_any _ _ _).mono ?_;rintro e w' ⟨rfl,rfl⟩)
         rw [rounds_succ]
         go_wp2_with (go_at_call 117;refine (hasPrefix_any _ _ _).mono ?_;rintro e w' ⟨rfl,rfl⟩)
         rw [rounds_succ]
         go_wp2_with (go_at_call 117;refine (hasPrefix_any _ _ _).mono ?_;rintro e w' ⟨rfl,rfl⟩)
         rw [rounds_succ]
         go_wp2_with (go_at_call 118;refine (indexByte_any _ _ _).mono ?_;rintro e w' ⟨rfl,rfl⟩)
         go_ret
         exact ⟨rfl,(Below.refl _ _).alloc (Nat.le_refl _) _⟩
       · rw [if_neg hi] at hN
         rw [hN]
         clear hN
         go_enter Tryz.func85,Tryz.ntmps85
         go_wp2
         refine wp_loop_rounds 4 ?_
         rw [rounds_succ]
         go_wp2_with (go_at_call 117;refine (hasPrefix_any _ _ _).mono ?_;rintro e w' ⟨rfl,rfl⟩)
         rw [rounds_succ]
         go_wp2_with (go_at_call 117;refine (hasPrefix_any _ _ _).mono ?_;rintro e w' ⟨rfl,rfl⟩)
         rw [rounds_succ]
         go_wp2_with (go_at_call 117;refine (hasPrefix_any _ _ _).mono ?_;rintro e w' ⟨rfl,rfl⟩)
         rw [rounds_succ]
         go_wp2_with (go_at_call 118;refine (indexByte_any _ _ _).mono ?_;rintro e w' ⟨rfl,rfl⟩)
         go_ret
         exact ⟨rfl,(Below.refl _ _).alloc (Nat.le_refl _) _⟩
     · rw [sign_two3 h1 h2 h3]
       go_enter Tryz.func85,Tryz.ntmps85
       go_wp2
       refine wp_loop_rounds 4 ?_
       rw [rounds_succ]
       go_wp2_with (go_at_call 117;refine (hasPrefix_any _ _ _).mono ?_;rintro e w' ⟨rfl,rfl⟩)
       rw [rounds_succ]
       go_wp2_with (go_at_call 117;refine (hasPrefix_any _ _ _).mono ?_;rintro e w' ⟨rfl,rfl⟩)
       rw [rounds_succ]
       go_wp2_with (go_at_call 117;refine (hasPrefix_any _ _ _).mono ?_;rintro e w' ⟨rfl,rfl⟩)
       go_ret
       exact ⟨rfl,(Below.refl _ _).alloc (Nat.le_refl _) _⟩
   · rw [sign_two2 h1 h2]
     go_enter Tryz.func85,Tryz.ntmps85
     go_wp2
     refine wp_loop_rounds 4 ?_
     rw [rounds_succ]
     go_wp2_with (go_at_call 117;refine (hasPrefix_any _ _ _).mono ?_;rintro e w' ⟨rfl,rfl⟩)
     rw [rounds_succ]
     go_wp2_with (go_at_call 117;refine (hasPrefix_any _ _ _).mono ?_;rintro e w' ⟨rfl,rfl⟩)
     go_ret
     exact ⟨rfl,(Below.refl _ _).alloc (Nat.le_refl _) _⟩
 · rw [sign_two1 h1]
   go_enter Tryz.func85,Tryz.ntmps85
   go_wp2
   refine wp_loop_rounds 4 ?_
   rw [rounds_succ]
   go_wp2_with (go_at_call 117;refine (hasPrefix_any _ _ _).mono ?_;rintro e w' ⟨rfl,rfl⟩)
   go_ret
   exact ⟨rfl,(Below.refl _ _).alloc (Nat.le_refl _) _⟩
def uintTuple:Option Nat->Value
 | some n=>.tuple #[.int .u64 n,.nilIface]
 | none=>.tuple #[.int .u64 18446744073709551615,.iface 240 (.int .i64 1)]
theorem num_over {acc:Nat} {c:UInt8} {r:List UInt8} (h:¬ acc*10+(c.toNat-48)<18446744073709551616):numFrom acc (c :: r)=none:=by simp only [numFrom,if_neg h]
theorem num_step {acc:Nat} {c:UInt8} {r:List UInt8} (h:acc*10+(c.toNat-48)<18446744073709551616):numFrom acc (c :: r)=numFrom (acc*10+(c.toNat-48)) r:=by simp only [numFrom,if_pos h]
theorem parseIn (t:ByteArray) (hne:t.size≠0) (hmax:t.size<=65536) (hdig:∀ c ∈ bys t,digitB (num c)=true) (w:World):
    Calls Tryz.prog 139 #[.string t,.int .i64 10,.int .i64 64] w fun e w'=>e=.returned (uintTuple (numFrom 0 (bys t)))/\w'=Lib.bytesWorld w 5 t:=by
 have hemp:t.toList.isEmpty=false:=by
    rw [<- decide_eq_emptyBytes]
    exact decide_eq_false (fun h=>hne (by rw [h];rfl))
 have hcv:=Lib.run_convert_string_bytes (P:=Tryz.prog) w 9 33 5 t (u:=.string) Tryz.underlying9 Tryz.underlying33 Tryz.underlying5
 have hB:∀ j,j<t.size->(Lib.bytesWorld w 5 t).cell? ⟨w.heap.size,j,none⟩=some (.int .u8 (t.data.toList.getD j 0).toNat):=fun j hj=>Lib.bytesWorld_cell w 5 t j hj
 obtain ⟨W1,hW1⟩:∃ W1,W1=Lib.bytesWorld w 5 t:=⟨_,rfl⟩
 rw [<- hW1] at hcv hB ⊢
 clear hW1
 obtain ⟨bs,hL⟩:∃ bs,bs=bys t:=⟨_,rfl⟩
 have hLn:bs.length=t.size:=by rw [hL,bys_length]
 rw [<- hL] at hdig
 have hB':∀ j,j<t.size->W1.cell? ⟨w.heap.size,j,none⟩=some (.int .u8 (bs.getD j 0).toNat):=by rw [hL];exact hB
 rw [<- hL]
 clear hL hB
 have hmv:IntKind.u64.wrap (IntKind.u64.wrap 18446744073709551616-1)=18446744073709551615:=by
    rw [IntKind.wrap_u64,IntKind.wrap_u64]
    decide
 go_enter Tryz.func139,Tryz.ntmps139
 go_wp2
 go_loop [12,13,101] (fun vu vn vi=>∃ (k acc:Nat) (a:Int),vu=.bool false/\vn=.int .u64 a/\vi=.int .i64 k/\k<=t.size/\Hid (a=(acc:Int)/\acc<18446744073709551616/\numFrom 0 bs=numFrom acc (bs.drop k)))
    (fun _ _ vi=>t.size-(intOf vi).toNat)
 case atStart=>exact ⟨0,0,0,rfl,rfl,rfl,by omega,rfl,by omega,rfl⟩
 case round=>
    obtain ⟨k,acc,a,rfl,rfl,rfl,hk,hh⟩:=hrel
    obtain ⟨ha,hacc,hdec⟩:=hh.out
    clear hh
    have a0:0<=a:=by omega
    have a1:a<18446744073709551616:=by omega
    by_cases hkn:k<t.size
    · have hc:=hB' k hkn
      have hdrop:bs.drop k=bs[k]'(by omega) :: bs.drop (k+1):=List.drop_eq_getElem_cons (by omega)
      have hget:bs.getD k 0=bs[k]'(by omega):=by simp [List.getD,List.getElem?_eq_getElem (show k<bs.length by omega)]
      have hd:=digit_is (hdig (bs[k]'(by omega)) (List.getElem_mem _))
      rw [hdrop] at hdec
      rw [hget] at hc
      unfold num at hd
      generalize bs[k]'(by omega)=c at hc hdec hd
      have hc256:c.toNat<256:=c.toNat_lt
      clear hB' hdrop hget hdig
      obtain ⟨hd0',hd1'⟩:=hd
      have hd0:48<=c.toNat:=by omega
      have hd1:c.toNat<=57:=by omega
      clear hd0' hd1'
      by_cases hcut:1844674407370955162<=acc
      · have hF:numFrom acc (c :: bs.drop (k+1))=none:=num_over (by omega)
        rw [hF] at hdec
        have icut:1844674407370955162<=a:=by omega
        have HD:Hid (numFrom 0 bs=none):=hdec
        clear hcut hacc hF ha hdec
        go_wp2
        go_ret2
        exact ⟨by rw [HD.out];rfl,rfl⟩
      · by_cases hov:acc*10+(c.toNat-48)<18446744073709551616
        · have hF:=num_step (r:=bs.drop (k+1)) hov
          have HN:Hid (a*10+((c.toNat:Int)-48)=((acc*10+(c.toNat-48):Nat):Int)/\acc*10+(c.toNat-48)<18446744073709551616/\numFrom 0 bs=numFrom (acc*10+(c.toNat-48)) (bs.drop (k+1))):=show _ from ⟨by omega,by omega,hdec.trans hF⟩
          have icut:a<1844674407370955162:=by omega
          have iov:a*10+((c.toNat:Int)-48)<18446744073709551616:=by omega
          clear hcut hacc hF hov hdec ha
          go_wp2
          refine ⟨⟨k+1,acc*10+(c.toNat-48),a*10+((c.toNat:Int)-48),rfl,(by first | rfl | (congr 1;omega)),(by first | rfl | (congr 1;omega)),by omega,HN⟩,by simp [intOf];omega⟩
        · have hF:=num_over (r:=bs.drop (k+1)) hov
          rw [hF] at hdec
          have icut:a<1844674407370955162:=by omega
          have iov:18446744073709551616<=a*10+((c.toNat:Int)-48):=by omega
          have hwr:IntKind.u64.wrap (a*10+((c.toNat:Int)-48))=a*10+((c.toNat:Int)-48)-18446744073709551616:=by
            rw [IntKind.wrap_u64]
            omega
          have HD:Hid (numFrom 0 bs=none):=hdec
          clear hcut hacc hF hov ha hdec
          go_wp2
          go_ret2
          exact ⟨by rw [HD.out];rfl,rfl⟩
    · have hkk:k=t.size:=by omega
      subst hkk
      have hF:numFrom acc (bs.drop t.size)=some acc:=by rw [List.drop_eq_nil_of_le (by omega)];rfl
      rw [hF] at hdec
      have HD:Hid (numFrom 0 bs=some acc):=hdec
      subst ha
      clear hacc hF a0 a1 hdec hB' hdig
      go_wp2
      go_ret2
      exact ⟨by rw [HD.out];rfl,rfl⟩
theorem eql114 (a b:Int) (w:World):(binOp .eql 28 (.iface 240 (.int .i64 a)) (.iface 240 (.int .i64 b))).run Tryz.prog w=.ok (.bool (a == b)) w:=Lib.run_eql_iface_int w a b Tryz.underlying28 (by kernel_rfl) Tryz.underlying240
theorem rangeError_any (fn s:ByteArray) (ev:Value) (w:World) (hlim:s.size<=281474976710656) (hv:w.cell? ⟨3,0,none⟩=some ev) (hev:∃ te pe,ev=.iface te pe):
    Calls Tryz.prog 158 #[.string fn,.string s] w fun e w'=>∃ a,e=.returned (.pointer (some a))/\Below w.heap.size w w':=by
 obtain ⟨te,pe,rfl⟩:=hev
 have hG:3<w.heap.size:=by
    rcases Nat.lt_or_ge 3 w.heap.size with h' | h'
    · exact h'
    · simp [World.cell?,Array.getElem?_eq_none h'] at hv
 have hvd:w.drew.cell? ⟨3,0,none⟩=some _:=hv
 go_enter Tryz.func158,Tryz.ntmps158
 go_wp2
 go_region_with (
  go_at_call 77
  refine (cloneIn s _ hlim).mono ?_
  rintro e w2 ⟨rfl,hbel⟩
  have hv2:w2.cell? ⟨3,0,none⟩=some _:=(hbel.cell (show (⟨3,0,none⟩:Addr).block<w.drew.heap.size from hG)).trans hvd)
 all_goals (
    go_wp2
    go_ret
    have hs2:w.heap.size<=w2.heap.size:=hbel.size
    exact ⟨_,rfl,((Below.drew (Below.refl _ w)).trans hbel).alloc hs2 _⟩)
theorem toError_any (fn s:ByteArray) (base bits:Int) (ev:Value) (w:World) (hlim:s.size<=281474976710656) (hv:w.cell? ⟨3,0,none⟩=some ev) (hev:∃ te pe,ev=.iface te pe):
    Calls Tryz.prog 140 #[.string fn,.string s,.int .i64 base,.int .i64 bits,.iface 240 (.int .i64 1)] w fun e w'=>∃ a,e=.returned (.iface 242 (.pointer (some a)))/\Below w.heap.size w w':=by
 have hq12:∀ W,(binOp .eql 28 (.iface 240 (.int .i64 1)) (.iface 240 (.int .i64 2))).run Tryz.prog W=.ok (.bool false) W:=fun W=>eql114 1 2 W
 have hq11:∀ W,(binOp .eql 28 (.iface 240 (.int .i64 1)) (.iface 240 (.int .i64 1))).run Tryz.prog W=.ok (.bool true) W:=fun W=>eql114 1 1 W
 go_enter Tryz.func140,Tryz.ntmps140
 go_wp2_with (go_at_call 158;refine (rangeError_any fn s ev _ hlim hv hev).mono ?_;rintro e w2 ⟨a,rfl,h3⟩)
 go_ret
 exact ⟨a,rfl,h3⟩
theorem bytesWorld_below (w:World) (t:ByteArray):Below w.heap.size w (Lib.bytesWorld w 5 t):=
 ⟨rfl,rfl,rfl,by rw [Lib.bytesWorld_size];omega,fun k hk=>Lib.bytesWorld_at_old w 5 t k hk⟩
theorem parseIn_some (t:ByteArray) (n:Nat) (hne:t.size≠0) (hmax:t.size<=65536) (hdig:∀ c ∈ bys t,digitB (num c)=true) (hr:numFrom 0 (bys t)=some n) (w:World):
    Calls Tryz.prog 139 #[.string t,.int .i64 10,.int .i64 64] w fun e w'=>e=.returned (.tuple #[.int .u64 n,.nilIface])/\Below w.heap.size w w':=by
 refine (parseIn t hne hmax hdig w).mono ?_
 rintro e w' ⟨rfl,rfl⟩
 rw [hr]
 exact ⟨rfl,bytesWorld_below w t⟩
theorem parseIn_none (t:ByteArray) (hne:t.size≠0) (hmax:t.size<=65536) (hdig:∀ c ∈ bys t,digitB (num c)=true) (hr:numFrom 0 (bys t)=none) (w:World):
    Calls Tryz.prog 139 #[.string t,.int .i64 10,.int .i64 64] w fun e w'=>e=.returned (.tuple #[.int .u64 18446744073709551615,.iface 240 (.int .i64 1)])/\Below w.heap.size w w':=by
 refine (parseIn t hne hmax hdig w).mono ?_
 rintro e w' ⟨rfl,rfl⟩
 rw [hr]
 exact ⟨rfl,bytesWorld_below w t⟩
theorem parse_none (t:ByteArray) (te:TypeId) (pe:Value) (hne:t.size≠0) (hmax:t.size<=65536) (hdig:∀ c ∈ bys t,digitB (num c)=true) (HR:Hid (numFrom 0 (bys t)=none)) (w:World) (hv:w.cell? ⟨3,0,none⟩=some (.iface te pe)):
    Calls Tryz.prog 116 #[.string t,.int .i64 10,.int .i64 64] w fun e w'=>∃ (a:Addr) (m:Int),e=.returned (.tuple #[.int .u64 m,.iface 242 (.pointer (some a))])/\Below w.heap.size w w':=by
 have hG:3<w.heap.size:=by
    rcases Nat.lt_or_ge 3 w.heap.size with h' | h'
    · exact h'
    · simp [World.cell?,Array.getElem?_eq_none h'] at hv
 go_enter Tryz.func116,Tryz.ntmps116
 go_wp2_with (first | (go_at_call 139;refine (parseIn_none t hne hmax hdig HR.out _).mono ?_;rintro e w1 ⟨rfl,hb1⟩;have hv1:=(hb1.cell (p:=⟨3,0,none⟩) hG).trans hv) | (go_at_call 140;refine (toError_any _ t _ _ _ _ (by omega) hv1 ⟨te,pe,rfl⟩).mono ?_;rintro e w2 ⟨a,rfl,hb2⟩))
 go_ret2
 exact ⟨a,_,rfl,hb1.trans (hb2.mono hb1.size)⟩
theorem parse_some (t:ByteArray) (n:Nat) (hne:t.size≠0) (hmax:t.size<=65536) (hdig:∀ c ∈ bys t,digitB (num c)=true) (HR:Hid (numFrom 0 (bys t)=some n)) (w:World):
    Calls Tryz.prog 116 #[.string t,.int .i64 10,.int .i64 64] w fun e w'=>e=.returned (.tuple #[.int .u64 n,.nilIface])/\Below w.heap.size w w':=by
 go_enter Tryz.func116,Tryz.ntmps116
 go_wp2_with (go_at_call 139;refine (parseIn_some t n hne hmax hdig HR.out _).mono ?_;rintro e w1 ⟨rfl,hb1⟩)
 go_ret2
 exact ⟨rfl,hb1⟩
end Go.Proofs.YtlepckjmdjjolaaGreatDoor.Lx
namespace Go.Proofs.YtlepckjmdjjolaaGreatDoor.Lx
open Go.ChangeShapes Go.WideShapes Go.ChangeAt Go.RowKit Go.Maps
theorem raceDisable (w:World):(callFunc 179 #[]).run Tryz.prog w=.ok (.value (.tuple #[])) w:=run_call_mark0 Tryz.func179 (by kernel_rfl) (by kernel_rfl) (by kernel_rfl) .disable (by kernel_rfl) w
theorem raceEnable (w:World):(callFunc 181 #[]).run Tryz.prog w=.ok (.value (.tuple #[])) w:=run_call_mark0 Tryz.func181 (by kernel_rfl) (by kernel_rfl) (by kernel_rfl) .enable (by kernel_rfl) w
theorem raceAcquire (a:Addr) (w:World):(callFunc 182 #[.pointer (some a)]).run Tryz.prog w=.ok (.value (.tuple #[])) w:=run_call_marked Tryz.func182 (by kernel_rfl) (by kernel_rfl) (by kernel_rfl) .acquire (by kernel_rfl) a w
theorem raceRelease (a:Addr) (w:World):(callFunc 184 #[.pointer (some a)]).run Tryz.prog w=.ok (.value (.tuple #[])) w:=run_call_marked Tryz.func184 (by kernel_rfl) (by kernel_rfl) (by kernel_rfl) .releaseMerge (by kernel_rfl) a w
theorem store_deferred (a:Addr) (x:Value) (u:FrameMode) (w:World) (hc:w.cell? a=some x) (hz:w.frozen? a=false):
    CallsD Tryz.prog 154 #[.pointer (some a),.bool true] u w fun e u' w'=>u'=u/\(e=.returned (.tuple #[])/\w'=w.drew.setCell a (.int .u32 1)):=by
 have hc':w.drew.cell? a=some x:=by go_simp
 have hz':w.drew.frozen? a=false:=by go_simp
 have hst:=run_call_store (P:=Tryz.prog) Tryz.func172 (by kernel_rfl) (by kernel_rfl) (by kernel_rfl) (by kernel_rfl) (k:=.u32) (y:=1) hc' hz'
 go_enter_d Tryz.func154,Tryz.ntmps154
 go_wp2
 go_region_calls
 all_goals (go_end0;exact ⟨rfl,rfl⟩)
theorem unlock_deferred (a:Addr) (u:FrameMode) (w:World) (hc:w.cell? a=some (.int .i32 1)) (hz:w.frozen? a=false):
    CallsD Tryz.prog 153 #[.pointer (some a)] u w fun e u' w'=>u'=u/\(e=.returned (.tuple #[])/\w'=w.setCell a (.int .i32 0)):=by
 have hd:=raceDisable
 have he:=raceEnable
 have hr:=raceRelease
 have hadd:=run_call_add (P:=Tryz.prog) Tryz.func185 (by kernel_rfl) (by kernel_rfl) (by kernel_rfl) .i32 (by kernel_rfl) (y := -1) (s:=0) hc hz (by simp [go_sem];rfl)
 have hcv:=run_convert_to_unsafe (P:=Tryz.prog) (src:=260) (dst:=165) Tryz.underlying260 Tryz.underlying165 (by kernel_rfl) hc
 go_enter_d Tryz.func153,Tryz.ntmps153
 go_wp2
 go_end0
 go_wp2
 go_end0
 exact ⟨rfl,rfl⟩
theorem lock_free (a:Addr) (w:World) (hc:w.cell? a=some (.int .i32 0)) (hz:w.frozen? a=false):
    Calls Tryz.prog 152 #[.pointer (some a)] w fun e w'=>e=.returned (.tuple #[])/\w'=w.setCell a (.int .i32 1):=by
 have hd:=raceDisable
 have he:=raceEnable
 have ha:=raceAcquire
 have hcas:=run_call_cas_hit (P:=Tryz.prog) Tryz.func180 (by kernel_rfl) (by kernel_rfl) (by kernel_rfl) .i32 (by kernel_rfl) (y:=1) hc hz
 have hc':(w.setCell a (.int .i32 1)).cell? a=some (.int .i32 1):=World.cell?_setCell_same w a _ hc
 have hcv:=run_convert_to_unsafe (P:=Tryz.prog) (src:=260) (dst:=165) Tryz.underlying260 Tryz.underlying165 (by kernel_rfl) hc'
 go_enter Tryz.func152,Tryz.ntmps152
 go_wp2
 first | go_end0 | (simp only [Exit.inBlock,Exit.then];refine bodyPost_ret (results_none rfl _ _ _) rfl ?_) | refine bodyPost_ret (results_none rfl _ _ _) rfl ?_
 go_wp2
 go_end0
 exact ⟨rfl,rfl⟩
end Go.Proofs.YtlepckjmdjjolaaGreatDoor.Lx
namespace Go.Proofs.YtlepckjmdjjolaaGreatDoor.Lx
open Go.ChangeShapes Go.WideShapes Go.ChangeAt Go.RowKit Go.Maps Go.WideMaps
section
variable {w:World} {b:Nat} {x0 x1 x2 x3:Value} {t:TypeId}
theorem four_cell0 (h:w.heap[b]?=some (.cells #[x0,x1,x2,x3] t (0,0))):w.cell? ⟨b,0,none⟩=some x0:=by simp [World.cell?,h]
theorem four_cell1 (h:w.heap[b]?=some (.cells #[x0,x1,x2,x3] t (0,0))):w.cell? ⟨b,1,none⟩=some x1:=by simp [World.cell?,h]
theorem four_cell3 (h:w.heap[b]?=some (.cells #[x0,x1,x2,x3] t (0,0))):w.cell? ⟨b,3,none⟩=some x3:=by simp [World.cell?,h]
theorem four_free (h:w.heap[b]?=some (.cells #[x0,x1,x2,x3] t (0,0))) (j:Nat):w.frozen? ⟨b,j,none⟩=false:=by simp [World.frozen?,h]
theorem four_set0 (h:w.heap[b]?=some (.cells #[x0,x1,x2,x3] t (0,0))) (u:Value):(w.setCell ⟨b,0,none⟩ u).heap[b]?=some (.cells #[u,x1,x2,x3] t (0,0)):=by
 have hlt:=lt_of_block h
 have h':w.heap[b]=.cells #[x0,x1,x2,x3] t (0,0):=by simpa [Array.getElem?_eq_getElem hlt] using h
 show (w.heap.modify b _)[b]?=_
 rw [Array.getElem?_eq_getElem (by simpa using hlt),Array.getElem_modify_self,h']
 rfl
theorem four_set1 (h:w.heap[b]?=some (.cells #[x0,x1,x2,x3] t (0,0))) (u:Value):(w.setCell ⟨b,1,none⟩ u).heap[b]?=some (.cells #[x0,u,x2,x3] t (0,0)):=by
 have hlt:=lt_of_block h
 have h':w.heap[b]=.cells #[x0,x1,x2,x3] t (0,0):=by simpa [Array.getElem?_eq_getElem hlt] using h
 show (w.heap.modify b _)[b]?=_
 rw [Array.getElem?_eq_getElem (by simpa using hlt),Array.getElem_modify_self,h']
 rfl
theorem four_set3 (h:w.heap[b]?=some (.cells #[x0,x1,x2,x3] t (0,0))) (u:Value):(w.setCell ⟨b,3,none⟩ u).heap[b]?=some (.cells #[x0,x1,x2,u] t (0,0)):=by
 have hlt:=lt_of_block h
 have h':w.heap[b]=.cells #[x0,x1,x2,x3] t (0,0):=by simpa [Array.getElem?_eq_getElem hlt] using h
 show (w.heap.modify b _)[b]?=_
 rw [Array.getElem?_eq_getElem (by simpa using hlt),Array.getElem_modify_self,h']
 rfl
end
theorem grown_setCell (w:World) (b j:Nat) (u:Value):w.grownBy (w.setCell ⟨b,j,none⟩ u) (some b):=
 ⟨rfl,rfl,rfl,by simp [World.setCell],fun k _ hne=>Below.heap_setCell _ _ _ _ (fun e=>hne (by rw [e]))⟩
theorem grown_drew {a w:World} {row:Option Nat} (h:a.grownBy w row):a.grownBy w.drew row:=⟨h.os,h.tape,h.output,h.size,h.block⟩
def keyLits (n:Nat):List Lit:=(keyWords.take n).map Lit.string
def keyData (n:Nat):DataW Unit:=setOf (.lit (.int .i64 2)) (keyLits n)
theorem keyLits_key (n:Nat):∀ x ∈ keyLits n,WideAt.IsKeyLit x:=by
 intro x hx
 obtain ⟨l,_,rfl⟩:=List.mem_map.1 hx
 trivial
theorem atKey_fold (u z:DataW Unit) (k:Lit):∀ (acc:List Lit) (m:DataW Unit),IsMap m->(∀ x ∈ acc,WideAt.IsKeyLit x) ->
    (acc.foldl (fun m x=>m.put x u) m).atKey k z=if acc.any (fun x=>x.sameKey k) then u else m.atKey k z
 | [],m,_,_=>by simp
 | x :: r,m,hm,h=>by
   rw [List.foldl_cons,atKey_fold u z k r (m.put x u) (hm.put x u) (fun y hy=>h y (by simp [hy])),List.any_cons]
   by_cases e:k=x
   · subst e
     rw [atKey_put_same hm (h k (by simp)),WideAt.sameKey_self (h k (by simp))]
     simp
   · rw [atKey_put_other e,sameKey_ne (fun e'=>e e'.symm)]
     simp
theorem any_keys (t:List UInt8):∀ l:List (List UInt8),(l.map Lit.string).any (fun x=>x.sameKey (.string t))=l.contains t
 | []=>rfl
 | a :: l=>by
   rw [List.map_cons,List.any_cons,any_keys t l,List.contains_cons]
   congr 1
   by_cases e:a=t
   · subst e;rw [WideAt.sameKey_self (a:=.string a) trivial];simp
   · rw [sameKey_ne (by simpa using e)]
     exact (beq_eq_false_iff_ne.2 (fun h=>e h.symm)).symm
theorem keyData_has (t:List UInt8):Maps.has (keyData 15) (.string t)=keyB t:=by
 rw [keyData,has_setOf _ _ _ (keyLits_key 15)]
 exact any_keys t keyWords
theorem keyData_at (t:List UInt8) (h:keyB t=true) (z:DataW Unit):(keyData 15).atKey (.string t) z=.lit (.int .i64 2):=by
 rw [keyData,setOf,atKey_fold _ _ _ _ _ isMap_empty (keyLits_key 15)]
 rw [show (keyLits 15).any (fun x=>x.sameKey (.string t))=keyB t from any_keys t keyWords,h]
 rfl
theorem keyData_step (k:Nat) (h:k<15):keyData (k+1)=(keyData k).put (.string (keyWords.getD k [])) (.lit (.int .i64 2)):=by
 have h':k<keyWords.length:=h
 have e:keyLits (k+1)=keyLits k++[.string (keyWords.getD k [])]:=by
    unfold keyLits
    rw [List.take_succ_eq_append_getElem h',List.map_append]
    simp [List.getD,h']
 rw [keyData,e,setOf_snoc];rfl
def keyCells:Array Value:=(keyWords.map fun l=>Value.string (bstr l)).toArray
theorem keyCells_is:keyCells = #[.string ⟨#[112,117,98,108,105,99]⟩,.string ⟨#[115,101,99,114,101,116]⟩,.string ⟨#[108,111,99,107]⟩,.string ⟨#[98,121]⟩,.string ⟨#[116,104,114,101,97,100]⟩,.string ⟨#[105,102]⟩,.string ⟨#[101,108,115,101]⟩,.string ⟨#[108,111,111,112]⟩,.string ⟨#[116,97,107,101]⟩,.string ⟨#[103,105,118,101]⟩,.string ⟨#[97,100,100]⟩,.string ⟨#[102,101,110,99,101]⟩,.string ⟨#[111,117,116,112,117,116]⟩,.string ⟨#[108,111,99,97,108]⟩,.string ⟨#[112,105,99,107]⟩]:=rfl
theorem keyCells_at {w:World} {b:Nat} (h:w.heap[b]?=some (.cells keyCells 9 (0,0))) (k:Nat) (hk:k<15):w.cell? ⟨b,k,none⟩=some (.string (bstr (keyWords.getD k []))):=by
 have hs:k<keyCells.size:=hk
 have e:keyCells[k]?=some (.string (bstr (keyWords.getD k []))):=by
    have h':k<keyWords.length:=hk
    simp [keyCells,List.getD,h']
 simp [World.cell?,h,e]
theorem keys_any (w:World):Calls Tryz.prog 138 #[] w fun e w'=>e=.returned (.slice (some ⟨w.heap.size,0,none⟩) 15 15)/\w'=w.alloc (.cells keyCells 9):=by
 rw [keyCells_is]
 go_enter Tryz.func138,Tryz.ntmps138
 go_wp2
 go_ret
 exact ⟨rfl,rfl⟩
theorem keyLaw:Keyed Tryz.prog 9:=string_keyed Tryz.underlying9
theorem zero29 (w:World):(zeroValue 145).run Tryz.prog w=.ok (.int .i64 0) w:=by kernel_rfl
theorem keyWord_len (k:Nat) (hk:k<15):(bstr (keyWords.getD k [])).size<=maxLen:=by
 rw [bstr_size]
 have:∀ i:Fin 15,(keyWords.getD i.val []).length<=6:=by decide
 have:=this ⟨k,hk⟩
 unfold maxLen
 simp only at this
 omega
theorem fill_any (kb:Nat) (x0 x1 x2 x3:Value) (w:World) (hk:w.heap[kb]?=some (.cells #[x0,x1,x2,x3] 143 (0,0))):
    Calls Tryz.prog 115 #[.pointer (some ⟨kb,0,none⟩)] w fun e w'=>e=.returned (.tuple #[]) /\
     w'.heap[kb]?=some (.cells #[x0,x1,x2,.map (some w.heap.size)] 143 (0,0))/\w'.ownsMap (H:=Unit) Tryz.prog 9 (plainElem Tryz.prog 145) w.heap.size 15 (keyData 15)/\w.grownBy w' (some kb):=by
 have hlt:=lt_of_block hk
 have hc3:=four_cell3 hk
 have hf3:=four_free hk 3
 have hmm:=@run_makeMap Tryz.prog
 obtain ⟨W1,hW1⟩:∃ W1,W1=(((w.setCell ⟨kb,3,none⟩ (.map (some w.heap.size))).alloc (.map #[] 0)).alloc (.cells keyCells 9)):=⟨_,rfl⟩
 have s1:(w.setCell ⟨kb,3,none⟩ (.map (some w.heap.size))).heap.size=w.heap.size:=by simp [World.setCell]
 have r1:W1.heap[kb]?=some (.cells #[x0,x1,x2,.map (some w.heap.size)] 143 (0,0)):=by
    rw [hW1,Below.heap_alloc _ _ _ (by simp;omega),Below.heap_alloc _ _ _ (by rw [s1];exact hlt)]
    exact four_set3 hk _
 have r2:W1.heap[w.heap.size+1]?=some (.cells keyCells 9 (0,0)):=by
    rw [hW1]
    have:=heap_alloc_new ((w.setCell ⟨kb,3,none⟩ (.map (some w.heap.size))).alloc (.map #[] 0)) (.cells keyCells 9)
    simpa [s1] using this
 have r3:W1.ownsMap (H:=Unit) Tryz.prog 9 (plainElem Tryz.prog 145) w.heap.size 0 (keyData 0):=by
    rw [hW1]
    have:=World.ownsMap_made (H:=Unit) (w.setCell ⟨kb,3,none⟩ (.map (some w.heap.size))) Tryz.prog 9 (plainElem Tryz.prog 145)
    rw [s1] at this
    exact this.alloc _
 have r4:w.grownBy W1 (some kb):=by
    rw [hW1]
    exact ((grown_setCell w kb 3 _).trans (World.grownBy_alloc _ _ _)).trans (World.grownBy_alloc _ _ _)
 go_enter Tryz.func115,Tryz.ntmps115
 go_wp2_with (go_at_call 138;refine (keys_any _).mono ?_;rintro e w' ⟨rfl,rfl⟩)
 rw [<- hW1]
 clear hW1 s1
 go_loopw [10] (fun i wr=>∃ k:Nat,k<=15/\i=.int .i64 k/\wr.heap[kb]?=some (.cells #[x0,x1,x2,.map (some w.heap.size)] 143 (0,0))/\wr.heap[w.heap.size+1]?=some (.cells keyCells 9 (0,0))/\wr.ownsMap (H:=Unit) Tryz.prog 9 (plainElem Tryz.prog 145) w.heap.size k (keyData k)/\w.grownBy wr (some kb))
    (fun i _=>15-(intOf i).toNat)
 case atStart=>exact ⟨0,by omega,rfl,r1,r2,r3,r4⟩
 case round=>
    obtain ⟨k,hk15,rfl,q1,q2,q3,q4⟩:=hrel
    clear r1 r2 r3 r4 hc3 hf3
    by_cases hkl:k<15
    · have c1:=keyCells_at q2 k hkl
      have c2:=four_cell3 q1
      obtain ⟨s,hs⟩:∃ s,s=bstr (keyWords.getD k []):=⟨_,rfl⟩
      have hkey:keyOf Tryz.prog 9 (.string s)=some (.string (keyWords.getD k [])):=by
        rw [hs,keyOf_string_mk Tryz.underlying9 (keyWord_len k hkl)];exact congrArg _ (congrArg _ (bys_bstr _))
      rw [<- hs] at c1
      clear hs
      go_wp2_with (at_mapUpdate;refine wpList_mapUpdate_own _ rfl _ _ _ 141 rfl 9 145 keyLaw Tryz.underlying141 _ w.heap.size k _ rfl q3 (by unfold maxLen;omega) _ _ _ rfl rfl hkey _ [] (plainElem_int Tryz.underlying145 (by decide)) ?_;intro w1 hown1 hgrow1)
      have R1:w1.ownsMap (H:=Unit) Tryz.prog 9 (plainElem Tryz.prog 145) w.heap.size (k+1) (keyData (k+1)):=by rw [keyData_step k hkl];exact hown1
      have R2:w.grownBy w1 (some kb):=q4.andThen hgrow1 (fun j hj=>by cases hj;exact Or.inl (Nat.le_refl _))
      have R3:w1.heap[kb]?=some (.cells #[x0,x1,x2,.map (some w.heap.size)] 143 (0,0)):=by rw [hgrow1.block kb (lt_of_block q1) (by simp;omega)];exact q1
      have R4:w1.heap[w.heap.size+1]?=some (.cells keyCells 9 (0,0)):=by rw [hgrow1.block _ (lt_of_block q2) (by simp)];exact q2
      clear hown1 hgrow1 q1 q2 q3 q4 c1 c2
      go_wp2
      go_roundw
      case rel=>exact ⟨k+1,by omega,by go_num,R3,R4,R1,R2⟩
      case measure=>simp [intOf];omega
    · obtain rfl:k=15:=by omega
      go_wp2
      go_end0
      exact ⟨rfl,q1,q3,q4⟩
end Go.Proofs.YtlepckjmdjjolaaGreatDoor.Lx
namespace Go.Proofs.YtlepckjmdjjolaaGreatDoor.Lx
open Go.ChangeShapes Go.WideShapes Go.ChangeAt Go.RowKit Go.Maps Go.WideMaps
def Filled (w:World) (kb:Nat):Prop:=
 ∃ mb,w.heap[kb]?=some (.cells #[.int .u32 1,.int .i32 0,.int .u32 0,.map (some mb)] 143 (0,0))/\w.ownsMap (H:=Unit) Tryz.prog 9 (plainElem Tryz.prog 145) mb 15 (keyData 15)
def Table (w:World) (kb:Nat):Prop:=
 w.heap[kb]?=some (.cells #[.int .u32 0,.int .i32 0,.int .u32 0,.map none] 143 (0,0))\/Filled w kb
theorem slow_any (kb:Nat) (w:World) (hk:w.heap[kb]?=some (.cells #[.int .u32 0,.int .i32 0,.int .u32 0,.map none] 143 (0,0))):
    Calls Tryz.prog 137 #[.pointer (some ⟨kb,0,none⟩),.func (.func 115) #[.pointer (some ⟨kb,0,none⟩)] #[]] w fun e w'=>e=.returned (.tuple #[])/\Filled w' kb/\w.grownBy w' (some kb):=by
 have h1:=four_cell1 hk
 have f1:=four_free hk 1
 have k1:=four_set1 hk (.int .i32 1)
 have g1:=grown_setCell w kb 1 (.int .i32 1)
 have hl:=run_call_load (P:=Tryz.prog) Tryz.func151 (by kernel_rfl) (by kernel_rfl) (by kernel_rfl) .u32 (by kernel_rfl) (w:=w.setCell ⟨kb,1,none⟩ (.int .i32 1)) (a:=⟨kb,0,none⟩) (x:=0) (four_cell0 k1)
 have hnot:∀ (x:Bool) (w:World),(Op.unary .not (.bool x)).run Tryz.prog w=.ok (.bool (!x)) w:=fun _ _=>rfl
 go_enter_defers Tryz.func137,Tryz.ntmps137
 go_wp2_with (first | (go_at_call 152;refine (lock_free ⟨kb,1,none⟩ _ h1 f1).mono ?_;rintro e w' ⟨rfl,rfl⟩) | (go_at_call 115;refine (fill_any kb _ _ _ _ _ k1).mono ?_;rintro e w2 ⟨rfl,k2,m2,g2⟩) | (go_at_call 136;go_in))
 refine leaves_cons (f:=154) (args:=#[.pointer (some ⟨kb,0,none⟩),.bool true]) (by simp) (by simp [go_sem]) ?_
 refine (store_deferred ⟨kb,0,none⟩ (.int .u32 0) .returning _ (four_cell0 k2) (four_free k2 0)).mono ?_
 rintro e u' w'' ⟨rfl,rfl,rfl⟩
 have k3:=four_set0 (w:=w2.drew) k2 (.int .u32 1)
 refine leaves_cons (f:=153) (args:=#[.pointer (some ⟨kb,1,none⟩)]) (by simp [settle]) (by simp [go_sem]) ?_
 refine (unlock_deferred ⟨kb,1,none⟩ _ _ (four_cell1 k3) (four_free k3 1)).mono ?_
 rintro e u' w'' ⟨rfl,rfl,rfl⟩
 have k4:=four_set1 k3 (.int .i32 0)
 have hne:(w.setCell ⟨kb,1,none⟩ (.int .i32 1)).heap.size≠kb:=by
    have:=lt_of_block k1
    omega
 have m4:=((m2.drew).setCell (a:=⟨kb,0,none⟩) hne (.int .u32 1)).setCell (a:=⟨kb,1,none⟩) hne (.int .i32 0)
 have g4:=(((g1.trans g2).trans (grown_drew (World.grownBy.refl _ _))).trans (grown_setCell w2.drew kb 0 (.int .u32 1))).trans (grown_setCell _ kb 1 (.int .i32 0))
 have fin:Filled ((w2.drew.setCell ⟨kb,0,none⟩ (.int .u32 1)).setCell ⟨kb,1,none⟩ (.int .i32 0)) kb:=⟨_,k4,m4⟩
 simp [Leaves,settle,results,Tryz.results137]
 exact ⟨fin,g4⟩
theorem do_first (kb:Nat) (w:World) (hk:w.heap[kb]?=some (.cells #[.int .u32 0,.int .i32 0,.int .u32 0,.map none] 143 (0,0))):
    Calls Tryz.prog 114 #[.pointer (some ⟨kb,0,none⟩),.func (.func 115) #[.pointer (some ⟨kb,0,none⟩)] #[]] w fun e w'=>e=.returned (.tuple #[])/\Filled w' kb/\w.grownBy w' (some kb):=by
 have hl:=run_call_load (P:=Tryz.prog) Tryz.func151 (by kernel_rfl) (by kernel_rfl) (by kernel_rfl) .u32 (by kernel_rfl) (four_cell0 hk)
 have hnot:∀ (x:Bool) (w:World),(Op.unary .not (.bool x)).run Tryz.prog w=.ok (.bool (!x)) w:=fun _ _=>rfl
 go_enter Tryz.func114,Tryz.ntmps114
 go_wp2_with (first | (go_at_call 137;refine (slow_any kb _ hk).mono ?_;rintro e w' ⟨rfl,h1,h2⟩) | (go_at_call 136;go_in))
 go_end0
 exact ⟨rfl,h1,h2⟩
theorem do_done (kb:Nat) (fv:Value) (w:World) (hk:Filled w kb):
    Calls Tryz.prog 114 #[.pointer (some ⟨kb,0,none⟩),fv] w fun e w'=>e=.returned (.tuple #[])/\Filled w' kb/\w.grownBy w' (some kb):=by
 have hk0:=hk
 obtain ⟨mb,hk1,_⟩:=hk
 have hl:=run_call_load (P:=Tryz.prog) Tryz.func151 (by kernel_rfl) (by kernel_rfl) (by kernel_rfl) .u32 (by kernel_rfl) (four_cell0 hk1)
 have hnot:∀ (x:Bool) (w:World),(Op.unary .not (.bool x)).run Tryz.prog w=.ok (.bool (!x)) w:=fun _ _=>rfl
 clear hk1
 go_enter Tryz.func114,Tryz.ntmps114
 go_wp2
 go_end0
 exact ⟨rfl,hk0,World.grownBy.refl _ _⟩
theorem do_any (kb:Nat) (w:World) (hk:Table w kb):
    Calls Tryz.prog 114 #[.pointer (some ⟨kb,0,none⟩),.func (.func 115) #[.pointer (some ⟨kb,0,none⟩)] #[]] w fun e w'=>e=.returned (.tuple #[])/\Filled w' kb/\w.grownBy w' (some kb):=by
 rcases hk with h | h
 · exact do_first kb w h
 · exact do_done kb _ w h
def kindOf (t:List UInt8):Int:=if keyB t then 2 else 1
theorem kind_any (kb:Nat) (t:ByteArray) (w:World) (ht:t.size<=maxLen) (hk:Table w kb):
    Calls Tryz.prog 82 #[.pointer (some ⟨kb,0,none⟩),.string t] w fun e w'=>e=.returned (.int .i64 (kindOf (bys t)))/\Table w' kb/\w.grownBy w' (some kb):=by
 have hmf:∀ (fn:Fn) (first cap:Array Value) (w:World),(Instr.makeFunc fn first cap).run Tryz.prog w=.ok (.func fn first cap) w:=fun _ _ _ _=>rfl
 have hkey:keyOf Tryz.prog 9 (.string t)=some (.string (bys t)):=keyOf_string_mk Tryz.underlying9 ht
 have hkh:=keyData_has (bys t)
 cases hkb:keyB (bys t)
 all_goals (
    rw [hkb] at hkh
    go_enter Tryz.func82,Tryz.ntmps82
    go_wp2_with (first | (go_at_call 114;refine (do_any kb _ hk).mono ?_;rintro e w' ⟨rfl,h1,h2⟩;have h1':=h1;obtain ⟨mb,q1,q2⟩:=h1;have c3:=four_cell3 q1) | (at_lookup;refine wpList_lookup_own_ok_int _ rfl _ _ 141 rfl 9 145 .i64 keyLaw Tryz.underlying141 Tryz.underlying145 (zero29 _) mb 15 (keyData 15) rfl q2 _ _ rfl hkey ?_;intro c hat hwc))
    go_ret)
 · exact ⟨ret_int (by simp [kindOf,hkb]),Or.inr h1',h2⟩
 · refine ⟨ret_int ?_,Or.inr h1',h2⟩
   rw [keyData_at _ hkb] at hat
   simp at hat
   simp [kindOf,hkb,<- hat]
end Go.Proofs.YtlepckjmdjjolaaGreatDoor.Lx
