/- Own texts laid together: LxDig, LxRead, LxCutC, LxTok. Conditions: as each theorem says. -/
import Derived.Test.YtlepckjmdjjolaaGreatDoorGLxA
import Derived.Laws.Strings2
set_option maxHeartbeats 8000000
set_option maxRecDepth 100000
set_option linter.unusedVariables false
set_option linter.unusedSimpArgs false
namespace Go.Proofs.YtlepckjmdjjolaaGreatDoor.Lx
open Go.ChangeShapes Go.WideShapes Go.ChangeAt Go.RowKit
def Vars (w:World):Prop:=∃ te pe,w.cell? ⟨3,0,none⟩=some (.iface te pe)
theorem Vars.lt {w:World} (h:Vars w):3<w.heap.size:=by
 obtain ⟨te,pe,hv⟩:=h
 exact block_lt_of_cell hv
theorem Vars.grown {w w':World} {B:Nat} (h:Vars w) (hb:Below B w w') (hB:3<B):Vars w':=by
 obtain ⟨te,pe,hv⟩:=h
 exact ⟨te,pe,(hb.cell (p:=⟨3,0,none⟩) hB).trans hv⟩
theorem Vars.alloc {w:World} (h:Vars w) (o:Obj):Vars (w.alloc o):=h.grown ((Below.refl w.heap.size w).alloc (Nat.le_refl _) o) h.lt
def Tok.agg (t:Tok):Value:=.agg #[.int .i64 t.kind,.string (bstr t.text),.int .u64 t.value,.int .i64 t.at_]
def noTok:Value:=.agg #[.int .i64 0,.string ⟨#[]⟩,.int .u64 0,.int .i64 0]
def tokOut:Option Tok->Value
 | some t=>.tuple #[t.agg,.bool true]
 | none=>.tuple #[noTok,.bool false]
theorem four_cell2 {w:World} {b:Nat} {x0 x1 x2 x3:Value} {t:TypeId} (h:w.heap[b]?=some (.cells #[x0,x1,x2,x3] t (0,0))):w.cell? ⟨b,2,none⟩=some x2:=by simp [World.cell?,h]
theorem runDigit_at (s:ByteArray) (k m:Nat) (w:World) (hs:s.size<=65536) (h0:k<=s.size) (hm:Hid (k+lead digitB ((bys s).drop k)=m)):
    Calls Tryz.prog 80 #[.string s,.int .i64 k,.func (.func 83) #[] #[]] w fun e w'=>e=.returned (.int .i64 (m:Int))/\w'=w:=hm.out ▸ runDigit s k w hs h0
theorem runWord_at (s:ByteArray) (k m:Nat) (w:World) (hs:s.size<=65536) (h0:k<=s.size) (hm:Hid (k+lead wordB ((bys s).drop k)=m)):
    Calls Tryz.prog 80 #[.string s,.int .i64 k,.func (.func 81) #[] #[]] w fun e w'=>e=.returned (.int .i64 (m:Int))/\w'=w:=hm.out ▸ runWord s k w hs h0
theorem starts_letter {s:ByteArray} {m:Nat} (h:m<s.size):startsLetter ((bys s).drop m)=letterB (num s[m]):=by rw [drop_cons s m h];rfl
theorem starts_end {s:ByteArray} {m:Nat} (h:¬ m<s.size):startsLetter ((bys s).drop m)=false:=by rw [drop_all s m h];rfl
theorem cut_at {s t:ByteArray} {k m:Nat} (h1:k<=m) (h2:m<=s.size) (h:s.extract k m=t) (W:World):
    (Instr.slice 9 (.string s) (some (.int .i64 (k:Int))) (some (.int .i64 (m:Int))) none).run Tryz.prog W=.ok (.string t) W:=by
 rw [run_slice_string W 9 s .i64 .i64 (k:Int) (m:Int) Tryz.underlying9 (by omega) (by omega) (by omega),<- h]
 simp
theorem kept {w w1:World} (hb:Below (w.alloc (.cells #[.int .i64 0,.string ⟨#[]⟩,.int .u64 0,.int .i64 0] 147)).heap.size (w.alloc (.cells #[.int .i64 0,.string ⟨#[]⟩,.int .u64 0,.int .i64 0] 147)) w1):
    w1.cell? ⟨w.heap.size,0,none⟩=some (.int .i64 0)/\w1.cell? ⟨w.heap.size,1,none⟩=some (.string ⟨#[]⟩)/\w1.cell? ⟨w.heap.size,2,none⟩=some (.int .u64 0)/\w1.cell? ⟨w.heap.size,3,none⟩=some (.int .i64 0) /\
    w1.frozen? ⟨w.heap.size,0,none⟩=false/\w1.frozen? ⟨w.heap.size,1,none⟩=false/\w1.frozen? ⟨w.heap.size,2,none⟩=false/\w1.frozen? ⟨w.heap.size,3,none⟩=false/\Hid (w1.heap[w.heap.size]?=some (.cells #[.int .i64 0,.string ⟨#[]⟩,.int .u64 0,.int .i64 0] 147 (0,0))):=by
 have h:w1.heap[w.heap.size]?=some (.cells #[.int .i64 0,.string ⟨#[]⟩,.int .u64 0,.int .i64 0] 147 (0,0)):=by
    rw [hb.block _ (by simp)];exact heap_alloc_new w _
 exact ⟨four_cell0 h,four_cell1 h,four_cell2 h,four_cell3 h,four_free h 0,four_free h 1,four_free h 2,four_free h 3,h⟩
theorem four_set2 {w:World} {b:Nat} {x0 x1 x2 x3:Value} {t:TypeId} (h:w.heap[b]?=some (.cells #[x0,x1,x2,x3] t (0,0))) (u:Value):(w.setCell ⟨b,2,none⟩ u).heap[b]?=some (.cells #[x0,x1,u,x3] t (0,0)):=by
 have hlt:=lt_of_block h
 have h':w.heap[b]=.cells #[x0,x1,x2,x3] t (0,0):=by simpa [Array.getElem?_eq_getElem hlt] using h
 show (w.heap.modify b _)[b]?=_
 rw [Array.getElem?_eq_getElem (by simpa using hlt),Array.getElem_modify_self,h']
 rfl
theorem four_all {w:World} {b:Nat} {x0 x1 x2 x3:Value} {t:TypeId} (h:w.heap[b]?=some (.cells #[x0,x1,x2,x3] t (0,0))) (u0 u1 u2 u3:Value):
    ((((w.setCell ⟨b,0,none⟩ u0).setCell ⟨b,1,none⟩ u1).setCell ⟨b,2,none⟩ u2).setCell ⟨b,3,none⟩ u3).heap[b]?=some (.cells #[u0,u1,u2,u3] t (0,0)):=
 four_set3 (four_set2 (four_set1 (four_set0 h u0) u1) u2) u3
theorem stored_below {w w1:World} {o:Obj} (hb:Below (w.alloc o).heap.size (w.alloc o) w1) (u0 u1 u2 u3:Value):
    Below w.heap.size w ((((w1.setCell ⟨w.heap.size,0,none⟩ u0).setCell ⟨w.heap.size,1,none⟩ u1).setCell ⟨w.heap.size,2,none⟩ u2).setCell ⟨w.heap.size,3,none⟩ u3):=
 ((((((Below.refl _ w).alloc (Nat.le_refl _) o).trans (hb.mono (by simp))).setCell (Nat.le_refl _) _).setCell (Nat.le_refl _) _).setCell (Nat.le_refl _) _).setCell (Nat.le_refl _) _
theorem readDigits_any (s:ByteArray) (k:Nat) (w:World) (hs:s.size<=65536) (hk:k<s.size) (hd:digitB (num s[k])=true) (hV:Vars w):
    Calls Tryz.prog 84 #[.string s,.int .i64 k] w fun e w'=>e=.returned (tokOut (digitTok ((bys s).drop k) k))/\Below w.heap.size w w':=by
 obtain ⟨m,hm⟩:∃ m,k+lead digitB ((bys s).drop k)=m:=⟨_,rfl⟩
 have hl:=lead_le digitB ((bys s).drop k)
 rw [List.length_drop,bys_length] at hl
 have hpos:k<m:=by
    rw [<- hm,drop_cons s k hk,lead_yes hd];omega
 have hms:m<=s.size:=by omega
 have hdrop:((bys s).drop k).drop (lead digitB ((bys s).drop k))=(bys s).drop m:=by rw [List.drop_drop,hm]
 have hall:=lead_all digitB ((bys s).drop k)
 have hx:s.extract k m=bstr (((bys s).drop k).take (lead digitB ((bys s).drop k))):=by rw [extract_bstr,<- hm];congr 2;omega
 have hsz:(s.extract k m).size=m-k:=by rw [hx,bstr_size,List.length_take,List.length_drop,bys_length];omega
 have HT:Hid (digitTok ((bys s).drop k) k=if startsLetter ((bys s).drop m) then none else match numFrom 0 (bys (s.extract k m)) with | some v=>some ⟨3,bys (s.extract k m),v,k⟩ | none=>none):=by
    show _=_
    unfold digitTok
    rw [hdrop,hx,bys_bstr]
    rfl
 have hdig:∀ c ∈ bys (s.extract k m),digitB (num c)=true:=by rw [hx,bys_bstr];exact hall
 have HM:Hid (k+lead digitB ((bys s).drop k)=m):=hm
 obtain ⟨t,ht⟩:∃ t,t=s.extract k m:=⟨_,rfl⟩
 rw [<- ht] at hsz HT hdig
 have hV1:=hV.alloc (.cells #[.int .i64 0,.string ⟨#[]⟩,.int .u64 0,.int .i64 0] 147)
 obtain ⟨te,pe,hv⟩:=hV1
 have hcut:=cut_at (Nat.le_of_lt hpos) hms ht.symm
 clear hm hl hdrop hall hx ht hd
 by_cases hlm:m<s.size
 · have hsl:=starts_letter hlm
   unfold num at hsl
   cases hc:letterB (s[m].toNat:Int)
   · rw [hsl,hc] at HT
     clear hsl
     cases hn:numFrom 0 (bys t) with
     | none=>
       rw [hn] at HT
       have HN:Hid (numFrom 0 (bys t)=none):=hn
       clear hn
       go_enter Tryz.func84,Tryz.ntmps84
       go_wp2_with (first | (go_at_call 80;refine (runDigit_at s k m _ hs (by omega) HM).mono ?_;rintro e w' ⟨rfl,rfl⟩) | (go_at_call 79;refine (lexLetter _ _).mono ?_;rintro e w' ⟨rfl,rfl⟩) | (go_at_call 116;refine (parse_none t te pe (by omega) (by omega) hdig HN _ (by exact hv)).mono ?_;rintro e w1 ⟨a,mm,rfl,hb1⟩;obtain ⟨c0,c1,c2,c3,f0,f1,f2,f3,HK⟩:=kept hb1))
       have hW:=four_all HK.out (.int .i64 0) (.string ⟨#[]⟩) (.int .u64 0) (.int .i64 0)
       have hB:=stored_below hb1 (.int .i64 0) (.string ⟨#[]⟩) (.int .u64 0) (.int .i64 0)
       exact bodyPost_ret (v:=.tuple #[noTok,.bool false]) (by simp [results,Tryz.results84,go_sem,noTok,four_cell0 hW,four_cell1 hW,four_cell2 hW,four_cell3 hW]) rfl ⟨by rw [HT.out];rfl,hB⟩
     | some v=>
       rw [hn] at HT
       have HN:Hid (numFrom 0 (bys t)=some v):=hn
       clear hn
       go_enter Tryz.func84,Tryz.ntmps84
       go_wp2_with (first | (go_at_call 80;refine (runDigit_at s k m _ hs (by omega) HM).mono ?_;rintro e w' ⟨rfl,rfl⟩) | (go_at_call 79;refine (lexLetter _ _).mono ?_;rintro e w' ⟨rfl,rfl⟩) | (go_at_call 116;refine (parse_some t v (by omega) (by omega) hdig HN _).mono ?_;rintro e w1 ⟨rfl,hb1⟩;obtain ⟨c0,c1,c2,c3,f0,f1,f2,f3,HK⟩:=kept hb1))
       have hW:=four_all HK.out (.int .i64 3) (.string t) (.int .u64 v) (.int .i64 k)
       have hB:=stored_below hb1 (.int .i64 3) (.string t) (.int .u64 v) (.int .i64 k)
       exact bodyPost_ret (v:=.tuple #[.agg #[.int .i64 3,.string t,.int .u64 v,.int .i64 k],.bool true]) (by simp [results,Tryz.results84,go_sem,four_cell0 hW,four_cell1 hW,four_cell2 hW,four_cell3 hW]) rfl ⟨by rw [HT.out,<- bstr_bys t,bys_bstr];rfl,hB⟩
   · rw [hsl,hc] at HT
     clear hsl
     go_enter Tryz.func84,Tryz.ntmps84
     go_wp2_with (first | (go_at_call 80;refine (runDigit_at s k m _ hs (by omega) HM).mono ?_;rintro e w' ⟨rfl,rfl⟩) | (go_at_call 79;refine (lexLetter _ _).mono ?_;rintro e w' ⟨rfl,rfl⟩))
     exact bodyPost_ret (v:=.tuple #[noTok,.bool false]) (by simp [results,Tryz.results84,go_sem,noTok]) rfl ⟨by rw [HT.out];rfl,(Below.refl _ w).alloc (Nat.le_refl _) _⟩
 · rw [starts_end hlm] at HT
   cases hn:numFrom 0 (bys t) with
   | none=>
     rw [hn] at HT
     have HN:Hid (numFrom 0 (bys t)=none):=hn
     clear hn
     go_enter Tryz.func84,Tryz.ntmps84
     go_wp2_with (first | (go_at_call 80;refine (runDigit_at s k m _ hs (by omega) HM).mono ?_;rintro e w' ⟨rfl,rfl⟩) | (go_at_call 79;refine (lexLetter _ _).mono ?_;rintro e w' ⟨rfl,rfl⟩) | (go_at_call 116;refine (parse_none t te pe (by omega) (by omega) hdig HN _ (by exact hv)).mono ?_;rintro e w1 ⟨a,mm,rfl,hb1⟩;obtain ⟨c0,c1,c2,c3,f0,f1,f2,f3,HK⟩:=kept hb1))
     have hW:=four_all HK.out (.int .i64 0) (.string ⟨#[]⟩) (.int .u64 0) (.int .i64 0)
     have hB:=stored_below hb1 (.int .i64 0) (.string ⟨#[]⟩) (.int .u64 0) (.int .i64 0)
     exact bodyPost_ret (v:=.tuple #[noTok,.bool false]) (by simp [results,Tryz.results84,go_sem,noTok,four_cell0 hW,four_cell1 hW,four_cell2 hW,four_cell3 hW]) rfl ⟨by rw [HT.out];rfl,hB⟩
   | some v=>
     rw [hn] at HT
     have HN:Hid (numFrom 0 (bys t)=some v):=hn
     clear hn
     go_enter Tryz.func84,Tryz.ntmps84
     go_wp2_with (first | (go_at_call 80;refine (runDigit_at s k m _ hs (by omega) HM).mono ?_;rintro e w' ⟨rfl,rfl⟩) | (go_at_call 79;refine (lexLetter _ _).mono ?_;rintro e w' ⟨rfl,rfl⟩) | (go_at_call 116;refine (parse_some t v (by omega) (by omega) hdig HN _).mono ?_;rintro e w1 ⟨rfl,hb1⟩;obtain ⟨c0,c1,c2,c3,f0,f1,f2,f3,HK⟩:=kept hb1))
     have hW:=four_all HK.out (.int .i64 3) (.string t) (.int .u64 v) (.int .i64 k)
     have hB:=stored_below hb1 (.int .i64 3) (.string t) (.int .u64 v) (.int .i64 k)
     exact bodyPost_ret (v:=.tuple #[.agg #[.int .i64 3,.string t,.int .u64 v,.int .i64 k],.bool true]) (by simp [results,Tryz.results84,go_sem,four_cell0 hW,four_cell1 hW,four_cell2 hW,four_cell3 hW]) rfl ⟨by rw [HT.out,<- bstr_bys t,bys_bstr];rfl,hB⟩
theorem Table.lt {w:World} {kb:Nat} (h:Table w kb):kb<w.heap.size:=by
 rcases h with h | ⟨mb,h,_⟩
 · exact lt_of_block h
 · exact lt_of_block h
theorem Table.step {w w':World} {kb:Nat} {row:Option Nat} (h:Table w kb) (hg:w.grownBy w' row) (hr:∀ j,row=some j->∃ c t f,w.heap[j]?=some (.cells c t f)/\t≠143):Table w' kb:=by
 have key:∀ {cs:Array Value},w.heap[kb]?=some (.cells cs 143 (0,0))->w'.heap[kb]?=some (.cells cs 143 (0,0)):=fun {cs} hk=>by
    rw [hg.block kb (lt_of_block hk) (fun e=>by
     obtain ⟨c,t,f,hj,ht⟩:=hr kb e.symm
     rw [hk] at hj
     simp at hj
     exact ht hj.2.1.symm)]
    exact hk
 rcases h with h | ⟨mb,h,hm⟩
 · exact Or.inl (key h)
 · refine Or.inr ⟨mb,key h,hm.kept hg (fun e=>?_)⟩
   obtain ⟨c,t,f,hj,_⟩:=hr mb e.symm
   obtain ⟨es,clock,hh,_⟩:=hm
   rw [hh] at hj
   simp at hj
theorem grown_four (w:World) (b:Nat) (u0 u1 u2 u3:Value):w.grownBy ((((w.setCell ⟨b,0,none⟩ u0).setCell ⟨b,1,none⟩ u1).setCell ⟨b,2,none⟩ u2).setCell ⟨b,3,none⟩ u3) (some b):=
 (((grown_setCell w b 0 u0).trans (grown_setCell _ b 1 u1)).trans (grown_setCell _ b 2 u2)).trans (grown_setCell _ b 3 u3)
theorem grown_of_below {w w':World} {row:Option Nat} (h:Below w.heap.size w w'):w.grownBy w' row:=⟨h.os,h.tape,h.output,h.size,fun k hk _=>h.block k hk⟩
theorem keptBut {w w1:World} {kb:Nat} (hk:kb<w.heap.size) (hg:(w.alloc (.cells #[.int .i64 0,.string ⟨#[]⟩,.int .u64 0,.int .i64 0] 147)).grownBy w1 (some kb)):w1.heap[w.heap.size]?=some (.cells #[.int .i64 0,.string ⟨#[]⟩,.int .u64 0,.int .i64 0] 147 (0,0)):=by
 rw [hg.block _ (by simp) (by simp;omega)];exact heap_alloc_new w _
theorem four_facts {w1:World} {b:Nat} {x0 x1 x2 x3:Value} {t:TypeId} (h:w1.heap[b]?=some (.cells #[x0,x1,x2,x3] t (0,0))):
    w1.cell? ⟨b,0,none⟩=some x0/\w1.cell? ⟨b,1,none⟩=some x1/\w1.cell? ⟨b,2,none⟩=some x2/\w1.cell? ⟨b,3,none⟩=some x3 /\
    w1.frozen? ⟨b,0,none⟩=false/\w1.frozen? ⟨b,1,none⟩=false/\w1.frozen? ⟨b,2,none⟩=false/\w1.frozen? ⟨b,3,none⟩=false:=
 ⟨four_cell0 h,four_cell1 h,four_cell2 h,four_cell3 h,four_free h 0,four_free h 1,four_free h 2,four_free h 3⟩
theorem stored_read {w w1:World} {kb:Nat} (hk:kb<w.heap.size) (hT:Table w1 kb) (hg:(w.alloc (.cells #[.int .i64 0,.string ⟨#[]⟩,.int .u64 0,.int .i64 0] 147)).grownBy w1 (some kb)) (u0 u1 u2 u3:Value):
    Table ((((w1.setCell ⟨w.heap.size,0,none⟩ u0).setCell ⟨w.heap.size,1,none⟩ u1).setCell ⟨w.heap.size,2,none⟩ u2).setCell ⟨w.heap.size,3,none⟩ u3) kb /\
    w.grownBy ((((w1.setCell ⟨w.heap.size,0,none⟩ u0).setCell ⟨w.heap.size,1,none⟩ u1).setCell ⟨w.heap.size,2,none⟩ u2).setCell ⟨w.heap.size,3,none⟩ u3) (some kb):=by
 have g:=grown_four w1 w.heap.size u0 u1 u2 u3
 exact ⟨hT.step g (fun j hj=>by cases hj;exact ⟨_,_,_,keptBut hk hg,by decide⟩),((World.grownBy_alloc w _ _).trans hg).andThen g (fun j hj=>by cases hj;exact Or.inl (Nat.le_refl _))⟩
theorem cut_plus {s t:ByteArray} {k n:Nat} (h2:k+n<=s.size) (h:s.extract k (k+n)=t) (W:World):
    (Instr.slice 9 (.string s) (some (.int .i64 (k:Int))) (some (.int .i64 ((k:Int)+(n:Int)))) none).run Tryz.prog W=.ok (.string t) W:=by
 rw [run_slice_string W 9 s .i64 .i64 (k:Int) ((k:Int)+(n:Int)) Tryz.underlying9 (by omega) (by omega) (by omega),<- h]
 have e1:((k:Int)).toNat=k:=by omega
 have e2:((k:Int)+(n:Int)).toNat=k+n:=by omega
 rw [e1,e2]
theorem cut_from {s t:ByteArray} {k:Nat} (h2:k<=s.size) (h:s.extract k s.size=t) (W:World):
    (Instr.slice 9 (.string s) (some (.int .i64 (k:Int))) none none).run Tryz.prog W=.ok (.string t) W:=by
 rw [run_slice_string_from_if W 9 s .i64 (k:Int) Tryz.underlying9,if_pos (by omega),<- h]
 simp
theorem kind_at (kb:Nat) (t:ByteArray) (ki:Int) (w:World) (ht:t.size<=maxLen) (hk:Table w kb) (hi:Hid (kindOf (bys t)=ki)):
    Calls Tryz.prog 82 #[.pointer (some ⟨kb,0,none⟩),.string t] w fun e w'=>e=.returned (.int .i64 ki)/\Table w' kb/\w.grownBy w' (some kb):=hi.out ▸ kind_any kb t w ht hk
theorem readDigits_some (s:ByteArray) (k:Nat) (t:Tok) (w:World) (hs:s.size<=65536) (hk:k<s.size) (hd:digitB (num s[k])=true) (hV:Vars w) (ht:Hid (digitTok ((bys s).drop k) k=some t)):
    Calls Tryz.prog 84 #[.string s,.int .i64 k] w fun e w'=>e=.returned (.tuple #[.agg #[.int .i64 t.kind,.string (bstr t.text),.int .u64 t.value,.int .i64 t.at_],.bool true])/\Below w.heap.size w w':=by
 have:=readDigits_any s k w hs hk hd hV
 rw [ht.out] at this
 exact this
theorem readDigits_none (s:ByteArray) (k:Nat) (w:World) (hs:s.size<=65536) (hk:k<s.size) (hd:digitB (num s[k])=true) (hV:Vars w) (ht:Hid (digitTok ((bys s).drop k) k=none)):
    Calls Tryz.prog 84 #[.string s,.int .i64 k] w fun e w'=>e=.returned (.tuple #[.agg #[.int .i64 0,.string ⟨#[]⟩,.int .u64 0,.int .i64 0],.bool false])/\Below w.heap.size w w':=by
 have:=readDigits_any s k w hs hk hd hV
 rw [ht.out] at this
 exact this
theorem signSize_at (t:ByteArray) (n:Nat) (w:World) (h:0<t.size) (hn:Hid (signN (bys t)=n)):
    Calls Tryz.prog 85 #[.string t] w fun e w'=>e=.returned (.int .i64 (n:Int))/\Below w.heap.size w w':=hn.out ▸ signSize_any t w h
theorem read_letter (s:ByteArray) (k kb:Nat) (w:World) (hs:s.size<=65536) (hk:k<s.size) (hV:Vars w) (hT:Table w kb) (hc:letterB (num s[k])=true):
    Calls Tryz.prog 54 #[.string s,.int .i64 k,.pointer (some ⟨kb,0,none⟩)] w fun e w'=>e=.returned (tokOut (readTok ((bys s).drop k) k))/\Table w' kb/\w.grownBy w' (some kb):=by
 have hkb:=hT.lt
 obtain ⟨m,hm⟩:∃ m,k+lead wordB ((bys s).drop k)=m:=⟨_,rfl⟩
 have hl:=lead_le wordB ((bys s).drop k)
 rw [List.length_drop,bys_length] at hl
 have hpos:k<m:=by
    rw [<- hm,drop_cons s k hk,lead_yes (by simp [wordB,hc])];omega
 have hms:m<=s.size:=by omega
 have hx:s.extract k m=bstr (((bys s).drop k).take (lead wordB ((bys s).drop k))):=by rw [extract_bstr,<- hm];congr 2;omega
 have hsz:(s.extract k m).size=m-k:=by rw [hx,bstr_size,List.length_take,List.length_drop,bys_length];omega
 have HT:Hid (readTok ((bys s).drop k) k=some ⟨if keyB (bys (s.extract k m)) then 2 else 1,bys (s.extract k m),0,k⟩):=by
    show _=_
    rw [hx,bys_bstr]
    have hd:=drop_cons s k hk
    unfold readTok
    rw [hd]
    simp only [hc,if_true]
 have HM:Hid (k+lead wordB ((bys s).drop k)=m):=hm
 obtain ⟨t,ht⟩:∃ t,t=s.extract k m:=⟨_,rfl⟩
 rw [<- ht] at hsz HT
 have hT0:Table (w.alloc (.cells #[.int .i64 0,.string ⟨#[]⟩,.int .u64 0,.int .i64 0] 147)) kb:=hT.step (World.grownBy_alloc _ _ none) (fun j hj=>by cases hj)
 have hcut:=cut_at (Nat.le_of_lt hpos) hms ht.symm
 have HKind:Hid (kindOf (bys t)=(((if keyB (bys t) then 2 else 1:Nat)):Int)):=by unfold kindOf Hid;split <;> rfl
 have hbl:bstr (bys t)=t:=bstr_bys t
 have hmx:t.size<=maxLen:=by unfold maxLen;omega
 generalize hki:kindOf (bys t)=ki at HKind
 have HKI:Hid (kindOf (bys t)=ki):=hki
 clear hm hl hx ht hki
 unfold num at hc
 go_enter Tryz.func54,Tryz.ntmps54
 go_wp2_with (first | (go_at_call 79;refine (lexLetter _ _).mono ?_;rintro e w' ⟨rfl,rfl⟩) | (go_at_call 80;refine (runWord_at s k m _ hs (by omega) HM).mono ?_;rintro e w' ⟨rfl,rfl⟩) | (go_at_call 82;refine (kind_at kb t ki _ hmx hT0 HKI).mono ?_;rintro e w1 ⟨rfl,hT1,hg1⟩;have HK0:=keptBut hkb hg1;obtain ⟨c0,c1,c2,c3,f0,f1,f2,f3⟩:=four_facts HK0;have HK:Hid _:=HK0;clear HK0))
 have hbl2:=hbl
 have hW:=four_all HK.out (.int .i64 ki) (.string t) (.int .u64 0) (.int .i64 k)
 obtain ⟨hT2,hg2⟩:=stored_read hkb hT1 hg1 (.int .i64 ki) (.string t) (.int .u64 0) (.int .i64 k)
 refine bodyPost_ret (v:=.tuple #[.agg #[.int .i64 ki,.string t,.int .u64 0,.int .i64 k],.bool true]) (by simp [results,Tryz.results54,go_sem,four_cell0 hW,four_cell1 hW,four_cell2 hW,four_cell3 hW]) rfl ⟨?_,hT2,hg2⟩
 rw [HT.out]
 unfold tokOut Tok.agg
 simp only [hbl]
 rw [HKind.out]
 rfl
theorem read_digit_some (s:ByteArray) (k kb:Nat) (w:World) (hs:s.size<=65536) (hk:k<s.size) (hV:Vars w) (hT:Table w kb) (t:Tok) (hc:letterB (num s[k])=false) (hd:digitB (num s[k])=true) (HD:Hid (digitTok ((bys s).drop k) k=some t)):
    Calls Tryz.prog 54 #[.string s,.int .i64 k,.pointer (some ⟨kb,0,none⟩)] w fun e w'=>e=.returned (tokOut (readTok ((bys s).drop k) k))/\Table w' kb/\w.grownBy w' (some kb):=by
 have hkb:=hT.lt
 have HT:Hid (readTok ((bys s).drop k) k=some t):=by
    show _=_
    have hd':=drop_cons s k hk
    rw [<- HD.out]
    conv=>lhs;unfold readTok
    rw [hd']
    simp only [hc,hd,if_true,Bool.false_eq_true,if_false]
 have hT0:Table (w.alloc (.cells #[.int .i64 0,.string ⟨#[]⟩,.int .u64 0,.int .i64 0] 147)) kb:=hT.step (World.grownBy_alloc _ _ none) (fun j hj=>by cases hj)
 have hV0:=hV.alloc (.cells #[.int .i64 0,.string ⟨#[]⟩,.int .u64 0,.int .i64 0] 147)
 have hc2:=hc
 have hd2:=hd
 unfold num at hc2 hd2
 go_enter Tryz.func54,Tryz.ntmps54
 go_wp2_with (first | (go_at_call 79;refine (lexLetter _ _).mono ?_;rintro e w' ⟨rfl,rfl⟩) | (go_at_call 83;refine (lexDigit _ _).mono ?_;rintro e w' ⟨rfl,rfl⟩) | (go_at_call 84;refine (readDigits_some s k t _ hs hk hd (by exact hV0) HD).mono ?_;rintro e w1 ⟨rfl,hb1⟩;have hg1:=grown_of_below (row:=some kb) hb1;have hT1:=hT0.step (grown_of_below (row:=none) hb1) (fun j hj=>by cases hj);have HK0:=keptBut hkb hg1;obtain ⟨c0,c1,c2,c3,f0,f1,f2,f3⟩:=four_facts HK0;have HK:Hid _:=HK0;clear HK0))
 have hW:=four_all HK.out (.int .i64 t.kind) (.string (bstr t.text)) (.int .u64 t.value) (.int .i64 t.at_)
 obtain ⟨hT2,hg2⟩:=stored_read hkb hT1 hg1 (.int .i64 t.kind) (.string (bstr t.text)) (.int .u64 t.value) (.int .i64 t.at_)
 exact bodyPost_ret (v:=.tuple #[.agg #[.int .i64 t.kind,.string (bstr t.text),.int .u64 t.value,.int .i64 t.at_],.bool true]) (by simp [results,Tryz.results54,go_sem,four_cell0 hW,four_cell1 hW,four_cell2 hW,four_cell3 hW]) rfl ⟨by rw [HT.out];rfl,hT2,hg2⟩
theorem read_digit_none (s:ByteArray) (k kb:Nat) (w:World) (hs:s.size<=65536) (hk:k<s.size) (hV:Vars w) (hT:Table w kb) (hc:letterB (num s[k])=false) (hd:digitB (num s[k])=true) (HD:Hid (digitTok ((bys s).drop k) k=none)):
    Calls Tryz.prog 54 #[.string s,.int .i64 k,.pointer (some ⟨kb,0,none⟩)] w fun e w'=>e=.returned (tokOut (readTok ((bys s).drop k) k))/\Table w' kb/\w.grownBy w' (some kb):=by
 have hkb:=hT.lt
 have HT:Hid (readTok ((bys s).drop k) k=none):=by
    show _=_
    have hd':=drop_cons s k hk
    rw [<- HD.out]
    conv=>lhs;unfold readTok
    rw [hd']
    simp only [hc,hd,if_true,Bool.false_eq_true,if_false]
 have hT0:Table (w.alloc (.cells #[.int .i64 0,.string ⟨#[]⟩,.int .u64 0,.int .i64 0] 147)) kb:=hT.step (World.grownBy_alloc _ _ none) (fun j hj=>by cases hj)
 have hV0:=hV.alloc (.cells #[.int .i64 0,.string ⟨#[]⟩,.int .u64 0,.int .i64 0] 147)
 have hc2:=hc
 have hd2:=hd
 unfold num at hc2 hd2
 go_enter Tryz.func54,Tryz.ntmps54
 go_wp2_with (first | (go_at_call 79;refine (lexLetter _ _).mono ?_;rintro e w' ⟨rfl,rfl⟩) | (go_at_call 83;refine (lexDigit _ _).mono ?_;rintro e w' ⟨rfl,rfl⟩) | (go_at_call 84;refine (readDigits_none s k _ hs hk hd (by exact hV0) HD).mono ?_;rintro e w1 ⟨rfl,hb1⟩;have hg1:=grown_of_below (row:=some kb) hb1;have hT1:=hT0.step (grown_of_below (row:=none) hb1) (fun j hj=>by cases hj);have HK0:=keptBut hkb hg1;obtain ⟨c0,c1,c2,c3,f0,f1,f2,f3⟩:=four_facts HK0;have HK:Hid _:=HK0;clear HK0))
 have hW:=four_all HK.out (.int .i64 0) (.string ⟨#[]⟩) (.int .u64 0) (.int .i64 0)
 obtain ⟨hT2,hg2⟩:=stored_read hkb hT1 hg1 (.int .i64 0) (.string ⟨#[]⟩) (.int .u64 0) (.int .i64 0)
 exact bodyPost_ret (v:=.tuple #[.agg #[.int .i64 0,.string ⟨#[]⟩,.int .u64 0,.int .i64 0],.bool false]) (by simp [results,Tryz.results54,go_sem,four_cell0 hW,four_cell1 hW,four_cell2 hW,four_cell3 hW]) rfl ⟨by rw [HT.out];rfl,hT2,hg2⟩
theorem read_sign_some (s:ByteArray) (k kb:Nat) (w:World) (hs:s.size<=65536) (hk:k<s.size) (hV:Vars w) (hT:Table w kb) (n:Nat) (hc:letterB (num s[k])=false) (hd:digitB (num s[k])=false) (hn:signN ((bys s).drop k)=n) (h0:¬ n=0):
    Calls Tryz.prog 54 #[.string s,.int .i64 k,.pointer (some ⟨kb,0,none⟩)] w fun e w'=>e=.returned (tokOut (readTok ((bys s).drop k) k))/\Table w' kb/\w.grownBy w' (some kb):=by
 have hkb:=hT.lt
 have hle:=signN_le ((bys s).drop k)
 rw [List.length_drop,bys_length,hn] at hle
 have HT:Hid (readTok ((bys s).drop k) k=some ⟨4,((bys s).drop k).take n,0,k⟩):=by
    show _=_
    have hd':=drop_cons s k hk
    rw [hd'] at hn ⊢
    unfold readTok
    simp only [hc,hd,hn,Bool.false_eq_true,if_false]
    rw [if_neg h0]
 obtain ⟨t,ht⟩:∃ t,t=s.extract k s.size:=⟨_,rfl⟩
 have hbt:bys t=(bys s).drop k:=by rw [ht,extract_bys,List.take_of_length_le (by rw [List.length_drop,bys_length];omega)]
 have hts:t.size=s.size-k:=by rw [<- bys_length,hbt,List.length_drop,bys_length]
 have HN:Hid (signN (bys t)=n):=by rw [hbt];exact hn
 have hcut:=cut_from (Nat.le_of_lt hk) ht.symm
 have hku:k+n<=s.size:=by omega
 obtain ⟨u,hu⟩:∃ u,u=s.extract k (k+n):=⟨_,rfl⟩
 have hcut2:=cut_plus hku hu.symm
 have HU:Hid (bstr (((bys s).drop k).take n)=u):=by rw [hu,extract_bstr];show _=_;congr 2;omega
 have hni:¬ ((n:Int)=0):=by omega
 have hT0:Table (w.alloc (.cells #[.int .i64 0,.string ⟨#[]⟩,.int .u64 0,.int .i64 0] 147)) kb:=hT.step (World.grownBy_alloc _ _ none) (fun j hj=>by cases hj)
 clear ht hbt hn hu
 have hc2:=hc
 have hd2:=hd
 unfold num at hc2 hd2
 go_enter Tryz.func54,Tryz.ntmps54
 go_wp2_with (first | (go_at_call 79;refine (lexLetter _ _).mono ?_;rintro e w' ⟨rfl,rfl⟩) | (go_at_call 83;refine (lexDigit _ _).mono ?_;rintro e w' ⟨rfl,rfl⟩) | (go_at_call 85;refine (signSize_at t n _ (by omega) HN).mono ?_;rintro e w1 ⟨rfl,hb1⟩;have hg1:=grown_of_below (row:=some kb) hb1;have hT1:=hT0.step (grown_of_below (row:=none) hb1) (fun j hj=>by cases hj);have HK0:=keptBut hkb hg1;obtain ⟨c0,c1,c2,c3,f0,f1,f2,f3⟩:=four_facts HK0;have HK:Hid _:=HK0;clear HK0))
 have hW:=four_all HK.out (.int .i64 4) (.string u) (.int .u64 0) (.int .i64 k)
 obtain ⟨hT2,hg2⟩:=stored_read hkb hT1 hg1 (.int .i64 4) (.string u) (.int .u64 0) (.int .i64 k)
 exact bodyPost_ret (v:=.tuple #[.agg #[.int .i64 4,.string u,.int .u64 0,.int .i64 k],.bool true]) (by simp [results,Tryz.results54,go_sem,four_cell0 hW,four_cell1 hW,four_cell2 hW,four_cell3 hW]) rfl ⟨by rw [HT.out,<- HU.out];rfl,hT2,hg2⟩
theorem read_sign_none (s:ByteArray) (k kb:Nat) (w:World) (hs:s.size<=65536) (hk:k<s.size) (hV:Vars w) (hT:Table w kb) (n:Nat) (hc:letterB (num s[k])=false) (hd:digitB (num s[k])=false) (hn:signN ((bys s).drop k)=n) (h0:n=0):
    Calls Tryz.prog 54 #[.string s,.int .i64 k,.pointer (some ⟨kb,0,none⟩)] w fun e w'=>e=.returned (tokOut (readTok ((bys s).drop k) k))/\Table w' kb/\w.grownBy w' (some kb):=by
 have hkb:=hT.lt
 have hle:=signN_le ((bys s).drop k)
 rw [List.length_drop,bys_length,hn] at hle
 have HT:Hid (readTok ((bys s).drop k) k=none):=by
    show _=_
    have hd':=drop_cons s k hk
    rw [hd'] at hn ⊢
    unfold readTok
    simp only [hc,hd,hn,Bool.false_eq_true,if_false]
    rw [if_pos h0]
 obtain ⟨t,ht⟩:∃ t,t=s.extract k s.size:=⟨_,rfl⟩
 have hbt:bys t=(bys s).drop k:=by rw [ht,extract_bys,List.take_of_length_le (by rw [List.length_drop,bys_length];omega)]
 have hts:t.size=s.size-k:=by rw [<- bys_length,hbt,List.length_drop,bys_length]
 have HN:Hid (signN (bys t)=n):=by rw [hbt];exact hn
 have hcut:=cut_from (Nat.le_of_lt hk) ht.symm
 have hni:(n:Int)=0:=by omega
 have hT0:Table (w.alloc (.cells #[.int .i64 0,.string ⟨#[]⟩,.int .u64 0,.int .i64 0] 147)) kb:=hT.step (World.grownBy_alloc _ _ none) (fun j hj=>by cases hj)
 clear ht hbt hn
 have hc2:=hc
 have hd2:=hd
 unfold num at hc2 hd2
 go_enter Tryz.func54,Tryz.ntmps54
 go_wp2_with (first | (go_at_call 79;refine (lexLetter _ _).mono ?_;rintro e w' ⟨rfl,rfl⟩) | (go_at_call 83;refine (lexDigit _ _).mono ?_;rintro e w' ⟨rfl,rfl⟩) | (go_at_call 85;refine (signSize_at t n _ (by omega) HN).mono ?_;rintro e w1 ⟨rfl,hb1⟩;have hg1:=grown_of_below (row:=some kb) hb1;have hT1:=hT0.step (grown_of_below (row:=none) hb1) (fun j hj=>by cases hj);have HK0:=keptBut hkb hg1;obtain ⟨c0,c1,c2,c3,f0,f1,f2,f3⟩:=four_facts HK0;have HK:Hid _:=HK0;clear HK0))
 have hW:=four_all HK.out (.int .i64 0) (.string ⟨#[]⟩) (.int .u64 0) (.int .i64 0)
 obtain ⟨hT2,hg2⟩:=stored_read hkb hT1 hg1 (.int .i64 0) (.string ⟨#[]⟩) (.int .u64 0) (.int .i64 0)
 exact bodyPost_ret (v:=.tuple #[.agg #[.int .i64 0,.string ⟨#[]⟩,.int .u64 0,.int .i64 0],.bool false]) (by simp [results,Tryz.results54,go_sem,four_cell0 hW,four_cell1 hW,four_cell2 hW,four_cell3 hW]) rfl ⟨by rw [HT.out];rfl,hT2,hg2⟩
theorem read_any (s:ByteArray) (k kb:Nat) (w:World) (hs:s.size<=65536) (hk:k<s.size) (hV:Vars w) (hT:Table w kb):
    Calls Tryz.prog 54 #[.string s,.int .i64 k,.pointer (some ⟨kb,0,none⟩)] w fun e w'=>e=.returned (tokOut (readTok ((bys s).drop k) k))/\Table w' kb/\w.grownBy w' (some kb):=by
 cases hc:letterB (num s[k])
 · cases hd:digitB (num s[k])
   · by_cases h0:signN ((bys s).drop k)=0
     · exact read_sign_none s k kb w hs hk hV hT _ hc hd rfl h0
     · exact read_sign_some s k kb w hs hk hV hT _ hc hd rfl h0
   · cases hD:digitTok ((bys s).drop k) k with
     | none=>exact read_digit_none s k kb w hs hk hV hT hc hd hD
     | some t=>exact read_digit_some s k kb w hs hk hV hT t hc hd hD
 · exact read_letter s k kb w hs hk hV hT hc
def Tok.cells (t:Tok):List Value:=[.int .i64 t.kind,.string (bstr t.text),.int .u64 t.value,.int .i64 t.at_]
def rowOf (ts:List Tok):List Value:=ts.flatMap Tok.cells
theorem rowOf_snoc (ts:List Tok) (t:Tok):rowOf (ts++[t])=rowOf ts++t.cells:=by simp [rowOf]
def CutPost (B:Nat) (r:Res) (e:Ending) (w':World):Prop:=
 match r with
 | .ok ts=>∃ v,e=.returned (.tuple #[v,.nilIface])/\w'.ownsRow B 147 4 v ts.length (rowOf ts)
 | .error (n,p)=>∃ fb,e=.returned (.tuple #[.slice none 0 0,.iface 124 (.pointer (some ⟨fb,0,none⟩))])/\B<=fb/\w'.heap[fb]?=some (.cells #[.int .i64 (p:Int),.iface 65 (.int .i64 (n:Int))] 127 (0,0))
theorem Tryz.info32:(Tryz.prog.info? 147).map (fun i=>(i.zero,i.size,i.bytes))=some (some (.agg #[.int .i64 0,.string ⟨#[]⟩,.int .u64 0,.int .i64 0]),4,40):=by kernel_rfl
theorem owns_base {w:World} {b b':Nat} {e:TypeId} {size:Nat} {v:Value} {n:Nat} {xs:List Value} (h:w.ownsRow b e size v n xs) (hb:b'<=b):w.ownsRow b' e size v n xs:=by
 obtain ⟨h1,h2⟩:=h
 refine ⟨h1,?_⟩
 rcases h2 with h2 | ⟨g,cap,cur,hv,hg,r⟩
 · exact Or.inl h2
 · exact Or.inr ⟨g,cap,cur,hv,by omega,r⟩
theorem append_tok {ops:Array Oper} {rest:List Oper} {o:Oper} {a:Act} {Q:Exit->Act->World->Prop} (W:World) (x0 x1 x2 x3:Value) (hgd:o.guard=none) (s x:Operand)
    (ho:o.op=.call { callee:=.builtin .append,args:=#[s,x],argTypes:=#[76,76] })
    (base:Nat) (v:Value) (n:Nat) (xs:List Value) (hs:a.eval s=v) (hown:W.ownsRow base 147 4 v n xs)
    (b:Nat) (hx:a.eval x=.slice (some ⟨b,0,none⟩) 1 1) (hb:b=W.heap.size) (ho0:x0.oneCell'=true) (ho1:x1.oneCell'=true) (ho2:x2.oneCell'=true) (ho3:x3.oneCell'=true) (hn:n<=65536) (hbase:base<=W.heap.size)
    (h:∀ v' w',w'.ownsRow base 147 4 v' (n+1) (xs++[x0,x1,x2,x3])->(W.alloc (.cells #[x0,x1,x2,x3] 147)).grownBy w' v.ownBlock->wpList Tryz.prog ops Q rest (a.put o.dst v') w'):
    wpList Tryz.prog ops Q (o :: rest) a (W.alloc (.cells #[x0,x1,x2,x3] 147)):=by
 subst hb
 obtain ⟨i0,hi,hz0,hz1,hz2⟩:=info_parts Tryz.info32
 refine wpList_append_own _ hgd s x 76 ho base 147 i0 _ 4 40 Tryz.underlying76 hi hz0 hz1 hz2 rfl (by decide) v n xs hs (hown.alloc _) ⟨W.heap.size,0,none⟩ 1 1 [x0,x1,x2,x3] hx rfl ?_ ?_ ?_ ?_ ?_ ?_
 · intro j u hj
   match j,hj with
   | 0,hj=>simp at hj;subst hj;simp [Addr.add]
   | 1,hj=>simp at hj;subst hj;simp [Addr.add]
   | 2,hj=>simp at hj;subst hj;simp [Addr.add]
   | 3,hj=>simp at hj;subst hj;simp [Addr.add]
 · intro u hu
   simp at hu
   rcases hu with rfl | rfl | rfl | rfl <;> assumption
 · unfold maxLen;omega
 · omega
 · simp;omega
 · intro v' w' h1 h2 _
   exact h v' w' h1 h2
theorem lexSkip_at (s:ByteArray) (k m:Nat) (w:World) (hs:s.size<=65536) (h0:k<=s.size) (hm:Hid (k+blanks false ((bys s).drop k)=m)):
    Calls Tryz.prog 53 #[.string s,.int .i64 (k:Int)] w fun e w'=>e=.returned (.int .i64 (m:Int))/\w'=w:=hm.out ▸ lexSkip s k w hs h0
theorem lexSkip_plus (s:ByteArray) (k n m:Nat) (w:World) (hs:s.size<=65536) (h0:k+n<=s.size) (hm:Hid (k+n+blanks false ((bys s).drop (k+n))=m)):
    Calls Tryz.prog 53 #[.string s,.int .i64 ((k:Int)+(n:Int))] w fun e w'=>e=.returned (.int .i64 (m:Int))/\w'=w:=by
 have:=lexSkip_at s (k+n) m w hs h0 hm
 rwa [show (((k+n:Nat)):Int)=(k:Int)+(n:Int) from by omega] at this
theorem read_some (s:ByteArray) (k kb:Nat) (t:Tok) (w:World) (hs:s.size<=65536) (hk:k<s.size) (hV:Vars w) (hT:Table w kb) (ht:Hid (readTok ((bys s).drop k) k=some t)):
    Calls Tryz.prog 54 #[.string s,.int .i64 k,.pointer (some ⟨kb,0,none⟩)] w fun e w'=>e=.returned (.tuple #[.agg #[.int .i64 t.kind,.string (bstr t.text),.int .u64 t.value,.int .i64 t.at_],.bool true])/\Table w' kb/\w.grownBy w' (some kb):=by
 have:=read_any s k kb w hs hk hV hT
 rw [ht.out] at this
 exact this
theorem read_none (s:ByteArray) (k kb:Nat) (w:World) (hs:s.size<=65536) (hk:k<s.size) (hV:Vars w) (hT:Table w kb) (ht:Hid (readTok ((bys s).drop k) k=none)):
    Calls Tryz.prog 54 #[.string s,.int .i64 k,.pointer (some ⟨kb,0,none⟩)] w fun e w'=>e=.returned (.tuple #[.agg #[.int .i64 0,.string ⟨#[]⟩,.int .u64 0,.int .i64 0],.bool false])/\Table w' kb/\w.grownBy w' (some kb):=by
 have:=read_any s k kb w hs hk hV hT
 rw [ht.out] at this
 exact this
theorem cut_long (s:ByteArray) (w:World) (hs:65536<s.size) (hm:s.size<=maxLen):
    Calls Tryz.prog 28 #[.string s] w fun e w'=>CutPost w.heap.size (.err 6 0) e w'/\Below w.heap.size w w':=by
 unfold maxLen at hm
 go_enter Tryz.func28,Tryz.ntmps28
 go_wp2_with (go_at_call 42;refine (wrap_any _ _ _).mono ?_;rintro e w' ⟨rfl,rfl⟩)
 go_ret2
 exact ⟨⟨_,rfl,Nat.le_refl _,heap_alloc_new w _⟩,(Below.refl _ _).alloc (Nat.le_refl _) _⟩
theorem next_round {L:List UInt8} {k f n m:Nat} {ts:List Tok} {t:Tok} (hk:k<L.length) (hf:L.length-k<f) (hc:cutTok L=(goTok f (L.drop k) k).pre ts)
    (ht:readTok (L.drop k) k=some t) (hn:t.text.length=n) (hm:k+n+blanks false (L.drop (k+n))=m):
    ∃ f',L.length-m<f'/\cutTok L=(goTok f' (L.drop m) m).pre (ts++[t]):=by
 obtain ⟨f',rfl⟩:∃ f',f=f'+1:=⟨f-1,by omega⟩
 obtain ⟨n',_,h1,_,h3,_⟩:=readTok_some ht
 have hn':0<n:=by omega
 refine ⟨f',by omega,?_⟩
 have e:(L.drop k).drop n=L.drop (k+n):=List.drop_drop
 rw [hc,goTok_some ht,Res.pre_pre,hn,e,List.drop_drop,hm]
theorem own_type {w:World} {base:Nat} {v:Value} {n:Nat} {xs:List Value} (h:w.ownsRow base 147 4 v n xs):∀ j,v.ownBlock=some j->∃ c t f,w.heap[j]?=some (.cells c t f)/\t≠143:=by
 intro j hj
 obtain ⟨_,h2⟩:=h
 rcases h2 with ⟨rfl,_⟩ | ⟨g,cap,cur,rfl,hg,hh,_⟩
 · cases hj
 · cases hj;exact ⟨_,_,_,hh,by decide⟩
theorem round_rel {w w1 wr w2 w3:World} {v v':Value} {ts:List Tok} {t:Tok} (hs1:w.heap.size<=w1.heap.size) (hsz:w1.heap.size+1<=wr.heap.size)
    (hown:wr.ownsRow (w1.heap.size+1) 147 4 v ts.length (rowOf ts)) (hnx:Below w.heap.size w wr) (hT2:Table w2 w1.heap.size) (hg2:wr.grownBy w2 (some w1.heap.size))
    (hown3:w3.ownsRow (w1.heap.size+1) 147 4 v' (ts.length+1) (rowOf ts++[.int .i64 t.kind,.string (bstr t.text),.int .u64 t.value,.int .i64 t.at_]))
    (hg3:((w2.alloc (.cells #[.int .i64 t.kind,.string (bstr t.text),.int .u64 t.value,.int .i64 t.at_] 147)).alloc (.cells #[.int .i64 t.kind,.string (bstr t.text),.int .u64 t.value,.int .i64 t.at_] 147)).grownBy w3 v.ownBlock):
    w3.ownsRow (w1.heap.size+1) 147 4 v' (ts++[t]).length (rowOf (ts++[t]))/\Table w3 w1.heap.size/\Below w.heap.size w w3/\w1.heap.size+1<=w3.heap.size/\w3.cell? ⟨w2.heap.size,1,none⟩=some (.string (bstr t.text)):=by
 have hz2:=hg2.size
 have hz3:=hg3.size
 have hlt:=hown.lt
 have hown2:((w2.alloc (.cells #[.int .i64 t.kind,.string (bstr t.text),.int .u64 t.value,.int .i64 t.at_] 147)).alloc (.cells #[.int .i64 t.kind,.string (bstr t.text),.int .u64 t.value,.int .i64 t.at_] 147)).ownsRow (w1.heap.size+1) 147 4 v ts.length (rowOf ts):=
    ((hown.kept hg2 (Or.inr (fun e=>by have:=(hlt _ e).1;omega))).alloc _).alloc _
 simp at hz3
 refine ⟨?_,?_,?_,by omega,?_⟩
 · rw [rowOf_snoc,List.length_append];exact hown3
 · exact ((hT2.step (World.grownBy_alloc _ _ none) (fun j hj=>by cases hj)).step (World.grownBy_alloc _ _ none) (fun j hj=>by cases hj)).step hg3 (own_type hown2)
 · have hz0:=hnx.size
   have b1:=hnx.grown hg2 hnx.size (fun k hk=>by cases hk;omega)
   have b2:=(b1.alloc (Nat.le_trans hz0 hz2) (.cells #[.int .i64 t.kind,.string (bstr t.text),.int .u64 t.value,.int .i64 t.at_] 147)).alloc (by simp;omega) (.cells #[.int .i64 t.kind,.string (bstr t.text),.int .u64 t.value,.int .i64 t.at_] 147)
   exact b2.grown hg3 (by simp;omega) (fun k hk=>by have:=(hlt k hk).1;omega)
 · refine hg3.cell (a:=⟨w2.heap.size,1,none⟩) ?_ (fun e=>?_)
   · rw [World.cell?_alloc_lt _ _ ⟨w2.heap.size,1,none⟩ (by simp)];simp
   · have:=(hlt _ e.symm).2;simp only at this;omega
theorem cut_short (s:ByteArray) (w:World) (hs:s.size<=65536) (hV:Vars w):
    Calls Tryz.prog 28 #[.string s] w fun e w'=>CutPost w.heap.size (cutTok (bys s)) e w'/\Below w.heap.size w w':=by
 have h2:=hV.lt
 obtain ⟨m0,hm0⟩:∃ m,0+blanks false ((bys s).drop 0)=m:=⟨_,rfl⟩
 have hm0s:m0<=s.size:=by have:=blanks_le false ((bys s).drop 0);rw [List.length_drop,bys_length] at this;omega
 have HM0:Hid (0+blanks false ((bys s).drop 0)=m0):=hm0
 have HC0:Hid (cutTok (bys s)=(goTok ((bys s).length+1) ((bys s).drop m0) m0).pre []):=by
    show _=_
    have e:blanks false (bys s)=m0:=by rw [<- hm0];simp
    rw [Res.pre_nil,cutTok,e]
 clear hm0
 go_enter Tryz.func28,Tryz.ntmps28
 go_wp2_with (first | (go_at_call 52;refine (clone_any s _ (by omega)).mono ?_;rintro e w1 ⟨rfl,hb1⟩) | (go_at_call 53;refine (lexSkip_at s 0 m0 _ hs (by omega) HM0).mono ?_;rintro e w' ⟨rfl,rfl⟩))
 have hs1:=hb1.size
 go_loopw [5,6] (fun v i wr=>∃ (k f:Nat) (ts:List Tok),k<=s.size/\i=.int .i64 k/\wr.ownsRow (w1.heap.size+1) 147 4 v ts.length (rowOf ts)/\Table wr w1.heap.size/\Below w.heap.size w wr/\ts.length<=k/\w1.heap.size+1<=wr.heap.size /\
  Hid ((bys s).length-k<f/\cutTok (bys s)=(goTok f ((bys s).drop k) k).pre ts))
    (fun _ i _=>s.size-(intOf i).toNat)
 case atStart=>
    refine ⟨m0,(bys s).length+1,[],hm0s,rfl,World.ownsRow_nil _ _ _ _,Or.inl (heap_alloc_new w1 _),hb1.alloc hs1 _,by simp,by simp,by omega,HC0.out⟩
 case round=>
    obtain ⟨k,f,ts,hk,rfl,hown,hT,hnx,htl,hsz,HH⟩:=hrel
    have hVr:=hV.grown hnx h2
    clear HM0 HC0
    by_cases hlt:k<s.size
    · cases hr:readTok ((bys s).drop k) k with
      | none=>
        have HR:Hid (readTok ((bys s).drop k) k=none):=hr
        clear hr
        go_wp2_with (first | (go_at_call 54;refine (read_none s k w1.heap.size _ hs hlt hVr hT HR).mono ?_;rintro e w2 ⟨rfl,hT2,hg2⟩) | (go_at_call 42;refine (wrap_any _ _ _).mono ?_;rintro e w' ⟨rfl,rfl⟩))
        go_ret2
        have hz2:=hg2.size
        have b1:=hnx.grown hg2 hnx.size (fun k hk=>by cases hk;exact hs1)
        have b2:=(b1.alloc (Nat.le_trans hnx.size hz2) (.cells #[.int .i64 0,.string ⟨#[]⟩,.int .u64 0,.int .i64 0] 147)).alloc (by simp;have:=hnx.size;omega) (.cells #[.int .i64 (k:Int),.iface 65 (.int .i64 1)] 127)
        obtain ⟨hf,hcut⟩:=HH.out
        obtain ⟨f',rfl⟩:∃ f',f=f'+1:=⟨f-1,by omega⟩
        have hne:(bys s).drop k≠[]:=by rw [drop_cons s k hlt];simp
        rw [hcut,goTok_none hne HR.out]
        refine ⟨⟨_,rfl,?_,?_⟩,b2⟩
        · have:=hnx.size;omega
        · have:=heap_alloc_new (w2.alloc (.cells #[.int .i64 0,.string ⟨#[]⟩,.int .u64 0,.int .i64 0] 147)) (.cells #[.int .i64 (k:Int),.iface 65 (.int .i64 1)] 127)
          simpa using this
      | some t=>
        have HR:Hid (readTok ((bys s).drop k) k=some t):=hr
        obtain ⟨n,hn⟩:∃ n,t.text.length=n:=⟨_,rfl⟩
        obtain ⟨m,hm⟩:∃ m,k+n+blanks false ((bys s).drop (k+n))=m:=⟨_,rfl⟩
        have hnn:0<n/\k+n<=s.size:=by
          obtain ⟨n',_,h1,h2,h3,_⟩:=readTok_some hr
          rw [List.length_drop,bys_length] at h2
          omega
        obtain ⟨hn0,hkn⟩:=hnn
        have hms:m<=s.size:=by have:=blanks_le false ((bys s).drop (k+n));rw [List.length_drop,bys_length] at this;omega
        have HX:Hid (∃ f',(bys s).length-m<f'/\cutTok (bys s)=(goTok f' ((bys s).drop m) m).pre (ts++[t])):=next_round (by rw [bys_length];exact hlt) HH.out.1 HH.out.2 hr hn hm
        have HM:Hid (k+n+blanks false ((bys s).drop (k+n))=m):=hm
        have hbn:(bstr t.text).size=n:=by rw [bstr_size,hn]
        have hkm:k<m:=by omega
        clear hr hn hm HH
        go_wp2_with (first | (go_at_call 54;refine (read_some s k w1.heap.size t _ hs hlt hVr hT HR).mono ?_;rintro e w2 ⟨rfl,hT2,hg2⟩;have hz2:=hg2.size;have hown2:=(hown.kept hg2 (Or.inr (fun e=>by have:=(hown.lt _ e).1;omega))).alloc (.cells #[.int .i64 t.kind,.string (bstr t.text),.int .u64 t.value,.int .i64 t.at_] 147)) | (at_builtin;refine append_tok _ _ _ _ _ rfl _ _ rfl (w1.heap.size+1) _ _ _ rfl hown2 _ rfl (by simp) rfl rfl rfl rfl (by omega) (by simp;omega) ?_;intro v' w3 hown3 hg3;obtain ⟨R1,R2,R3,R4,c1⟩:=round_rel hs1 hsz hown hnx hT2 hg2 hown3 hg3) | (go_at_call 53;refine (lexSkip_plus s k n m _ hs hkn HM).mono ?_;rintro e w' ⟨rfl,rfl⟩))
        go_roundw
        case rel=>
          obtain ⟨f',hf',hcut'⟩:=HX.out
          exact ⟨m,f',ts++[t],hms,rfl,R1,R2,R3,by simp;omega,R4,hf',hcut'⟩
        case measure=>simp [intOf];omega
    · obtain rfl:k=s.size:=by omega
      go_wp2_with (at_builtin;refine append_tok _ _ _ _ _ rfl _ _ rfl (w1.heap.size+1) _ _ _ rfl hown _ rfl rfl rfl rfl rfl rfl (by omega) hsz ?_;intro v' w3 hown3 hg3)
      go_ret2
      obtain ⟨hf,hcut⟩:=HH.out
      obtain ⟨f',rfl⟩:∃ f',f=f'+1:=⟨f-1,by omega⟩
      rw [hcut,drop_all s s.size (by omega),goTok_nil]
      refine ⟨⟨_,rfl,owns_base (b:=w1.heap.size+1) ?_ (by omega)⟩,?_⟩
      · rw [rowOf_snoc,List.length_append];exact hown3
      · exact (hnx.alloc hnx.size _).grown hg3 (by simp;have:=hnx.size;omega) (fun k hk=>by have:=(hown.lt k hk).1;omega)
theorem cut_any (s:ByteArray) (w:World) (hm:s.size<=maxLen) (hV:Vars w):
    Calls Tryz.prog 28 #[.string s] w fun e w'=>CutPost w.heap.size (cutAll (bys s)) e w'/\Below w.heap.size w w':=by
 unfold cutAll
 rw [bys_length]
 split
 · exact cut_long s w ‹_› hm
 · exact cut_short s w (by omega) hV
def Row (w:World) (g:Nat) (ts:List Tok):Prop:=
 ∀ i t,ts[i]?=some t->w.cell? ⟨g,i*4,none⟩=some (.int .i64 t.kind)/\w.cell? ⟨g,i*4+1,none⟩=some (.string (bstr t.text))/\w.cell? ⟨g,i*4+2,none⟩=some (.int .u64 t.value)/\w.cell? ⟨g,i*4+3,none⟩=some (.int .i64 t.at_)
theorem Row.below {w w':World} {B g:Nat} {ts:List Tok} (h:Row w g ts) (hb:Below B w w') (hg:g<B):Row w' g ts:=fun i t ht=>by
 obtain ⟨a,b,c,d⟩:=h i t ht
 exact ⟨(hb.cell (p:=⟨g,_,none⟩) hg).trans a,(hb.cell (p:=⟨g,_,none⟩) hg).trans b,(hb.cell (p:=⟨g,_,none⟩) hg).trans c,(hb.cell (p:=⟨g,_,none⟩) hg).trans d⟩
theorem rowOf_get:∀ (ts:List Tok) (i:Nat) (t:Tok),ts[i]?=some t->∀ j,j<4->(rowOf ts)[i*4+j]?=t.cells[j]?
 | [],i,t,h,j,hj=>by simp at h
 | a :: ts,0,t,h,j,hj=>by
   simp at h;subst h
   have:j<a.cells.length:=by simpa [Tok.cells] using hj
   simp [rowOf,List.getElem?_append_left this]
 | a :: ts,i+1,t,h,j,hj=>by
   have h':ts[i]?=some t:=by simpa using h
   have e:(rowOf (a :: ts))[(i+1)*4+j]?=(rowOf ts)[i*4+j]?:=by
     have:rowOf (a :: ts)=a.cells++rowOf ts:=by simp [rowOf]
     rw [this,List.getElem?_append_right (by simp [Tok.cells];omega)]
     congr 1
     simp [Tok.cells];omega
   rw [e]
   exact rowOf_get ts i t h' j hj
theorem goTok_ne:∀ (f:Nat) (l:List UInt8) (k:Nat) (ts:List Tok),goTok f l k=.ok ts->ts≠[]
 | 0,_,_,_,h=>by simp [goTok] at h
 | f+1,[],k,ts,h=>by rw [goTok_nil] at h;cases h;simp
 | f+1,c :: r,k,ts,h=>by
   cases hr:readTok (c :: r) k with
   | none=>rw [goTok_none (by simp) hr] at h;cases h
   | some t=>
     rw [goTok_some hr] at h
     generalize goTok f _ _=q at h
     cases q with
     | ok us=>simp only [Res.pre] at h;cases h;simp
     | error p=>simp only [Res.pre] at h;cases h
theorem cutAll_ne {l:List UInt8} {ts:List Tok} (h:cutAll l=.ok ts):ts≠[]:=by
 unfold cutAll at h
 split at h
 · cases h
 · exact goTok_ne _ _ _ _ h
theorem goTok_len:∀ (f:Nat) (l:List UInt8) (k:Nat) (ts:List Tok),goTok f l k=.ok ts->ts.length<=l.length+1
 | 0,_,_,_,h=>by simp [goTok] at h
 | f+1,[],k,ts,h=>by rw [goTok_nil] at h;cases h;simp
 | f+1,c :: r,k,ts,h=>by
   cases hr:readTok (c :: r) k with
   | none=>rw [goTok_none (by simp) hr] at h;cases h
   | some t=>
     obtain ⟨n,_,h1,h2,h3,_⟩:=readTok_some hr
     rw [goTok_some hr] at h
     generalize hq:goTok f _ _=q at h
     cases q with
     | ok us=>
       have:=goTok_len f _ _ us hq
       simp only [Res.pre] at h;cases h
       simp only [List.length_drop,List.length_cons,List.length_append,List.length_nil] at *
       omega
     | error p=>simp only [Res.pre] at h;cases h
theorem cutAll_len {l:List UInt8} {ts:List Tok} (h:cutAll l=.ok ts):ts.length<=65537/\ts.length<=l.length+1:=by
 unfold cutAll at h
 split at h
 · cases h
 · have:=goTok_len _ _ _ _ h
   simp only [List.length_drop] at this
   omega
theorem cut_ok (s:ByteArray) (ts:List Tok) (w:World) (hm:s.size<=maxLen) (hV:Vars w) (h:Hid (cutAll (bys s)=.ok ts)):
    Calls Tryz.prog 28 #[.string s] w fun e w'=>∃ g cap,e=.returned (.tuple #[.slice (some ⟨g,0,none⟩) ts.length cap,.nilIface])/\Row w' g ts/\w.heap.size<=g/\g<w'.heap.size/\ts.length<=cap/\(∀ j,w'.frozen? ⟨g,j,none⟩=false)/\Below w.heap.size w w':=by
 have hc:=cut_any s w hm hV
 rw [h.out] at hc
 refine hc.mono ?_
 rintro e w' ⟨⟨v,rfl,hown⟩,hb⟩
 have hown0:=hown
 obtain ⟨_,h2⟩:=hown
 rcases h2 with ⟨_,h0⟩ | ⟨g,cap,cur,rfl,hg,hh,hn,hcap,hsz,htake⟩
 · exact absurd (List.length_eq_zero_iff.1 h0) (cutAll_ne h.out)
 · refine ⟨g,cap,rfl,fun i t ht=>?_,hg,lt_of_block hh,hn,fun j=>by simp [World.frozen?,hh],hb⟩
   have hi:i<ts.length:=by
    rcases Nat.lt_or_ge i ts.length with h' | h'
    · exact h'
    · rw [List.getElem?_eq_none h'] at ht;cases ht
   have key:∀ j,j<4->w'.cell? ⟨g,i*4+j,none⟩=t.cells[j]?:=fun j hj=>by
    rw [hown0.cellAt (i*4+j) (by omega),rowOf_get ts i t ht j hj]
   exact ⟨key 0 (by omega),key 1 (by omega),key 2 (by omega),key 3 (by omega)⟩
theorem cut_err (s:ByteArray) (n p:Nat) (w:World) (hm:s.size<=maxLen) (hV:Vars w) (h:Hid (cutAll (bys s)=.err n p)):
    Calls Tryz.prog 28 #[.string s] w fun e w'=>∃ fb,e=.returned (.tuple #[.slice none 0 0,.iface 124 (.pointer (some ⟨fb,0,none⟩))])/\w.heap.size<=fb/\w'.heap[fb]?=some (.cells #[.int .i64 (p:Int),.iface 65 (.int .i64 (n:Int))] 127 (0,0))/\Below w.heap.size w w':=by
 have hc:=cut_any s w hm hV
 rw [h.out] at hc
 refine hc.mono ?_
 rintro e w' ⟨⟨fb,rfl,h1,h2⟩,hb⟩
 exact ⟨fb,rfl,h1,h2,hb⟩
end Go.Proofs.YtlepckjmdjjolaaGreatDoor.Lx
