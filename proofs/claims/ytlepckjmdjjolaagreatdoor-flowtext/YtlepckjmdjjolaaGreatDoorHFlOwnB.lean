/- What the statements' own bound answers, when it is called. Conditions: the scope, and the expression, lie in memory as their plain data say; counters have some rounds, and not too many. -/
import Derived.Test.YtlepckjmdjjolaaGreatDoorGFlA
set_option maxHeartbeats 4000000
set_option maxRecDepth 100000
namespace Go.Proofs.YtlepckjmdjjolaaGreatDoor.Fl
open Go.ChangeShapes Go.WideShapes Go.ChangeAt Go.RowKit
open Sc (Mng mnone put localM putAll Dc declM bad meansOf firstBad none0 ScAt KeepX)
set_option linter.unusedVariables false
set_option linter.unusedSimpArgs false
def okB (f:ByteArray->Mng):Prop:=∀ s,(f s).kind=5->(f s).count<=1073741825
def OwnC (n:Nat):Prop:=∀ (B bs k:Nat) (st:St) (v:Value) (e:Tree) (w:World),ScAt (· < B) bs k st.f st.ls w->okF st.f->okB st.f->ERep 0 w.heap.size w n v e->nmE n e ->
 Calls Tryz.prog 20 #[.pointer (some ⟨bs,0,none⟩),v] w fun ed w'=>ed=.returned (.int .i64 (boundP st.f n e))/\Below w.heap.size w w'
theorem own_succ {n:Nat} (ih:OwnC n):OwnC (n+1):=fun B bs k st v e w hS hf hfb hE hn=>by
 obtain ⟨hv,kv,rfl,hK⟩:=hE
 have HK:=Lib.hid hK
 obtain ⟨ka,kc,rfl,hl,_⟩:=hK
 have hb1:∀ o,Below w.heap.size w (w.alloc o):=fun o=>(Below.refl _ _).alloc (Nat.le_refl _) o
 obtain ⟨K,hKd⟩:∃ K,e.kind=K:=⟨_,rfl⟩
 by_cases h0:K=0
 · subst h0
   rw [bound_lit hKd,hKd]
   clear hS HK hKd
   by_cases hlt:e.value<1073741824
   · have hd:decide ((e.value:Int)<1073741824)=true:=by simp;omega
     go_enter Tryz.func20,Tryz.ntmps20
     go_wp2
     go_ret
     exact ⟨ret_int (by omega),hb1 _⟩
   · have hd:decide ((e.value:Int)<1073741824)=false:=by simp;omega
     go_enter Tryz.func20,Tryz.ntmps20
     go_wp2
     go_ret
     exact ⟨ret_int (by omega),hb1 _⟩
 by_cases h1:K=1
 · subst h1
   have PF:=fun o=>Sc.find_any (hS.below (hb1 o)) e.name (nm_le hn.1)
   have hcnt:=hf e.name
   have hcnb:=hfb e.name
   by_cases h5:(st.f e.name).kind=5
   · rw [bound_round hKd h5,hKd]
     obtain ⟨c0,c1⟩:=hcnt h5
     have c2:=hcnb h5
     clear hcnt hcnb hf hfb hS HK hKd hn
     generalize st.f e.name=m at *
     obtain ⟨mk,ml,mc,mb⟩:=m
     simp only at h5 c0 c1 c2 PF ⊢
     subst h5
     go_enter Tryz.func20,Tryz.ntmps20
     go_wp2_with (go_at_call 45;refine (PF _).mono ?_;rintro ed w1 ⟨rfl,hb2⟩)
     go_ret
     exact ⟨ret_int (by omega),(hb1 _).trans (hb2.mono (by rw [alloc_size];omega))⟩
   · rw [bound_name hKd h5,hKd]
     have HX:=fun (o:Obj) w1 (hb2:Below (w.alloc o).heap.size (w.alloc o) w1) (hx:o=.cells #[.int .i64 1,.int .i64 e.op,.string e.name,.int .u64 e.value,.slice ka e.kids.length kc,.int .i64 e.at_] 50)=>six_cells (keep hb2 (show (w.alloc o).heap[w.heap.size]?=some (.cells #[.int .i64 1,.int .i64 e.op,.string e.name,.int .u64 e.value,.slice ka e.kids.length kc,.int .i64 e.at_] 50 (0,0)) from hx ▸ heap_alloc_new _ _))
     clear hcnt hcnb hf hfb hS HK hKd hn
     generalize st.f e.name=m at *
     obtain ⟨mk,ml,mc,mb⟩:=m
     simp only at h5 PF ⊢
     go_enter Tryz.func20,Tryz.ntmps20
     go_wp2_with (go_at_call 45;refine (PF _).mono ?_;rintro ed w1 ⟨rfl,hb2⟩;obtain ⟨r0,r1,r2,r3,r4,r5⟩:=HX _ _ hb2 rfl)
     go_ret
     exact ⟨rfl,(hb1 _).trans (hb2.mono (by rw [alloc_size];omega))⟩
 by_cases h3:K=3
 · subst h3
   by_cases h2:e.kids.length=2
   · obtain ⟨ta,tb,hab⟩:∃ a b,e.kids=[a,b]:=by
        match hk:e.kids,h2 with
        | [a,b],_=>exact ⟨a,b,rfl⟩
     rw [bound_bin hKd hab,hKd]
     obtain ⟨_,_,er,_,hKr⟩:=HK.out
     cases er
     obtain ⟨g,off,x0,x1,x2,x3,x4,x5,rfl,_,hg,_,i0,i1,i2,i3,i4,i5,ra⟩:=hKr 0 ta (by rw [hab];rfl)
     obtain ⟨g',off',y0,y1,y2,y3,y4,y5,eg,_,_,_,j0,j1,j2,j3,j4,j5,rb⟩:=hKr 1 tb (by rw [hab];rfl)
     simp only [Option.some.injEq,Addr.mk.injEq,and_true] at eg
     obtain ⟨rfl,rfl⟩:=eg
     have Ra:=Lib.hid ra
     have Rb:=Lib.hid rb
     cases n with
     | zero=>exact ra.elim
     | succ n=>
     obtain ⟨_,_,hva,ka,ca,rfl,_,_⟩:=ra
     simp only [Value.agg.injEq,Array.mk.injEq,List.cons.injEq,and_true] at hva
     obtain ⟨rfl,rfl,rfl,rfl,rfl,rfl⟩:=hva
     obtain ⟨_,_,hvb,kb,cb,rfl,_,_⟩:=rb
     simp only [Value.agg.injEq,Array.mk.injEq,List.cons.injEq,and_true] at hvb
     obtain ⟨rfl,rfl,rfl,rfl,rfl,rfl⟩:=hvb
     simp only [Nat.zero_mul,Nat.add_zero,Nat.one_mul] at i0 i1 i2 i3 i4 i5 j0 j1 j2 j3 j4 j5
     have CA:=fun wr (hb:Below w.heap.size w wr)=>ih B bs k st _ ta wr (hS.below hb) hf hfb (Ra.out.mono hb.size hb) (hn.2 ta (by rw [hab];simp))
     have CB:=fun wr (hb:Below w.heap.size w wr)=>ih B bs k st _ tb wr (hS.below hb) hf hfb (Rb.out.mono hb.size hb) (hn.2 tb (by rw [hab];simp))
     have rga:=bound_rng hf (n+1) ta
     have rgb:=bound_rng hf (n+1) tb
     generalize boundP st.f (n+1) ta=pa at CA rga ⊢
     generalize boundP st.f (n+1) tb=pb at CB rgb ⊢
     have hm:=mul_rng rga rgb
     obtain ⟨ra0,ra1⟩:=rga
     obtain ⟨rb0,rb1⟩:=rgb
     obtain ⟨hm0,hm1⟩:=hm
     rw [h2]
     obtain ⟨o,ho⟩:∃ o,o=e.op:=⟨_,rfl⟩
     rw [<- ho]
     clear hS HK hKr Ra Rb hl hab hKd ho hf hfb hn h0 h1
     go_enter Tryz.func20,Tryz.ntmps20
     go_wp2
     obtain ⟨W,hW⟩:∃ W,W=w.alloc (.cells #[.int .i64 3,.int .i64 o,.string e.name,.int .u64 e.value,.slice (some ⟨g,off,none⟩) 2 kc,.int .i64 e.at_] 50):=⟨_,rfl⟩
     have hhW:W.heap[w.heap.size]?=some (.cells #[.int .i64 3,.int .i64 o,.string e.name,.int .u64 e.value,.slice (some ⟨g,off,none⟩) 2 kc,.int .i64 e.at_] 50 (0,0)):=by rw [hW];exact heap_alloc_new _ _
     have hbW:Below w.heap.size w W:=by rw [hW];exact hb1 _
     rw [<- hW]
     clear hW
     have hgW:g<W.heap.size:=by have:=hbW.size;omega
     have ii:=fun {o:Nat} {u:Value} (h:w.cell? ⟨g,o,none⟩=some u)=>(hbW.cell (p:=⟨g,o,none⟩) hg).trans h
     replace i0:=ii i0
     replace i1:=ii i1
     replace i2:=ii i2
     replace i3:=ii i3
     replace i4:=ii i4
     replace i5:=ii i5
     replace j0:=ii j0
     replace j1:=ii j1
     replace j2:=ii j2
     replace j3:=ii j3
     replace j4:=ii j4
     replace j5:=ii j5
     have PA:=fun wr (hb:Below W.heap.size W wr)=>CA wr (hbW.trans (hb.mono hbW.size))
     have PB:=fun wr (hb:Below W.heap.size W wr)=>CB wr (hbW.trans (hb.mono hbW.size))
     clear CA CB ii
     refine wp_region_mono (by kernel_rfl) (by kernel_rfl) (by kernel_rfl) (by kernel_rfl) (by kernel_rfl) (fun (i:Nat) (v:Value) (wv:World)=>match i with | 0=>v=.pointer (some ⟨bs,0,none⟩) | 1=>v=.pointer (some ⟨w.heap.size,4,none⟩) | 2=>v=.slice (some ⟨g,off,none⟩) 2 kc | 3=>v=.pointer (some ⟨g,off,none⟩) | 4=>v=.agg #[.int .i64 ta.kind,.int .i64 ta.op,.string ta.name,.int .u64 ta.value,.slice ka ta.kids.length ca,.int .i64 ta.at_] | 5=>v=.int .i64 pa | 6=>v=.pointer (some ⟨bs,0,none⟩) | 7=>v=.pointer (some ⟨w.heap.size,4,none⟩) | 8=>v=.slice (some ⟨g,off,none⟩) 2 kc | 9=>v=.pointer (some ⟨g,off+6,none⟩) | 10=>v=.agg #[.int .i64 tb.kind,.int .i64 tb.op,.string tb.name,.int .u64 tb.value,.slice kb tb.kids.length cb,.int .i64 tb.at_] | 11=>v=.int .i64 pb | 12=>v=.int .i64 pa | 13=>v=.int .i64 pb | _=>True) ?_ [] (by kernel_rfl) ?_ ?_ ?_
     · intro i v w w' hb h
       match i with
       | 0=>exact h
       | 1=>exact h
       | 2=>exact h
       | 3=>exact h
       | 4=>exact h
       | 5=>exact h
       | 6=>exact h
       | 7=>exact h
       | 8=>exact h
       | 9=>exact h
       | 10=>exact h
       | 11=>exact h
       | 12=>exact h
       | 13=>exact h
       | _+14=>trivial
     · intro p hp v w h
       cases hp
     · intro a wr i op hop hb hF hP K hK
       have s0:a.tmps[0]?.getD undef=.pointer (some ⟨bs,0,none⟩):=(hF 0 (by kernel_rfl)).trans rfl
       have s3:a.tmps[3]?.getD undef=.pointer (some ⟨w.heap.size,0,none⟩):=(hF 3 (by kernel_rfl)).trans rfl
       obtain ⟨p0,p1,p2,p3,p4,p5⟩:=six_cells (keep hb hhW)
       have a0:=(hb.cell (p:=⟨g,off,none⟩) hgW).trans i0
       have a1:=(hb.cell (p:=⟨g,off+1,none⟩) hgW).trans i1
       have a2:=(hb.cell (p:=⟨g,off+2,none⟩) hgW).trans i2
       have a3:=(hb.cell (p:=⟨g,off+3,none⟩) hgW).trans i3
       have a4:=(hb.cell (p:=⟨g,off+4,none⟩) hgW).trans i4
       have a5:=(hb.cell (p:=⟨g,off+5,none⟩) hgW).trans i5
       have b0:=(hb.cell (p:=⟨g,off+6,none⟩) hgW).trans j0
       have b1:=(hb.cell (p:=⟨g,off+6+1,none⟩) hgW).trans j1
       have b2:=(hb.cell (p:=⟨g,off+6+2,none⟩) hgW).trans j2
       have b3:=(hb.cell (p:=⟨g,off+6+3,none⟩) hgW).trans j3
       have b4:=(hb.cell (p:=⟨g,off+6+4,none⟩) hgW).trans j4
       have b5:=(hb.cell (p:=⟨g,off+6+5,none⟩) hgW).trans j5
       match i with
       | 0=>
         obtain rfl:=Option.some.inj hop
         go_simp
         exact hK _ _ (Below.refl _ _) fun _=>by first | rfl | exact wrap_val (by omega)
       | 1=>
         obtain rfl:=Option.some.inj hop
         go_simp
         exact hK _ _ (Below.refl _ _) fun _=>by first | rfl | exact wrap_val (by omega)
       | 2=>
         obtain rfl:=Option.some.inj hop
         have n1:a.tmps[48]?.getD undef=.pointer (some ⟨w.heap.size,4,none⟩):=hP 1 48 (by kernel_rfl) (by kernel_rfl)
         go_simp
         exact hK _ _ (Below.refl _ _) fun _=>by first | rfl | exact wrap_val (by omega)
       | 3=>
         obtain rfl:=Option.some.inj hop
         have n2:a.tmps[49]?.getD undef=.slice (some ⟨g,off,none⟩) 2 kc:=hP 2 49 (by kernel_rfl) (by kernel_rfl)
         go_simp
         exact hK _ _ (Below.refl _ _) fun _=>by first | rfl | exact wrap_val (by omega)
       | 4=>
         obtain rfl:=Option.some.inj hop
         have n3:a.tmps[50]?.getD undef=.pointer (some ⟨g,off,none⟩):=hP 3 50 (by kernel_rfl) (by kernel_rfl)
         go_simp
         exact hK _ _ (Below.refl _ _) fun _=>by first | rfl | exact wrap_val (by omega)
       | 5=>
         obtain rfl:=Option.some.inj hop
         have n0:a.tmps[47]?.getD undef=.pointer (some ⟨bs,0,none⟩):=hP 0 47 (by kernel_rfl) (by kernel_rfl)
         have n4:a.tmps[51]?.getD undef=.agg #[.int .i64 ta.kind,.int .i64 ta.op,.string ta.name,.int .u64 ta.value,.slice ka ta.kids.length ca,.int .i64 ta.at_]:=hP 4 51 (by kernel_rfl) (by kernel_rfl)
         go_simp
         go_at_call 20
         refine (PA wr hb).mono ?_
         rintro ed w1 ⟨rfl,hb1⟩
         go_simp
         exact hK _ _ hb1 fun _=>rfl
       | 6=>
         obtain rfl:=Option.some.inj hop
         go_simp
         exact hK _ _ (Below.refl _ _) fun _=>by first | rfl | exact wrap_val (by omega)
       | 7=>
         obtain rfl:=Option.some.inj hop
         go_simp
         exact hK _ _ (Below.refl _ _) fun _=>by first | rfl | exact wrap_val (by omega)
       | 8=>
         obtain rfl:=Option.some.inj hop
         have n7:a.tmps[54]?.getD undef=.pointer (some ⟨w.heap.size,4,none⟩):=hP 7 54 (by kernel_rfl) (by kernel_rfl)
         go_simp
         exact hK _ _ (Below.refl _ _) fun _=>by first | rfl | exact wrap_val (by omega)
       | 9=>
         obtain rfl:=Option.some.inj hop
         have n8:a.tmps[55]?.getD undef=.slice (some ⟨g,off,none⟩) 2 kc:=hP 8 55 (by kernel_rfl) (by kernel_rfl)
         go_simp
         exact hK _ _ (Below.refl _ _) fun _=>by first | rfl | exact wrap_val (by omega)
       | 10=>
         obtain rfl:=Option.some.inj hop
         have n9:a.tmps[56]?.getD undef=.pointer (some ⟨g,off+6,none⟩):=hP 9 56 (by kernel_rfl) (by kernel_rfl)
         go_simp
         exact hK _ _ (Below.refl _ _) fun _=>by first | rfl | exact wrap_val (by omega)
       | 11=>
         obtain rfl:=Option.some.inj hop
         have n6:a.tmps[53]?.getD undef=.pointer (some ⟨bs,0,none⟩):=hP 6 53 (by kernel_rfl) (by kernel_rfl)
         have n10:a.tmps[57]?.getD undef=.agg #[.int .i64 tb.kind,.int .i64 tb.op,.string tb.name,.int .u64 tb.value,.slice kb tb.kids.length cb,.int .i64 tb.at_]:=hP 10 57 (by kernel_rfl) (by kernel_rfl)
         go_simp
         go_at_call 20
         refine (PB wr hb).mono ?_
         rintro ed w1 ⟨rfl,hb1⟩
         go_simp
         exact hK _ _ hb1 fun _=>rfl
       | 12=>
         obtain rfl:=Option.some.inj hop
         have n5:a.tmps[52]?.getD undef=.int .i64 pa:=hP 5 52 (by kernel_rfl) (by kernel_rfl)
         go_simp
         exact hK _ _ (Below.refl _ _) fun _=>by first | rfl | exact wrap_val (by omega)
       | 13=>
         obtain rfl:=Option.some.inj hop
         have n11:a.tmps[58]?.getD undef=.int .i64 pb:=hP 11 58 (by kernel_rfl) (by kernel_rfl)
         go_simp
         exact hK _ _ (Below.refl _ _) fun _=>by first | rfl | exact wrap_val (by omega)
       | _+14=>simp at hop
     · intro V wz hbz hR
       have e12:V 12=.int .i64 pa:=hR 12 (by kernel_rfl)
       have e13:V 13=.int .i64 pb:=hR 13 (by kernel_rfl)
       clear hR PA PB
       refine at_all (prs [47,48,49,50,51,52,53,54,55,56,57,58,9,10] V) (fun t=>by kernel_rfl) ?_
       simp only [prs,List.zipIdx,List.map,List.foldl,Nat.zero_add,Nat.reduceAdd,List.setIfInBounds_toArray,List.set_cons_zero,List.set_cons_succ,e12,e13]
       have hhz:=keep hbz hhW
       have h0z:=hbW.trans (hbz.mono hbW.size)
       obtain ⟨r0,r1,r2,r3,r4,r5⟩:=six_cells hhz
       clear hhW hhz
       by_cases h3:o=3
       · subst h3
         go_wp2
         go_ret
         exact ⟨ret_int (by simp [bound2]),h0z⟩
       by_cases h0:o=0
       · subst h0
         go_wp2
         go_ret
         exact ⟨ret_int (by simp [bound2]),h0z⟩
       by_cases h2:o=2
       · subst h2
         go_wp2
         go_ret
         exact ⟨ret_int (by simp [bound2]),h0z⟩
       by_cases h8:o=8
       · subst h8
         go_wp2
         go_ret
         exact ⟨ret_int (by simp [bound2]),h0z⟩
       by_cases h9:o=9
       · subst h9
         go_wp2
         go_ret
         exact ⟨ret_int (by simp [bound2]),h0z⟩
       go_wp2
       go_ret
       exact ⟨ret_int (by simp [bound2,h3,h0,h2,h8,h9]),h0z⟩
   · rw [bound_else (by omega) (by omega) (.inr h2),hKd]
     have h2I:¬ (e.kids.length:Int)=2:=by omega
     clear hS HK hKd hf hfb hn
     go_enter Tryz.func20,Tryz.ntmps20
     go_wp2
     go_ret
     exact ⟨rfl,hb1 _⟩
 · rw [bound_else (by omega) (by omega) (.inl (by omega)),hKd]
   clear hS HK hKd hf hfb hn
   go_enter Tryz.func20,Tryz.ntmps20
   go_wp2
   go_ret
   exact ⟨rfl,hb1 _⟩
theorem own_all:∀ n,OwnC n
 | 0=>fun B bs k st v e w hS hf hfb hE hn=>hE.elim
 | n+1=>own_succ (own_all n)
end Go.Proofs.YtlepckjmdjjolaaGreatDoor.Fl
