/- Own texts laid together: FlSeen, FlAssign, FlStep, FlStmt, FlStore. Conditions: as each theorem says. -/
import Derived.Test.YtlepckjmdjjolaaGreatDoorGFlA
set_option maxHeartbeats 4000000
set_option maxRecDepth 100000
set_option linter.unusedVariables false
set_option linter.unusedSimpArgs false
namespace Go.Proofs.YtlepckjmdjjolaaGreatDoor.Fl
open Go.ChangeShapes Go.WideShapes Go.ChangeAt Go.RowKit
open Sc (Mng mnone put localM putAll Dc declM bad meansOf firstBad none0 ScAt KeepX)
def ErrR (w:World) (r:Except Er St) (ed:Ending) (w':World):Prop:=
 Below w.heap.size w w'/\match r with
 | .ok _=>ed=.returned .nilIface
 | .error x=>∃ fb,ed=.returned (faultV fb)/\FaultAt w' x.1 x.2 fb/\w.heap.size<=fb
theorem ErrR.on {w w1:World} {r:Except Er St} {ed:Ending} {w':World} (h:ErrR w1 r ed w') (hb:Below w.heap.size w w1):ErrR w r ed w':=by
 obtain ⟨h1,h2⟩:=h
 refine ⟨hb.trans (h1.mono hb.size),?_⟩
 cases r with
 | ok l=>exact h2
 | error x=>
   obtain ⟨fb,a,b,c⟩:=h2
   exact ⟨fb,a,b,Nat.le_trans hb.size c⟩
theorem ErrR.ret {w:World} {r:Except Er St} {ed:Ending} {w':World} (h:ErrR w r ed w'):∃ v,ed=.returned v:=by
 obtain ⟨h1,h2⟩:=h
 cases r with
 | ok l=>exact ⟨_,h2⟩
 | error x=>
   obtain ⟨fb,a,b,c⟩:=h2
   exact ⟨_,a⟩
theorem into_any (st:St) (s:Stm) (ea:Option Addr) (ec:Nat) (ba:Option Addr) (bc:Nat) (la:Option Addr) (lc:Nat) (l to:Int) (w:World):Calls Tryz.prog 132 #[sval s ea ec ba bc la lc,.int .i64 l,.int .i64 to] w (ErrR w (intoP st s l to)):=by
 unfold intoP
 by_cases h:l≠0/\to=0
 · rw [if_pos h]
   obtain ⟨h1,rfl⟩:=h
   exact (into_no s ea ec ba bc la lc l h1 w).mono fun _ _ h=>h
 · rw [if_neg h]
   exact (into_yes s ea ec ba bc la lc l to (by omega) w).mono fun _ _ h=>⟨h.2,h.1⟩
theorem two_below (w:World) (o o':Obj):Below w.heap.size w ((w.alloc o).alloc o'):=((Below.refl _ _).alloc (Nat.le_refl _) _).alloc (by rw [alloc_size];omega) _
theorem two_second (w:World) (o o':Obj):((w.alloc o).alloc o').heap[w.heap.size+1]?=some o':=by rw [alloc_at,alloc_size,if_pos rfl]
theorem two_first (w:World) (o o':Obj):((w.alloc o).alloc o').heap[w.heap.size]?=some o:=alloc_keep (heap_alloc_new _ _) _
theorem lock_any {B bs k:Nat} {st:St} {s:Stm} {ea ba la:Option Addr} {ec bc lc:Nat} {w:World} (hS:ScAt (· < B) bs k st.f st.ls w) (hns:s.name.size<=35184372088832):
    Calls Tryz.prog 133 #[.agg #[.pointer (some ⟨bs,0,none⟩)],sval s ea ec ba bc la lc] w (ErrR w (if (st.f s.name).kind=1 then .ok st else .error (3,s.at_))):=by
 have PF:=fun o o'=>Sc.find_any (hS.below (two_below w o o')) s.name (nm_le hns)
 have HM:=fun w=>mistake_any s ea ec ba bc la lc w
 unfold sval at HM ⊢
 clear hS hns
 generalize st.f s.name=m at *
 obtain ⟨mk,ml,mc,mb⟩:=m
 simp only at PF ⊢
 by_cases h:mk=1
 · rw [if_pos h]
   subst h
   go_enter Tryz.func133,Tryz.ntmps133
   go_wp2_with (go_at_call 45;refine (PF _ _).mono ?_;rintro ed w1 ⟨rfl,hb2⟩)
   go_returns
   exact ⟨((two_below w _ _).trans (hb2.mono (two_below w _ _).size)),rfl⟩
 · rw [if_neg h]
   go_enter Tryz.func133,Tryz.ntmps133
   go_wp2_with (first | (go_at_call 131;refine (HM _).mono ?_;rintro ed w2 ⟨hbl,fb,rfl,hfb,hzf⟩) | (go_at_call 45;refine (PF _ _).mono ?_;rintro ed w1 ⟨rfl,hb2⟩;obtain ⟨q0,q1,q2,q3,q4,q5,q6⟩:=stmt_cells (keep hb2 (two_second w _ _))))
   go_returns
   exact ErrR.on (r:=.error (3,s.at_)) ⟨hbl,fb,rfl,hfb,hzf⟩ ((two_below w _ _).trans (hb2.mono (two_below w _ _).size))
theorem output_any {m:Nat} {B bs k:Nat} {st:St} {s:Stm} {ea ba la:Option Addr} {ec bc lc:Nat} {w:World} (hS:ScAt (· < B) bs k st.f st.ls w) (hf:okF st.f) (hK:Kids 0 w.heap.size w (fun v' t'=>ERep 0 w.heap.size w m v' t') (.slice ea s.exprs.length ec) s.exprs) (hn:∀ e ∈ s.exprs,nmE m e):
    Calls Tryz.prog 134 #[.agg #[.pointer (some ⟨bs,0,none⟩)],sval s ea ec ba bc la lc] w (ErrR w (match valueP m st.f s with | .error x=>.error x | .ok l=>intoP st s l 0)):=by
 have PV:=fun o o'=>value_any (m:=m) (s:=s) (ea:=ea) (ba:=ba) (la:=la) (ec:=ec) (bc:=bc) (lc:=lc) (hS.below (two_below w o o')) hf (kids_later hK (two_below w o o')) hn
 obtain ⟨R,hR⟩:∃ R,valueP m st.f s=R:=⟨_,rfl⟩
 rw [hR] at PV ⊢
 clear hR
 cases R with
 | error x=>
   clear hS hf hK hn
   unfold sval at PV ⊢
   go_enter Tryz.func134,Tryz.ntmps134
   go_wp2_with (go_at_call 130;refine (PV _ _).mono ?_;rintro ed w1 ⟨hb2,fb,rfl,hfb,hzf⟩)
   go_returns
   exact ⟨((two_below w _ _).trans (hb2.mono (two_below w _ _).size)),fb,rfl,hfb,Nat.le_trans (two_below w _ _).size hzf⟩
 | ok l=>
   have PI:=fun w=>into_any st s ea ec ba bc la lc l 0 w
   clear hS hf hK hn
   show Calls _ _ _ _ (ErrR w (intoP st s l 0))
   obtain ⟨R2,hR2⟩:∃ R2,intoP st s l 0=R2:=⟨_,rfl⟩
   rw [hR2] at PI ⊢
   clear hR2
   unfold sval at PV PI ⊢
   go_enter Tryz.func134,Tryz.ntmps134
   go_wp2_with (first | (go_at_call 132;refine (PI _).mono ?_;rintro ed w2 hE;obtain ⟨v,rfl⟩:=hE.ret) | (go_at_call 130;refine (PV _ _).mono ?_;rintro ed w1 ⟨hb2,rfl⟩;obtain ⟨q0,q1,q2,q3,q4,q5,q6⟩:=stmt_cells (keep hb2 (two_second w _ _))))
   go_returns
   exact hE.on ((two_below w _ _).trans (hb2.mono (two_below w _ _).size))
theorem bump_any {m:Nat} {B bs k:Nat} {st:St} {s:Stm} {ea ba la:Option Addr} {ec bc lc:Nat} {w:World} (hS:ScAt (· < B) bs k st.f st.ls w) (hf:okF st.f) (hK:Kids 0 w.heap.size w (fun v' t'=>ERep 0 w.heap.size w m v' t') (.slice ea s.exprs.length ec) s.exprs) (hn:∀ e ∈ s.exprs,nmE m e) (hns:s.name.size<=35184372088832):
    Calls Tryz.prog 135 #[.agg #[.pointer (some ⟨bs,0,none⟩)],sval s ea ec ba bc la lc] w (ErrR w (match valueP m st.f s with | .error x=>.error x | .ok l=>if (st.f s.name).kind=2 then intoP st s l (st.f s.name).label else .error (3,s.at_))):=by
 have PV:=fun o o'=>value_any (m:=m) (s:=s) (ea:=ea) (ba:=ba) (la:=la) (ec:=ec) (bc:=bc) (lc:=lc) (hS.below (two_below w o o')) hf (kids_later hK (two_below w o o')) hn
 obtain ⟨R,hR⟩:∃ R,valueP m st.f s=R:=⟨_,rfl⟩
 rw [hR] at PV ⊢
 clear hR
 cases R with
 | error x=>
   clear hS hf hK hn
   unfold sval at PV ⊢
   go_enter Tryz.func135,Tryz.ntmps135
   go_wp2_with (go_at_call 130;refine (PV _ _).mono ?_;rintro ed w1 ⟨hb2,fb,rfl,hfb,hzf⟩)
   go_returns
   exact ⟨((two_below w _ _).trans (hb2.mono (two_below w _ _).size)),fb,rfl,hfb,Nat.le_trans (two_below w _ _).size hzf⟩
 | ok l=>
   have PF:=fun w1 (hb:Below w.heap.size w w1)=>Sc.find_any (hS.below hb) s.name (nm_le hns)
   have HM:=fun w=>mistake_any s ea ec ba bc la lc w
   have PI:=fun to w=>into_any st s ea ec ba bc la lc l to w
   clear hS hf hK hn hns
   show Calls _ _ _ _ (ErrR w (if (st.f s.name).kind=2 then intoP st s l (st.f s.name).label else .error (3,s.at_)))
   generalize st.f s.name=m at *
   obtain ⟨mk,ml,mc,mb⟩:=m
   simp only at PF ⊢
   by_cases h:mk=2
   · rw [if_pos h]
     subst h
     replace PI:=PI ml
     obtain ⟨R2,hR2⟩:∃ R2,intoP st s l ml=R2:=⟨_,rfl⟩
     rw [hR2] at PI ⊢
     clear hR2 HM
     unfold sval at PV PI ⊢
     go_enter Tryz.func135,Tryz.ntmps135
     go_wp2_with (first | (go_at_call 132;refine (PI _).mono ?_;rintro ed w3 hE;obtain ⟨v,rfl⟩:=hE.ret) | (go_at_call 130;refine (PV _ _).mono ?_;rintro ed w1 ⟨hb2,rfl⟩;obtain ⟨q0,q1,q2,q3,q4,q5,q6⟩:=stmt_cells (keep hb2 (two_second w _ _));have k0:=keep hb2 (two_first w _ _);have k1:w1.cell? ⟨w.heap.size,0,none⟩=some (.pointer (some ⟨bs,0,none⟩)):=(Lib.cell_of_heap k0 0).trans rfl;have hz1:=((two_below w _ _).trans (hb2.mono (two_below w _ _).size));have PF1:=PF w1 hz1) | (go_at_call 45;refine PF1.mono ?_;rintro ed w2 ⟨rfl,hb3⟩;have hz2:=hz1.trans (hb3.mono hz1.size);obtain ⟨r0,r1,r2,r3,r4,r5,r6⟩:=stmt_cells (keep hb3 (keep hb2 (two_second w _ _)))))
     go_returns
     exact hE.on hz2
   · rw [if_neg h]
     clear PI
     unfold sval at PV HM ⊢
     go_enter Tryz.func135,Tryz.ntmps135
     go_wp2_with (first | (go_at_call 131;refine (HM _).mono ?_;rintro ed w3 ⟨hbl,fb,rfl,hfb,hzf⟩) | (go_at_call 130;refine (PV _ _).mono ?_;rintro ed w1 ⟨hb2,rfl⟩;obtain ⟨q0,q1,q2,q3,q4,q5,q6⟩:=stmt_cells (keep hb2 (two_second w _ _));have k0:=keep hb2 (two_first w _ _);have k1:w1.cell? ⟨w.heap.size,0,none⟩=some (.pointer (some ⟨bs,0,none⟩)):=(Lib.cell_of_heap k0 0).trans rfl;have hz1:=((two_below w _ _).trans (hb2.mono (two_below w _ _).size));have PF1:=PF w1 hz1) | (go_at_call 45;refine PF1.mono ?_;rintro ed w2 ⟨rfl,hb3⟩;have hz2:=hz1.trans (hb3.mono hz1.size);obtain ⟨r0,r1,r2,r3,r4,r5,r6⟩:=stmt_cells (keep hb3 (keep hb2 (two_second w _ _)))))
     go_returns
     exact ErrR.on (r:=.error (3,s.at_)) ⟨hbl,fb,rfl,hfb,hzf⟩ hz2
theorem seen_any {m:Nat} {B bs k:Nat} {st:St} {s:Stm} {ea ba la:Option Addr} {ec bc lc:Nat} {w:World} (hS:ScAt (· < B) bs k st.f st.ls w) (hf:okF st.f) (hK:Kids 0 w.heap.size w (fun v' t'=>ERep 0 w.heap.size w m v' t') (.slice ea s.exprs.length ec) s.exprs) (hn:∀ e ∈ s.exprs,nmE m e) (hns:s.name.size<=35184372088832):
    Calls Tryz.prog 109 #[.agg #[.pointer (some ⟨bs,0,none⟩)],sval s ea ec ba bc la lc] w (ErrR w (seenP m st s)):=by
 have hb2:=fun o o'=>two_below w o o'
 have HL:=fun o o'=>lock_any (s:=s) (ea:=ea) (ba:=ba) (la:=la) (ec:=ec) (bc:=bc) (lc:=lc) (hS.below (hb2 o o')) hns
 have HO:=fun o o'=>output_any (m:=m) (s:=s) (ea:=ea) (ba:=ba) (la:=la) (ec:=ec) (bc:=bc) (lc:=lc) (hS.below (hb2 o o')) hf (kids_later hK (hb2 o o')) hn
 have HB:=fun o o'=>bump_any (m:=m) (s:=s) (ea:=ea) (ba:=ba) (la:=la) (ec:=ec) (bc:=bc) (lc:=lc) (hS.below (hb2 o o')) hf (kids_later hK (hb2 o o')) hn hns
 clear hS hf hK hn hns
 obtain ⟨RL,hL⟩:∃ R:Except Er St,(if (st.f s.name).kind=1 then .ok st else .error (3,s.at_))=R:=⟨_,rfl⟩
 obtain ⟨RO,hO⟩:∃ R:Except Er St,(match valueP m st.f s with | .error x=>.error x | .ok l=>intoP st s l 0)=R:=⟨_,rfl⟩
 obtain ⟨RB,hB⟩:∃ R:Except Er St,(match valueP m st.f s with | .error x=>.error x | .ok l=>if (st.f s.name).kind=2 then intoP st s l (st.f s.name).label else .error (3,s.at_))=R:=⟨_,rfl⟩
 have hR:seenP m st s=if s.kind=5\/s.kind=6 then RL else if s.kind=9 then RO else if s.kind=7 then RB else .ok st:=by
    rw [<- hL,<- hO,<- hB]
    rfl
 rw [hR]
 replace HL:∀ o o',Calls Tryz.prog 133 #[.agg #[.pointer (some ⟨bs,0,none⟩)],sval s ea ec ba bc la lc] ((w.alloc o).alloc o') (ErrR ((w.alloc o).alloc o') RL):=fun o o'=>hL ▸ HL o o'
 replace HO:∀ o o',Calls Tryz.prog 134 #[.agg #[.pointer (some ⟨bs,0,none⟩)],sval s ea ec ba bc la lc] ((w.alloc o).alloc o') (ErrR ((w.alloc o).alloc o') RO):=fun o o'=>hO ▸ HO o o'
 replace HB:∀ o o',Calls Tryz.prog 135 #[.agg #[.pointer (some ⟨bs,0,none⟩)],sval s ea ec ba bc la lc] ((w.alloc o).alloc o') (ErrR ((w.alloc o).alloc o') RB):=fun o o'=>hB ▸ HB o o'
 clear hL hO hB hR
 unfold sval at HL HO HB ⊢
 obtain ⟨sk,sn,sx,sc,sb,sl,sa⟩:=s
 simp only at HL HO HB ⊢
 by_cases h5:sk=5\/sk=6
 · rw [if_pos h5]
   clear HO HB
   rcases h5 with rfl | rfl
   all_goals
    go_enter Tryz.func109,Tryz.ntmps109
    go_wp2_with (go_at_call 133;refine (HL _ _).mono ?_;rintro ed w2 hE;obtain ⟨v,rfl⟩:=hE.ret)
    go_returns
    exact hE.on (hb2 _ _)
 · rw [if_neg h5]
   have n5:¬ sk=5:=fun e=>h5 (.inl e)
   have n6:¬ sk=6:=fun e=>h5 (.inr e)
   clear h5 HL
   by_cases h9:sk=9
   · rw [if_pos h9]
     subst h9
     clear HB
     go_enter Tryz.func109,Tryz.ntmps109
     go_wp2_with (go_at_call 134;refine (HO _ _).mono ?_;rintro ed w2 hE;obtain ⟨v,rfl⟩:=hE.ret)
     go_returns
     exact hE.on (hb2 _ _)
   · rw [if_neg h9]
     clear HO
     by_cases h7:sk=7
     · rw [if_pos h7]
       subst h7
       go_enter Tryz.func109,Tryz.ntmps109
       go_wp2_with (go_at_call 135;refine (HB _ _).mono ?_;rintro ed w2 hE;obtain ⟨v,rfl⟩:=hE.ret)
       go_returns
       exact hE.on (hb2 _ _)
     · rw [if_neg h7]
       clear HB
       go_enter Tryz.func109,Tryz.ntmps109
       go_wp2
       go_returns
       exact ⟨hb2 _ _,rfl⟩
def PairAt (w:World) (l pc:Int) (v:Value):Prop:=∃ gg,v=.slice (some ⟨gg,0,none⟩) 2 2/\gg<w.heap.size/\w.cell? ⟨gg,0,none⟩=some (.int .i64 l)/\w.cell? ⟨gg,1,none⟩=some (.int .i64 pc)
theorem PairAt.on {w w':World} {l pc:Int} {v:Value} (h:PairAt w l pc v) (hb:Below w.heap.size w w'):PairAt w' l pc v:=by
 obtain ⟨gg,a,b,c,d⟩:=h
 exact ⟨gg,a,Nat.lt_of_lt_of_le b hb.size,(hb.cell (p:=⟨gg,0,none⟩) b).trans c,(hb.cell (p:=⟨gg,1,none⟩) b).trans d⟩
theorem ErrR.later {w w1 w2:World} {r:Except Er St} {ed:Ending} (h:ErrR w r ed w1) (hb:Below w1.heap.size w1 w2):ErrR w r ed w2:=by
 obtain ⟨h1,h2⟩:=h
 refine ⟨h1.trans (hb.mono h1.size),?_⟩
 cases r with
 | ok l=>exact h2
 | error x=>
   obtain ⟨fb,a,b,c⟩:=h2
   exact ⟨fb,a,b.on hb,c⟩
theorem assign_any {m:Nat} {B bs k:Nat} {st:St} {s:Stm} {ea ba la:Option Addr} {ec bc lc:Nat} {w:World} {pc:Int} (hS:ScAt (· < B) bs k st.f st.ls w) (hf:okF st.f) (hK:Kids 0 w.heap.size w (fun v' t'=>ERep 0 w.heap.size w m v' t') (.slice ea s.exprs.length ec) s.exprs) (hn:∀ e ∈ s.exprs,nmE m e) (hns:s.name.size<=35184372088832):
    Calls Tryz.prog 104 #[.agg #[.pointer (some ⟨bs,0,none⟩)],sval s ea ec ba bc la lc,.int .i64 pc] w (ErrR w (assignP m st pc s)):=by
 have PV:=fun o o'=>value_any (m:=m) (s:=s) (ea:=ea) (ba:=ba) (la:=la) (ec:=ec) (bc:=bc) (lc:=lc) (hS.below (two_below w o o')) hf (kids_later hK (two_below w o o')) hn
 unfold assignP
 obtain ⟨R,hR⟩:∃ R,valueP m st.f s=R:=⟨_,rfl⟩
 rw [hR] at PV ⊢
 clear hR
 cases R with
 | error x=>
   clear hS hf hK hn
   unfold sval at PV ⊢
   go_enter Tryz.func104,Tryz.ntmps104
   go_wp2_with (go_at_call 130;refine (PV _ _).mono ?_;rintro ed w1 ⟨hb2,fb,rfl,hfb,hzf⟩)
   go_returns
   exact ⟨((two_below w _ _).trans (hb2.mono (two_below w _ _).size)),fb,rfl,hfb,Nat.le_trans (two_below w _ _).size hzf⟩
 | ok l=>
   have PF:=fun w1 (hb:Below w.heap.size w w1)=>Sc.find_any (hS.below hb) s.name (nm_le hns)
   have HM:=fun w=>mistake_any s ea ec ba bc la lc w
   have PI:=fun to w=>into_any st s ea ec ba bc la lc (joinI l pc) to w
   clear hS hf hK hn hns
   show Calls _ _ _ _ (ErrR w (if (st.f s.name).kind=4\/(st.f s.name).kind=2 then intoP st s (joinI l pc) (st.f s.name).label else .error (3,s.at_)))
   generalize st.f s.name=m at *
   obtain ⟨mk,ml,mc,mb⟩:=m
   simp only at PF ⊢
   by_cases h:mk=4\/mk=2
   · rw [if_pos h]
     replace PI:=PI ml
     obtain ⟨R2,hR2⟩:∃ R2,intoP st s (joinI l pc) ml=R2:=⟨_,rfl⟩
     rw [hR2] at PI ⊢
     clear hR2 HM
     unfold sval at PV PI ⊢
     rcases h with rfl | rfl
     all_goals
        go_enter Tryz.func104,Tryz.ntmps104
        go_wp2_with (first | (go_at_call 130;refine (PV _ _).mono ?_;rintro ed w1 ⟨hb2,rfl⟩;obtain ⟨q0,q1,q2,q3,q4,q5,q6⟩:=stmt_cells (keep hb2 (two_second w _ _));have k0:=keep hb2 (two_first w _ _);have k1:w1.cell? ⟨w.heap.size,0,none⟩=some (.pointer (some ⟨bs,0,none⟩)):=(Lib.cell_of_heap k0 0).trans rfl;have hz1:=((two_below w _ _).trans (hb2.mono (two_below w _ _).size));have PF1:=PF w1 hz1) | (go_at_call 45;refine PF1.mono ?_;rintro ed w2 ⟨rfl,hb3⟩;have hz2:=hz1.trans (hb3.mono hz1.size);have hH:=keep hb3 (keep hb2 (two_second w _ _));obtain ⟨r0,r1,r2,r3,r4,r5,r6⟩:=stmt_cells hH))
        refine wp_region_mono (by kernel_rfl) (by kernel_rfl) (by kernel_rfl) (by kernel_rfl) (by kernel_rfl) (fun (i:Nat) (v:Value) (wv:World)=>match i with | 0=>v=.agg #[.int .i64 s.kind,.string s.name,.slice ea s.exprs.length ec,.int .i64 s.count,.slice ba s.body.length bc,.slice la s.els.length lc,.int .i64 s.at_] | 1=>v=.int .i64 l | 2=>v=.int .i64 pc | 3=>PairAt wv l pc v | 4=>v=.int .i64 (joinI l pc) | 5=>v=.int .i64 ml | 6=>ErrR w2 R2 (.returned v) wv | 7=>ErrR w2 R2 (.returned v) wv | _=>True) ?_ [] (by kernel_rfl) ?_ ?_ ?_
        · intro i v w w' hb h
          match i with
          | 0=>exact h
          | 1=>exact h
          | 2=>exact h
          | 3=>exact PairAt.on h hb
          | 4=>exact h
          | 5=>exact h
          | 6=>exact ErrR.later h hb
          | 7=>exact ErrR.later h hb
          | _+8=>trivial
        · intro p hp v w h
          cases hp
        · intro a wr i op hop hb hF hP K hK
          have s2:a.tmps[2]?.getD undef=.int .i64 pc:=(hF 2 (by kernel_rfl)).trans rfl
          have s4:a.tmps[4]?.getD undef=.pointer (some ⟨w.heap.size+1,0,none⟩):=(hF 4 (by kernel_rfl)).trans rfl
          have s7:a.tmps[7]?.getD undef=.int .i64 l:=(hF 7 (by kernel_rfl)).trans rfl
          have s10:a.tmps[10]?.getD undef=.int .i64 ml:=(hF 10 (by kernel_rfl)).trans rfl
          obtain ⟨x0,x1,x2,x3,x4,x5,x6⟩:=stmt_cells (keep hb hH)
          match i with
          | 0=>
            obtain rfl:=Option.some.inj hop
            go_simp
            exact hK _ _ (Below.refl _ _) fun _=>by first | rfl | exact wrap_val (by omega)
          | 1=>
            obtain rfl:=Option.some.inj hop
            go_simp
            exact hK _ _ (Below.refl _ _) fun _=>by first | rfl | exact wrap_val (by omega)
          | 2=>
            obtain rfl:=Option.some.inj hop
            go_simp
            exact hK _ _ (Below.refl _ _) fun _=>by first | rfl | exact wrap_val (by omega)
          | 3=>
            obtain rfl:=Option.some.inj hop
            have n1:a.tmps[41]?.getD undef=.int .i64 l:=hP 1 41 (by kernel_rfl) (by kernel_rfl)
            have n2:a.tmps[42]?.getD undef=.int .i64 pc:=hP 2 42 (by kernel_rfl) (by kernel_rfl)
            go_simp
            exact hK _ _ ((Below.refl _ _).alloc (Nat.le_refl _) _) fun _=>⟨wr.heap.size,rfl,by rw [alloc_size];omega,by rw [Lib.cell_of_heap (heap_alloc_new _ _)];rfl,by rw [Lib.cell_of_heap (heap_alloc_new _ _)];rfl⟩
          | 4=>
            obtain rfl:=Option.some.inj hop
            obtain ⟨gg,n3,hgl,hg0,hg1⟩:PairAt wr l pc (a.tmps[43]?.getD undef):=(hP 3 43 (by kernel_rfl) (by kernel_rfl))
            go_simp
            go_at_call 72
            refine (join_two gg l pc wr hg0 hg1).mono ?_
            rintro ed w5 ⟨rfl,rfl⟩
            go_simp
            exact hK _ _ (Below.refl _ _) fun _=>by first | rfl | exact wrap_val (by omega)
          | 5=>
            obtain rfl:=Option.some.inj hop
            go_simp
            exact hK _ _ (Below.refl _ _) fun _=>by first | rfl | exact wrap_val (by omega)
          | 6=>
            obtain rfl:=Option.some.inj hop
            have n0:a.tmps[40]?.getD undef=.agg #[.int .i64 s.kind,.string s.name,.slice ea s.exprs.length ec,.int .i64 s.count,.slice ba s.body.length bc,.slice la s.els.length lc,.int .i64 s.at_]:=hP 0 40 (by kernel_rfl) (by kernel_rfl)
            have n4:a.tmps[44]?.getD undef=.int .i64 (joinI l pc):=hP 4 44 (by kernel_rfl) (by kernel_rfl)
            have n5:a.tmps[45]?.getD undef=.int .i64 ml:=hP 5 45 (by kernel_rfl) (by kernel_rfl)
            go_simp
            go_at_call 132
            refine (PI wr).mono ?_
            rintro ed w5 hE
            obtain ⟨u,rfl⟩:=hE.ret
            go_simp
            exact hK _ _ hE.1 fun _=>hE.on hb
          | 7=>
            obtain rfl:=Option.some.inj hop
            obtain ⟨u,n6,hE6⟩:∃ u,a.tmps[46]?.getD undef=u/\ErrR w2 R2 (.returned u) wr:=⟨_,rfl,(hP 6 46 (by kernel_rfl) (by kernel_rfl))⟩
            go_simp
            exact hK _ _ (Below.refl _ _) fun _=>hE6
          | _+8=>simp at hop
        · intro V wz hbz hR
          obtain ⟨u,e7,hE7⟩:∃ u,V 7=u/\ErrR w2 R2 (.returned u) wz:=⟨_,rfl,hR 7 (by kernel_rfl)⟩
          clear hR PI
          refine at_all (prs [40,41,42,43,44,45,46,6] V) (fun t=>by kernel_rfl) ?_
          simp only [prs,List.zipIdx,List.map,List.foldl,Nat.zero_add,Nat.reduceAdd,List.setIfInBounds_toArray,List.set_cons_zero,List.set_cons_succ,e7]
          go_wp2
          go_returns
          exact hE7.on hz2
   · rw [if_neg h]
     have h4:¬ mk=4:=fun e=>h (.inl e)
     have h2:¬ mk=2:=fun e=>h (.inr e)
     clear PI h
     unfold sval at PV HM ⊢
     go_enter Tryz.func104,Tryz.ntmps104
     go_wp2_with (first | (go_at_call 131;refine (HM _).mono ?_;rintro ed w3 ⟨hbl,fb,rfl,hfb,hzf⟩) | (go_at_call 130;refine (PV _ _).mono ?_;rintro ed w1 ⟨hb2,rfl⟩;obtain ⟨q0,q1,q2,q3,q4,q5,q6⟩:=stmt_cells (keep hb2 (two_second w _ _));have k0:=keep hb2 (two_first w _ _);have k1:w1.cell? ⟨w.heap.size,0,none⟩=some (.pointer (some ⟨bs,0,none⟩)):=(Lib.cell_of_heap k0 0).trans rfl;have hz1:=((two_below w _ _).trans (hb2.mono (two_below w _ _).size));have PF1:=PF w1 hz1) | (go_at_call 45;refine PF1.mono ?_;rintro ed w2 ⟨rfl,hb3⟩;have hz2:=hz1.trans (hb3.mono hz1.size);have hH:=keep hb3 (keep hb2 (two_second w _ _));obtain ⟨r0,r1,r2,r3,r4,r5,r6⟩:=stmt_cells hH))
     go_returns
     exact ErrR.on (r:=.error (3,s.at_)) ⟨hbl,fb,rfl,hfb,hzf⟩ hz2
     rename_i hx _ _
     rcases hx with hx | hx
     · simp [h4] at hx
     · simp [h2] at hx
def FlowX (X:Nat->Prop) (bs k:Nat) (w:World) (r:Except Er St) (e:Ending) (w':World):Prop:=
 KeepX X w w'/\match r with
 | .ok st=>e=.returned .nilIface/\ScAt X bs k st.f st.ls w'/\okF st.f/\st.ls.length<=k
 | .error x=>∃ fb f ls,e=.returned (faultV fb)/\FaultAt w' x.1 x.2 fb/\w.heap.size<=fb/\ScAt (fun j=>X j\/j=fb) bs k f ls w'/\ls.length<=k
theorem FlowX.ret {X:Nat->Prop} {bs k:Nat} {w:World} {r:Except Er St} {ed:Ending} {w':World} (h:FlowX X bs k w r ed w'):∃ v,ed=.returned v:=by
 obtain ⟨h1,h2⟩:=h
 cases r with
 | ok l=>exact ⟨_,h2.1⟩
 | error x=>
   obtain ⟨fb,f,ls,a,b⟩:=h2
   exact ⟨_,a⟩
theorem FlowX.to {X Y:Nat->Prop} {bs k:Nat} {w w3:World} {r:Except Er St} {ed:Ending} {w':World} (h:FlowX Y bs k w3 r ed w') (hk:KeepX X w w3) (hXY:∀ j,X j->Y j):FlowX X bs k w r ed w':=by
 obtain ⟨h1,h2⟩:=h
 refine ⟨hk.trans (h1.mono fun j _ h=>hXY j h),?_⟩
 cases r with
 | ok l=>
   obtain ⟨a,b,c,d⟩:=h2
   exact ⟨a,b.more fun j _ h=>hXY j h,c,d⟩
 | error x=>
   obtain ⟨fb,f,ls,a,b,c,d,e⟩:=h2
   exact ⟨fb,f,ls,a,b,Nat.le_trans hk.size c,d.more fun j _ h=>h.imp (hXY j) id,e⟩
theorem FlowX.more {X:Nat->Prop} {bs k k':Nat} {w:World} {r:Except Er St} {ed:Ending} {w':World} (h:FlowX X bs k w r ed w') (hk:k<=k'):FlowX X bs k' w r ed w':=by
 obtain ⟨h1,h2⟩:=h
 refine ⟨h1,?_⟩
 cases r with
 | ok l=>
   obtain ⟨a,b,c,d⟩:=h2
   exact ⟨a,b.mono hk,c,Nat.le_trans d hk⟩
 | error x=>
   obtain ⟨fb,f,ls,a,b,c,d,e⟩:=h2
   exact ⟨fb,f,ls,a,b,c,d.mono hk,Nat.le_trans e hk⟩
theorem ErrR.flow {X:Nat->Prop} {bs k:Nat} {st:St} {w w':World} {r:Except Er St} {ed:Ending} (hS:ScAt X bs k st.f st.ls w) (hf:okF st.f) (hl:st.ls.length<=k) (h:ErrR w r ed w') (hr:∀ st',r=.ok st'->st'=st):FlowX X bs k w r ed w':=by
 obtain ⟨h1,h2⟩:=h
 refine ⟨KeepX.of_below h1,?_⟩
 cases r with
 | ok st'=>
   obtain rfl:=hr st' rfl
   exact ⟨h2,hS.below h1,hf,hl⟩
 | error x=>
   obtain ⟨fb,a,b,c⟩:=h2
   exact ⟨fb,st.f,st.ls,a,b,c,(hS.more fun j hj hY=>hY.elim id fun e=>by omega).below h1,hl⟩
theorem into_st {st:St} {s:Stm} {l to:Int} : ∀ st',intoP st s l to=.ok st'->st'=st:=fun st' h=>by
 unfold intoP at h
 split at h
 · cases h
 · cases h;rfl
theorem assign_st {m:Nat} {st:St} {pc:Int} {s:Stm} : ∀ st',assignP m st pc s=.ok st'->st'=st:=fun st' h=>by
 unfold assignP at h
 split at h
 · cases h
 · split at h
   · exact into_st _ h
   · cases h
theorem store_st {m:Nat} {st:St} {pc:Int} {s:Stm} : ∀ st',storeP m st pc s=.ok st'->st'=st:=fun st' h=>by
 unfold storeP at h
 split at h
 · split at h
   · cases h
   · split at h
     · cases h
     · exact into_st _ h
 · cases h
theorem seen_st {m:Nat} {st:St} {s:Stm} : ∀ st',seenP m st s=.ok st'->st'=st:=fun st' h=>by
 unfold seenP at h
 split at h
 · split at h
   · cases h;rfl
   · cases h
 · split at h
   · split at h
     · cases h
     · exact into_st _ h
   · split at h
     · split at h
       · cases h
       · split at h
         · exact into_st _ h
         · cases h
     · cases h;rfl
def nmS (m:Nat):Nat->Stm->Prop
 | 0,_=>True
 | n+1,s=>(∀ e ∈ s.exprs,nmE m e)/\(∀ t ∈ s.body,nmS m n t)/\(∀ t ∈ s.els,nmS m n t)
def BlockC (m n:Nat):Prop:=∀ (X:Nat->Prop) (B bs k:Nat) (st:St) (pc:Int) (v:Value) (ss:List Stm) (w:World),ScAt X bs k st.f st.ls w->(∀ j,X j->j<w.heap.size)->(∀ j,j<B->X j)->okF st.f->st.ls.length<=k->k+tot (cntS n) ss<=900000 ->
 Stms 0 B w (fun v' s'=>SRep 0 B w m n v' s') v ss->(∀ s ∈ ss,nmS m n s) ->
 Calls Tryz.prog 40 #[.agg #[.pointer (some ⟨bs,0,none⟩)],v,.int .i64 pc] w (FlowX X bs (k+tot (cntS n) ss) w (blkP (stmtP m n) st pc ss))
theorem two_size (w:World) (o o':Obj):((w.alloc o).alloc o').heap.size=w.heap.size+2:=by rw [alloc_size,alloc_size]
theorem below_size {X:Nat->Prop} {B:Nat} {w:World} (hX:∀ j,X j->j<w.heap.size) (hXB:∀ j,j<B->X j):B<=w.heap.size:=by
 rcases Nat.lt_or_ge w.heap.size B with h | h
 · exact absurd (hX _ (hXB _ h)) (Nat.lt_irrefl _)
 · exact h
theorem choice_any {m n:Nat} (ih:BlockC m n) {X:Nat->Prop} {B bs k:Nat} {st:St} {s:Stm} {ea ba la:Option Addr} {ec bc lc:Nat} {pc:Int} {w:World} (hS:ScAt X bs k st.f st.ls w) (hX:∀ j,X j->j<w.heap.size) (hXB:∀ j,j<B->X j) (hf:okF st.f) (hl:st.ls.length<=k) (hk:k+tot (cntS n) s.body+tot (cntS n) s.els<=900000)
    (hE:Kids 0 B w (fun v' t'=>ERep 0 B w m v' t') (.slice ea s.exprs.length ec) s.exprs) (hbd:Stms 0 B w (fun v' s'=>SRep 0 B w m n v' s') (.slice ba s.body.length bc) s.body) (hel:Stms 0 B w (fun v' s'=>SRep 0 B w m n v' s') (.slice la s.els.length lc) s.els) (hnE:∀ e ∈ s.exprs,nmE m e) (hnb:∀ t ∈ s.body,nmS m n t) (hne:∀ t ∈ s.els,nmS m n t):
    Calls Tryz.prog 106 #[.agg #[.pointer (some ⟨bs,0,none⟩)],sval s ea ec ba bc la lc,.int .i64 pc] w (FlowX X bs (k+tot (cntS n) s.body+tot (cntS n) s.els) w (choiceP m (stmtP m n) st pc s)):=by
 have hB:=below_size hX hXB
 have hS0:ScAt (· < 0) bs k st.f st.ls w:=hS.more fun j _ h=>absurd h (Nat.not_lt_zero _)
 have hE0:Kids 0 w.heap.size w (fun v' t'=>ERep 0 w.heap.size w m v' t') (.slice ea s.exprs.length ec) s.exprs:=hE.carry (Nat.le_refl _) hB (Same35.refl _ _ _) fun _ _ h=>h.mono hB (Below.refl _ _)
 have PV:=fun o o'=>value_any (m:=m) (B:=0) (st:=st) (s:=s) (ea:=ea) (ba:=ba) (la:=la) (ec:=ec) (bc:=bc) (lc:=lc) (hS0.below (two_below w o o')) hf (kids_later hE0 (two_below w o o')) hnE
 unfold choiceP
 obtain ⟨R,hR⟩:∃ R,valueP m st.f s=R:=⟨_,rfl⟩
 rw [hR] at PV ⊢
 have HS:=Lib.hid hS
 have HL:=Lib.hid hl
 have HF:=Lib.hid hf
 clear hR hS0 hE0 hE
 cases R with
 | error x=>
   clear hS hX hXB hf hl hk hbd hel hnE hnb hne ih hB
   unfold sval at PV ⊢
   go_enter Tryz.func106,Tryz.ntmps106
   go_wp2_with (go_at_call 130;refine (PV _ _).mono ?_;rintro ed w1 ⟨hb2,fb,rfl,hfb,hzf⟩)
   go_returns
   exact (ErrR.flow (r:=.error x) HS.out HF.out HL.out ⟨((two_below w _ _).trans (hb2.mono (two_below w _ _).size)),fb,rfl,hfb,Nat.le_trans (two_below w _ _).size hzf⟩ (fun _ h=>by cases h)).more (by omega)
 | ok l=>
   obtain ⟨Y,hY⟩:∃ Y:Nat->Prop,Y=fun j=>X j\/j=w.heap.size\/j=w.heap.size+1:=⟨_,rfl⟩
   have hXY:∀ j,X j->Y j:=fun j h=>by rw [hY];exact .inl h
   have hY0:Y w.heap.size:=by rw [hY];exact .inr (.inl rfl)
   have hY1:Y (w.heap.size+1):=by rw [hY];exact .inr (.inr rfl)
   have hYs:∀ w2:World,w.heap.size+2<=w2.heap.size->∀ j,Y j->j<w2.heap.size:=fun w2 h2 j h=>by
    rw [hY] at h
    rcases h with h | h | h
    · have:=hX j h
      omega
    · omega
    · omega
   have hYB:∀ j,j<B->Y j:=fun j h=>hXY j (hXB j h)
   have PB1:=fun w2 (hb:Below w.heap.size w w2) (h2:w.heap.size+2<=w2.heap.size)=>ih Y B bs k st (joinI pc l) _ s.body w2 ((hS.more fun j hj h=>by rw [hY] at h;exact h.elim id fun e=>by omega).below hb) (hYs w2 h2) hYB hf hl (by omega) (hbd.on (hb.mono hB)) hnb
   have PB2:=fun st1 w3 (hb:Below B w w3) (h2:w.heap.size+2<=w3.heap.size) (hS1:ScAt Y bs (k+tot (cntS n) s.body) st1.f st1.ls w3) (hf1:okF st1.f) (hl1:st1.ls.length<=k+tot (cntS n) s.body)=>ih Y B bs (k+tot (cntS n) s.body) st1 (joinI pc l) _ s.els w3 hS1 (hYs w3 h2) hYB hf1 hl1 hk (hel.on hb) hne
   have HYB:=Lib.hid hYB
   have HB:=Lib.hid hB
   clear hS hX hXB hf hl hk hbd hel hnE hnb hne ih hB hY hYs hYB
   show Calls _ _ _ _ (FlowX X bs _ w (match blkP (stmtP m n) st (joinI pc l) s.body with | .error x=>.error x | .ok st'=>blkP (stmtP m n) st' (joinI pc l) s.els))
   obtain ⟨R1,hR1⟩:∃ R,blkP (stmtP m n) st (joinI pc l) s.body=R:=⟨_,rfl⟩
   rw [hR1] at PB1 ⊢
   clear hR1
   cases R1 with
   | error x=>
     clear PB2
     unfold sval at PV ⊢
     go_enter Tryz.func106,Tryz.ntmps106
     go_wp2_with (first | (go_at_call 130;refine (PV _ _).mono ?_;rintro ed w1 ⟨hb2,rfl⟩;have hH1:=keep hb2 (two_second w _ _);obtain ⟨q0,q1,q2,q3,q4,q5,q6⟩:=stmt_cells hH1;have k0:=keep hb2 (two_first w _ _);have hz1:=((two_below w _ _).trans (hb2.mono (two_below w _ _).size));have hs1:w.heap.size+2<=w1.heap.size:=Nat.le_trans (Nat.le_of_eq (two_size _ _ _).symm) hb2.size) | (go_at_call 72;refine (join_two _ _ _ _ (by rw [Lib.cell_of_heap (heap_alloc_new _ _)];rfl) (by rw [Lib.cell_of_heap (heap_alloc_new _ _)];rfl)).mono ?_;rintro ed w2 ⟨rfl,hw⟩;have hby:Below w1.heap.size w1 w2:=hw ▸ ((Below.refl _ _).alloc (Nat.le_refl _) _);clear hw;have hH2:=keep hby hH1;obtain ⟨r0,r1,r2,r3,r4,r5,r6⟩:=stmt_cells hH2;have k2:=keep hby k0;have k3:w2.cell? ⟨w.heap.size,0,none⟩=some (.pointer (some ⟨bs,0,none⟩)):=(Lib.cell_of_heap k2 0).trans rfl;have hz2:=hz1.trans (hby.mono hz1.size);have hs2:=Nat.le_trans hs1 hby.size) | (go_at_call 40;refine (PB1 w2 hz2 hs2).mono ?_;rintro ed w3 ⟨hk3,fb,f',ls',rfl,hfb,hzf,hS',hl'⟩))
     go_returns
     exact (FlowX.to (r:=.error x) ⟨hk3,fb,f',ls',rfl,hfb,hzf,hS',hl'⟩ (KeepX.of_below hz2) hXY).more (by omega)
   | ok st1=>
     replace PB2:=PB2 st1
     show Calls _ _ _ _ (FlowX X bs _ w (blkP (stmtP m n) st1 (joinI pc l) s.els))
     obtain ⟨R2,hR2⟩:∃ R,blkP (stmtP m n) st1 (joinI pc l) s.els=R:=⟨_,rfl⟩
     rw [hR2] at PB2 ⊢
     clear hR2
     unfold sval at PV ⊢
     go_enter Tryz.func106,Tryz.ntmps106
     go_wp2_with (first | (go_at_call 130;refine (PV _ _).mono ?_;rintro ed w1 ⟨hb2,rfl⟩;have hH1:=keep hb2 (two_second w _ _);obtain ⟨q0,q1,q2,q3,q4,q5,q6⟩:=stmt_cells hH1;have k0:=keep hb2 (two_first w _ _);have hz1:=((two_below w _ _).trans (hb2.mono (two_below w _ _).size));have hs1:w.heap.size+2<=w1.heap.size:=Nat.le_trans (Nat.le_of_eq (two_size _ _ _).symm) hb2.size) | (go_at_call 72;refine (join_two _ _ _ _ (by rw [Lib.cell_of_heap (heap_alloc_new _ _)];rfl) (by rw [Lib.cell_of_heap (heap_alloc_new _ _)];rfl)).mono ?_;rintro ed w2 ⟨rfl,hw⟩;have hby:Below w1.heap.size w1 w2:=hw ▸ ((Below.refl _ _).alloc (Nat.le_refl _) _);clear hw;have hH2:=keep hby hH1;obtain ⟨r0,r1,r2,r3,r4,r5,r6⟩:=stmt_cells hH2;have k2:=keep hby k0;have k3:w2.cell? ⟨w.heap.size,0,none⟩=some (.pointer (some ⟨bs,0,none⟩)):=(Lib.cell_of_heap k2 0).trans rfl;have hz2:=hz1.trans (hby.mono hz1.size);have hs2:=Nat.le_trans hs1 hby.size) | (go_at_call 40;refine (PB1 w2 hz2 hs2).mono ?_;rintro ed w3 ⟨hk3,rfl,hS1,hf1,hl1⟩;have hK3:=(KeepX.of_below (X:=Y) hz2).trans hk3;have hH3:=(hk3.block _ hY1 (by omega)).trans hH2;have k4:=(hk3.block _ hY0 (by omega)).trans k2;obtain ⟨z0,z1,z2,z3,z4,z5,z6⟩:=stmt_cells hH3;have k5:w3.cell? ⟨w.heap.size,0,none⟩=some (.pointer (some ⟨bs,0,none⟩)):=(Lib.cell_of_heap k4 0).trans rfl;have PB3:=PB2 w3 ((hK3.mono fun j _ h=>HYB.out j h).below HB.out) (Nat.le_trans hs2 hk3.size) hS1 hf1 hl1;clear PB1) | (go_at_call 40;refine PB3.mono ?_;rintro ed w4 hE;obtain ⟨v,rfl⟩:=hE.ret))
     go_returns
     exact hE.to (hK3.mono fun j _ h=>hXY j h) hXY
def StC (F:Nat) (m n:Nat) (P:St->Int->Stm->Except Er St):Prop:=∀ (X:Nat->Prop) (B bs k:Nat) (st:St) (pc:Int) (s:Stm) (ea:Option Addr) (ec:Nat) (ba:Option Addr) (bc:Nat) (la:Option Addr) (lc:Nat) (w:World),ScAt X bs k st.f st.ls w->(∀ j,X j->j<w.heap.size)->(∀ j,j<B->X j)->okF st.f->st.ls.length<=k->k+cntS (n+1) s<=900000 ->
 Kids 0 B w (fun v' t'=>ERep 0 B w m v' t') (.slice ea s.exprs.length ec) s.exprs->Stms 0 B w (fun v' s'=>SRep 0 B w m n v' s') (.slice ba s.body.length bc) s.body->Stms 0 B w (fun v' s'=>SRep 0 B w m n v' s') (.slice la s.els.length lc) s.els->s.name.size<=35184372088832 -> -9223372036854775808<=s.count->s.count<=9223372036854775807->nmS m (n+1) s ->
 Calls Tryz.prog F #[.agg #[.pointer (some ⟨bs,0,none⟩)],sval s ea ec ba bc la lc,.int .i64 pc] w (FlowX X bs (k+cntS (n+1) s) w (P st pc s))
theorem data_of {X:Nat->Prop} {B m:Nat} {w:World} (hX:∀ j,X j->j<w.heap.size) (hXB:∀ j,j<B->X j) {kv:Value} {es:List Tree} (hE:Kids 0 B w (fun v' t'=>ERep 0 B w m v' t') kv es):Kids 0 w.heap.size w (fun v' t'=>ERep 0 w.heap.size w m v' t') kv es:=
 hE.carry (Nat.le_refl _) (below_size hX hXB) (Same35.refl _ _ _) fun _ _ h=>h.mono (below_size hX hXB) (Below.refl _ _)
theorem assign_c (m n:Nat):StC 104 m n (assignP m):=by
 intro X B bs k st pc s ea ec ba bc la lc w hS hX hXB hf hl hk hE hbd hel hns hc1 hc2 hn
 exact (assign_any (B:=0) (hS.more fun j _ h=>absurd h (Nat.not_lt_zero _)) hf (data_of hX hXB hE) hn.1 hns).mono fun ed w' h=>(ErrR.flow hS hf hl h fun st' e=>assign_st st' e).more (by omega)
theorem choice_c {m n:Nat} (ih:BlockC m n):StC 106 m n (choiceP m (stmtP m n)):=by
 intro X B bs k st pc s ea ec ba bc la lc w hS hX hXB hf hl hk hE hbd hel hns hc1 hc2 hn
 simp only [cntS] at hk ⊢
 exact (choice_any ih hS hX hXB hf hl (by omega) hE hbd hel hn.1 hn.2.1 hn.2.2).mono fun ed w' h=>h.more (by omega)
theorem stmt_any {m n:Nat} (h0:StC 103 m n (localP m)) (h2:StC 105 m n (storeP m)) (h4:StC 107 m n (loopP (stmtP m n))) (ih:BlockC m n):StC 71 m n (stmtP m (n+1)):=by
 intro X B bs k st pc s ea ec ba bc la lc w hS hX hXB hf hl hk hE hbd hel hns hc1 hc2 hn
 have hb2:=fun o o'=>two_below w o o'
 have hB:=below_size hX hXB
 have hbB:∀ o o',Below B w ((w.alloc o).alloc o'):=fun o o'=>(hb2 o o').mono hB
 have hX2:∀ o o' j,X j->j<((w.alloc o).alloc o').heap.size:=fun o o' j h=>Nat.lt_of_lt_of_le (hX j h) (hb2 o o').size
 have H1:=assign_c m n
 have H3:=choice_c ih
 have P0:=fun o o'=>h0 X B bs k st pc s ea ec ba bc la lc ((w.alloc o).alloc o') (hS.below (hb2 o o')) (hX2 o o') hXB hf hl hk (hE.on (hbB o o')) (hbd.on (hbB o o')) (hel.on (hbB o o')) hns hc1 hc2 hn
 have P1:=fun o o'=>H1 X B bs k st pc s ea ec ba bc la lc ((w.alloc o).alloc o') (hS.below (hb2 o o')) (hX2 o o') hXB hf hl hk (hE.on (hbB o o')) (hbd.on (hbB o o')) (hel.on (hbB o o')) hns hc1 hc2 hn
 have P2:=fun o o'=>h2 X B bs k st pc s ea ec ba bc la lc ((w.alloc o).alloc o') (hS.below (hb2 o o')) (hX2 o o') hXB hf hl hk (hE.on (hbB o o')) (hbd.on (hbB o o')) (hel.on (hbB o o')) hns hc1 hc2 hn
 have P3:=fun o o'=>H3 X B bs k st pc s ea ec ba bc la lc ((w.alloc o).alloc o') (hS.below (hb2 o o')) (hX2 o o') hXB hf hl hk (hE.on (hbB o o')) (hbd.on (hbB o o')) (hel.on (hbB o o')) hns hc1 hc2 hn
 have P4:=fun o o'=>h4 X B bs k st pc s ea ec ba bc la lc ((w.alloc o).alloc o') (hS.below (hb2 o o')) (hX2 o o') hXB hf hl hk (hE.on (hbB o o')) (hbd.on (hbB o o')) (hel.on (hbB o o')) hns hc1 hc2 hn
 have P5:=fun o o'=>(seen_any (m:=m) (B:=0) (bs:=bs) (k:=k) (st:=st) (s:=s) (ea:=ea) (ba:=ba) (la:=la) (ec:=ec) (bc:=bc) (lc:=lc) ((hS.more fun j _ h=>absurd h (Nat.not_lt_zero _)).below (hb2 o o')) hf (kids_later (data_of hX hXB hE) (hb2 o o')) hn.1 hns).mono fun ed w' h=>(ErrR.flow (hS.below (hb2 o o')) hf hl h fun st' e=>seen_st st' e).more (Nat.le_add_right k (cntS (n+1) s))
 have PL:=fun o o'=>(leak_any s ea ec ba bc la lc ((w.alloc o).alloc o')).mono fun ed w' h=>(ErrR.flow (r:=.error (4,s.at_)) (hS.below (hb2 o o')) hf hl h fun st' e=>by cases e).more (Nat.le_add_right k (cntS (n+1) s))
 obtain ⟨K,hKK⟩:∃ K,k+cntS (n+1) s=K:=⟨_,rfl⟩
 rw [hKK] at P0 P1 P2 P3 P4 P5 PL ⊢
 obtain ⟨R0,e0⟩:∃ R,localP m st pc s=R:=⟨_,rfl⟩
 obtain ⟨R1,e1⟩:∃ R,assignP m st pc s=R:=⟨_,rfl⟩
 obtain ⟨R2,e2⟩:∃ R,storeP m st pc s=R:=⟨_,rfl⟩
 obtain ⟨R3,e3⟩:∃ R,choiceP m (stmtP m n) st pc s=R:=⟨_,rfl⟩
 obtain ⟨R4,e4⟩:∃ R,loopP (stmtP m n) st pc s=R:=⟨_,rfl⟩
 obtain ⟨R5,e5⟩:∃ R,seenP m st s=R:=⟨_,rfl⟩
 have hR:stmtP m (n+1) st pc s=if s.kind=0 then R0 else if s.kind=1 then R1 else if s.kind=2 then R2 else if s.kind=3 then R3 else if s.kind=4 then R4 else if pc≠0 then .error (4,s.at_) else R5:=by
    rw [<- e0,<- e1,<- e2,<- e3,<- e4,<- e5]
    rfl
 rw [hR]
 rw [e0] at P0
 rw [e1] at P1
 rw [e2] at P2
 rw [e3] at P3
 rw [e4] at P4
 rw [e5] at P5
 clear hS hX hXB hf hl hk hE hbd hel hns hc1 hc2 hn hB hbB hX2 H1 H3 h0 h2 h4 ih hKK e0 e1 e2 e3 e4 e5 hR
 unfold sval at P0 P1 P2 P3 P4 P5 PL ⊢
 obtain ⟨sk,sn,sx,sc,sb,sl,sa⟩:=s
 simp only at P0 P1 P2 P3 P4 P5 PL ⊢
 by_cases n0:sk=0
 · rw [if_pos n0]
   clear P1 P2 P3 P4 P5 PL
   subst n0
   go_enter Tryz.func71,Tryz.ntmps71
   go_wp2_with (go_at_call 103;refine (P0 _ _).mono ?_;rintro ed w2 hE;obtain ⟨v,rfl⟩:=hE.ret)
   go_returns
   exact hE.to (KeepX.of_below (hb2 _ _)) fun j h=>h
 rw [if_neg n0]
 clear P0
 by_cases n1:sk=1
 · rw [if_pos n1]
   clear P2 P3 P4 P5 PL
   subst n1
   go_enter Tryz.func71,Tryz.ntmps71
   go_wp2_with (go_at_call 104;refine (P1 _ _).mono ?_;rintro ed w2 hE;obtain ⟨v,rfl⟩:=hE.ret)
   go_returns
   exact hE.to (KeepX.of_below (hb2 _ _)) fun j h=>h
 rw [if_neg n1]
 clear P1
 by_cases n2:sk=2
 · rw [if_pos n2]
   clear P3 P4 P5 PL
   subst n2
   go_enter Tryz.func71,Tryz.ntmps71
   go_wp2_with (go_at_call 105;refine (P2 _ _).mono ?_;rintro ed w2 hE;obtain ⟨v,rfl⟩:=hE.ret)
   go_returns
   exact hE.to (KeepX.of_below (hb2 _ _)) fun j h=>h
 rw [if_neg n2]
 clear P2
 by_cases n3:sk=3
 · rw [if_pos n3]
   clear P4 P5 PL
   subst n3
   go_enter Tryz.func71,Tryz.ntmps71
   go_wp2_with (go_at_call 106;refine (P3 _ _).mono ?_;rintro ed w2 hE;obtain ⟨v,rfl⟩:=hE.ret)
   go_returns
   exact hE.to (KeepX.of_below (hb2 _ _)) fun j h=>h
 rw [if_neg n3]
 clear P3
 by_cases n4:sk=4
 · rw [if_pos n4]
   clear P5 PL
   subst n4
   go_enter Tryz.func71,Tryz.ntmps71
   go_wp2_with (go_at_call 107;refine (P4 _ _).mono ?_;rintro ed w2 hE;obtain ⟨v,rfl⟩:=hE.ret)
   go_returns
   exact hE.to (KeepX.of_below (hb2 _ _)) fun j h=>h
 rw [if_neg n4]
 clear P4
 by_cases hp:pc=0
 · rw [if_neg (fun h=>h hp)]
   clear PL
   subst hp
   go_enter Tryz.func71,Tryz.ntmps71
   go_wp2_with (go_at_call 109;refine (P5 _ _).mono ?_;rintro ed w2 hE;obtain ⟨v,rfl⟩:=hE.ret)
   go_returns
   exact hE.to (KeepX.of_below (hb2 _ _)) fun j h=>h
 · rw [if_pos hp]
   clear P5
   go_enter Tryz.func71,Tryz.ntmps71
   go_wp2_with (go_at_call 108;refine (PL _ _).mono ?_;rintro ed w2 hE;obtain ⟨v,rfl⟩:=hE.ret)
   go_returns
   exact hE.to (KeepX.of_below (hb2 _ _)) fun j h=>h
theorem store_none {m:Nat} {st:St} {pc:Int} {s:Stm} (h:s.exprs.length≠2):storeP m st pc s=.error (3,s.at_):=by
 unfold storeP
 match hx:s.exprs with
 | []=>rfl
 | [a]=>rfl
 | [a,b]=>rw [hx] at h;simp at h
 | a :: b :: c :: l=>rfl
theorem store_two {m:Nat} {st:St} {pc:Int} {s:Stm} {a b:Tree} (h:s.exprs=[a,b]):storeP m st pc s=match labelP st.f (m+1) ⟨2,0,s.name,0,[a],s.at_⟩ with
    | .error x=>.error x
    | .ok to=>match labelP st.f m b with
      | .error x=>.error x
      | .ok l=>intoP st s (joinI l pc) to:=by
 unfold storeP
 rw [h,label_2 rfl]
 rfl
theorem store_any {m:Nat} {B bs k:Nat} {st:St} {s:Stm} {ea ba la:Option Addr} {ec bc lc:Nat} {w:World} {pc:Int} (hS:ScAt (· < B) bs k st.f st.ls w) (hf:okF st.f) (hK:Kids 0 w.heap.size w (fun v' t'=>ERep 0 w.heap.size w m v' t') (.slice ea s.exprs.length ec) s.exprs) (hn:∀ e ∈ s.exprs,nmE m e) (hns:s.name.size<=35184372088832):
    Calls Tryz.prog 105 #[.agg #[.pointer (some ⟨bs,0,none⟩)],sval s ea ec ba bc la lc,.int .i64 pc] w (ErrR w (storeP m st pc s)):=by
 by_cases h2:s.exprs.length=2
 · obtain ⟨a,y,hab⟩:∃ a y,s.exprs=[a,y]:=by
    match hx:s.exprs,h2 with
    | [a,y],_=>exact ⟨a,y,rfl⟩
   rw [store_two hab]
   have hya:=hn a (by rw [hab];simp)
   have hyn:=hn y (by rw [hab];simp)
   obtain ⟨_,_,er,⟨_,hcap⟩,hKr⟩:=hK
   cases er
   rw [h2] at hcap
   obtain ⟨g,off,c0,c1,c2,c3,c4,c5,rfl,_,hg,hgt,i0,i1,i2,i3,i4,i5,hr⟩:=hKr 0 a (by rw [hab];rfl)
   have hKa:Kids 0 w.heap.size w (fun v' t'=>ERep 0 w.heap.size w m v' t') (.slice (some ⟨g,off,none⟩) [a].length ec) [a]:=⟨_,_,rfl,⟨by simp,by simp;omega⟩,fun i t h=>by
    match i,h with
    | 0,h=>simp at h;subst h;exact ⟨g,off,c0,c1,c2,c3,c4,c5,rfl,Nat.zero_le _,hg,hgt,i0,i1,i2,i3,i4,i5,hr⟩⟩
   have hEa:ERep 0 w.heap.size w (m+1) (.agg #[.int .i64 2,.int .i64 0,.string s.name,.int .u64 0,.slice (some ⟨g,off,none⟩) 1 ec,.int .i64 s.at_]) ⟨2,0,s.name,0,[a],s.at_⟩:=⟨by simp,_,rfl,hKa⟩
   have PL0:=fun w1 (hb:Below w.heap.size w w1)=>label_all (m+1) B bs k st _ _ w1 (hS.below hb) hf (hEa.mono hb.size hb) ⟨hns,fun t ht=>by simp at ht;subst ht;exact hya⟩
   clear i0 i1 i2 i3 i4 i5 hr hKa hEa hgt c0 c1 c2 c3 c4 c5
   obtain ⟨g',off',c0,c1,c2,c3,c4,c5,e',_,hg',_,i0,i1,i2,i3,i4,i5,hr⟩:=hKr 1 y (by rw [hab];rfl)
   cases e'
   simp only [Nat.one_mul] at i0 i1 i2 i3 i4 i5
   have hRp:=Lib.hid hr
   cases m with
   | zero=>exact hr.elim
   | succ m=>
   obtain ⟨_,kvy,hv,ky,cy,rfl,_,_⟩:=hr
   simp only [Value.agg.injEq,Array.mk.injEq,List.cons.injEq,and_true] at hv
   obtain ⟨rfl,rfl,rfl,rfl,rfl,rfl⟩:=hv
   have PL1:=fun w1 (hb:Below w.heap.size w w1)=>label_all (m+1) B bs k st _ y w1 (hS.below hb) hf (hRp.out.mono hb.size hb) hyn
   obtain ⟨R1,hR1⟩:∃ R1,labelP st.f (m+1+1) ⟨2,0,s.name,0,[a],s.at_⟩=R1:=⟨_,rfl⟩
   obtain ⟨R,hR⟩:∃ R,labelP st.f (m+1) y=R:=⟨_,rfl⟩
   rw [hR1] at PL0 ⊢
   rw [hR] at PL1 ⊢
   clear hS hf hKr hn hRp hyn hya hR hR1 hab hns
   cases R1 with
   | error x=>
     clear PL1
     unfold sval
     rw [h2]
     go_enter Tryz.func105,Tryz.ntmps105
     go_wp2
     obtain ⟨W,hW⟩:∃ W,W=(w.alloc (.cells #[.pointer (some ⟨bs,0,none⟩)] 106)).alloc (.cells #[.int .i64 s.kind,.string s.name,.slice (some ⟨g,off,none⟩) 2 ec,.int .i64 s.count,.slice ba s.body.length bc,.slice la s.els.length lc,.int .i64 s.at_] 45):=⟨_,rfl⟩
     have hA:W.heap[w.heap.size]?=some (.cells #[.pointer (some ⟨bs,0,none⟩)] 106 (0,0)):=by rw [hW];exact two_first _ _ _
     have hB2:W.heap[w.heap.size+1]?=some (.cells #[.int .i64 s.kind,.string s.name,.slice (some ⟨g,off,none⟩) 2 ec,.int .i64 s.count,.slice ba s.body.length bc,.slice la s.els.length lc,.int .i64 s.at_] 45 (0,0)):=by rw [hW];exact two_second _ _ _
     have hbW:Below w.heap.size w W:=by rw [hW];exact two_below _ _ _
     rw [<- hW]
     clear hW
     have PL:=fun wr (hb:Below W.heap.size W wr)=>PL0 wr (hbW.trans (hb.mono hbW.size))
     clear PL0
     refine wp_region_mono (by kernel_rfl) (by kernel_rfl) (by kernel_rfl) (by kernel_rfl) (by kernel_rfl) (fun (i:Nat) (v:Value) (wv:World)=>match i with | 0=>v=.pointer (some ⟨w.heap.size,0,none⟩) | 1=>v=.pointer (some ⟨bs,0,none⟩) | 2=>v=.pointer (some ⟨w.heap.size+1,1,none⟩) | 3=>v=.string s.name | 4=>v=.pointer (some ⟨w.heap.size+1,2,none⟩) | 5=>v=.slice (some ⟨g,off,none⟩) 2 ec | 6=>v=.slice (some ⟨g,off,none⟩) 1 ec | 7=>v=.pointer (some ⟨w.heap.size+1,6,none⟩) | 8=>v=.int .i64 s.at_ | 9=>v=.agg #[.int .i64 2,.int .i64 0,.string s.name,.int .u64 0,.slice (some ⟨g,off,none⟩) 1 ec,.int .i64 s.at_] | 10=>∃ fb,v=.tuple #[.int .i64 0,faultV fb]/\FaultAt wv x.1 x.2 fb/\W.heap.size<=fb | 11=>∃ fb,v=.tuple #[.int .i64 0,faultV fb]/\FaultAt wv x.1 x.2 fb/\W.heap.size<=fb | 12=>v=.int .i64 0 | 13=>∃ fb,v=faultV fb/\FaultAt wv x.1 x.2 fb/\W.heap.size<=fb | 14=>v=.int .i64 0 | 15=>∃ fb,v=faultV fb/\FaultAt wv x.1 x.2 fb/\W.heap.size<=fb | _=>True) ?_ [] (by kernel_rfl) ?_ ?_ ?_
     · intro i v w w' hb h
       match i with
       | 0=>exact h
       | 1=>exact h
       | 2=>exact h
       | 3=>exact h
       | 4=>exact h
       | 5=>exact h
       | 6=>exact h
       | 7=>exact h
       | 8=>exact h
       | 9=>exact h
       | 10=>exact ⟨h.choose,h.choose_spec.1,h.choose_spec.2.1.on hb,h.choose_spec.2.2⟩
       | 11=>exact ⟨h.choose,h.choose_spec.1,h.choose_spec.2.1.on hb,h.choose_spec.2.2⟩
       | 12=>exact h
       | 13=>exact ⟨h.choose,h.choose_spec.1,h.choose_spec.2.1.on hb,h.choose_spec.2.2⟩
       | 14=>exact h
       | 15=>exact ⟨h.choose,h.choose_spec.1,h.choose_spec.2.1.on hb,h.choose_spec.2.2⟩
       | _+16=>trivial
     · intro p hp v w h
       cases hp
     · intro a wr i op hop hb hF hP K hK
       have s3:a.tmps[3]?.getD undef=.pointer (some ⟨w.heap.size,0,none⟩):=(hF 3 (by kernel_rfl)).trans rfl
       have s4:a.tmps[4]?.getD undef=.pointer (some ⟨w.heap.size+1,0,none⟩):=(hF 4 (by kernel_rfl)).trans rfl
       have k0:=keep hb hA
       have k1:wr.cell? ⟨w.heap.size,0,none⟩=some (.pointer (some ⟨bs,0,none⟩)):=by rw [Lib.cell_of_heap k0];rfl
       obtain ⟨q0,q1,q2,q3,q4,q5,q6⟩:=stmt_cells (keep hb hB2)
       match i with
       | 0=>
         obtain rfl:=Option.some.inj hop
         go_simp
         exact hK _ _ (Below.refl _ _) fun _=>by first | rfl | exact wrap_val (by omega)
       | 1=>
         obtain rfl:=Option.some.inj hop
         have n0:a.tmps[17]?.getD undef=.pointer (some ⟨w.heap.size,0,none⟩):=hP 0 17 (by kernel_rfl) (by kernel_rfl)
         go_simp
         exact hK _ _ (Below.refl _ _) fun _=>by first | rfl | exact wrap_val (by omega)
       | 2=>
         obtain rfl:=Option.some.inj hop
         go_simp
         exact hK _ _ (Below.refl _ _) fun _=>by first | rfl | exact wrap_val (by omega)
       | 3=>
         obtain rfl:=Option.some.inj hop
         have n2:a.tmps[19]?.getD undef=.pointer (some ⟨w.heap.size+1,1,none⟩):=hP 2 19 (by kernel_rfl) (by kernel_rfl)
         go_simp
         exact hK _ _ (Below.refl _ _) fun _=>by first | rfl | exact wrap_val (by omega)
       | 4=>
         obtain rfl:=Option.some.inj hop
         go_simp
         exact hK _ _ (Below.refl _ _) fun _=>by first | rfl | exact wrap_val (by omega)
       | 5=>
         obtain rfl:=Option.some.inj hop
         have n4:a.tmps[21]?.getD undef=.pointer (some ⟨w.heap.size+1,2,none⟩):=hP 4 21 (by kernel_rfl) (by kernel_rfl)
         go_simp
         exact hK _ _ (Below.refl _ _) fun _=>by first | rfl | exact wrap_val (by omega)
       | 6=>
         obtain rfl:=Option.some.inj hop
         have n5:a.tmps[22]?.getD undef=.slice (some ⟨g,off,none⟩) 2 ec:=hP 5 22 (by kernel_rfl) (by kernel_rfl)
         go_simp
         rw [if_pos (show (1:Int)<=(ec:Int) by omega)]
         go_simp
         exact hK _ _ (Below.refl _ _) fun _=>by first | rfl | exact wrap_val (by omega)
       | 7=>
         obtain rfl:=Option.some.inj hop
         go_simp
         exact hK _ _ (Below.refl _ _) fun _=>by first | rfl | exact wrap_val (by omega)
       | 8=>
         obtain rfl:=Option.some.inj hop
         have n7:a.tmps[24]?.getD undef=.pointer (some ⟨w.heap.size+1,6,none⟩):=hP 7 24 (by kernel_rfl) (by kernel_rfl)
         go_simp
         exact hK _ _ (Below.refl _ _) fun _=>by first | rfl | exact wrap_val (by omega)
       | 9=>
         obtain rfl:=Option.some.inj hop
         have n3:a.tmps[20]?.getD undef=.string s.name:=hP 3 20 (by kernel_rfl) (by kernel_rfl)
         have n6:a.tmps[23]?.getD undef=.slice (some ⟨g,off,none⟩) 1 ec:=hP 6 23 (by kernel_rfl) (by kernel_rfl)
         have n8:a.tmps[25]?.getD undef=.int .i64 s.at_:=hP 8 25 (by kernel_rfl) (by kernel_rfl)
         go_simp
         exact hK _ _ (Below.refl _ _) fun _=>by first | rfl | exact wrap_val (by omega)
       | 10=>
         obtain rfl:=Option.some.inj hop
         have n1:a.tmps[18]?.getD undef=.pointer (some ⟨bs,0,none⟩):=hP 1 18 (by kernel_rfl) (by kernel_rfl)
         have n9:a.tmps[26]?.getD undef=.agg #[.int .i64 2,.int .i64 0,.string s.name,.int .u64 0,.slice (some ⟨g,off,none⟩) 1 ec,.int .i64 s.at_]:=hP 9 26 (by kernel_rfl) (by kernel_rfl)
         go_simp
         go_at_call 21
         refine (PL wr hb).mono ?_
         rintro ed w1 ⟨hb1,fb,rfl,hfb,hzf⟩
         go_simp
         exact hK _ _ hb1 fun _=>⟨fb,rfl,hfb,Nat.le_trans hb.size hzf⟩
       | 11=>
         obtain rfl:=Option.some.inj hop
         obtain ⟨fb,n10,hfb,hzf⟩:∃ fb,a.tmps[27]?.getD undef=.tuple #[.int .i64 0,faultV fb]/\FaultAt wr x.1 x.2 fb/\W.heap.size<=fb:=(hP 10 27 (by kernel_rfl) (by kernel_rfl))
         go_simp
         exact hK _ _ (Below.refl _ _) fun _=>⟨fb,rfl,hfb,hzf⟩
       | 12=>
         obtain rfl:=Option.some.inj hop
         obtain ⟨fb,n11,hfb,hzf⟩:∃ fb,a.tmps[16]?.getD undef=.tuple #[.int .i64 0,faultV fb]/\FaultAt wr x.1 x.2 fb/\W.heap.size<=fb:=(hP 11 16 (by kernel_rfl) (by kernel_rfl))
         go_simp
         exact hK _ _ (Below.refl _ _) fun _=>by first | rfl | exact wrap_val (by omega)
       | 13=>
         obtain rfl:=Option.some.inj hop
         obtain ⟨fb,n11,hfb,hzf⟩:∃ fb,a.tmps[16]?.getD undef=.tuple #[.int .i64 0,faultV fb]/\FaultAt wr x.1 x.2 fb/\W.heap.size<=fb:=(hP 11 16 (by kernel_rfl) (by kernel_rfl))
         go_simp
         exact hK _ _ (Below.refl _ _) fun _=>⟨fb,rfl,hfb,hzf⟩
       | 14=>
         obtain rfl:=Option.some.inj hop
         have n12:a.tmps[28]?.getD undef=.int .i64 0:=hP 12 28 (by kernel_rfl) (by kernel_rfl)
         go_simp
         exact hK _ _ (Below.refl _ _) fun _=>by first | rfl | exact wrap_val (by omega)
       | 15=>
         obtain rfl:=Option.some.inj hop
         obtain ⟨fb,n13,hfb,hzf⟩:∃ fb,a.tmps[29]?.getD undef=faultV fb/\FaultAt wr x.1 x.2 fb/\W.heap.size<=fb:=(hP 13 29 (by kernel_rfl) (by kernel_rfl))
         go_simp
         exact hK _ _ (Below.refl _ _) fun _=>⟨fb,rfl,hfb,hzf⟩
       | _+16=>simp at hop
     · intro V wz hbz hR
       have e14:V 14=.int .i64 0:=hR 14 (by kernel_rfl)
       obtain ⟨fb,e15,hfb,hzf⟩:∃ fb,V 15=faultV fb/\FaultAt wz x.1 x.2 fb/\W.heap.size<=fb:=hR 15 (by kernel_rfl)
       clear hR PL
       refine at_all (prs [17,18,19,20,21,22,23,24,25,26,27,16,28,29,7,8] V) (fun t=>by kernel_rfl) ?_
       simp only [prs,List.zipIdx,List.map,List.foldl,Nat.zero_add,Nat.reduceAdd,List.setIfInBounds_toArray,List.set_cons_zero,List.set_cons_succ,e14,e15]
       go_wp2
       go_returns
       exact ⟨hbW.trans (hbz.mono hbW.size),fb,rfl,hfb,Nat.le_trans hbW.size hzf⟩
   | ok to=>
     cases R with
     | error x=>
       unfold sval
       rw [h2]
       go_enter Tryz.func105,Tryz.ntmps105
       go_wp2
       obtain ⟨W,hW⟩:∃ W,W=(w.alloc (.cells #[.pointer (some ⟨bs,0,none⟩)] 106)).alloc (.cells #[.int .i64 s.kind,.string s.name,.slice (some ⟨g,off,none⟩) 2 ec,.int .i64 s.count,.slice ba s.body.length bc,.slice la s.els.length lc,.int .i64 s.at_] 45):=⟨_,rfl⟩
       have hA:W.heap[w.heap.size]?=some (.cells #[.pointer (some ⟨bs,0,none⟩)] 106 (0,0)):=by rw [hW];exact two_first _ _ _
       have hB2:W.heap[w.heap.size+1]?=some (.cells #[.int .i64 s.kind,.string s.name,.slice (some ⟨g,off,none⟩) 2 ec,.int .i64 s.count,.slice ba s.body.length bc,.slice la s.els.length lc,.int .i64 s.at_] 45 (0,0)):=by rw [hW];exact two_second _ _ _
       have hbW:Below w.heap.size w W:=by rw [hW];exact two_below _ _ _
       rw [<- hW]
       clear hW
       have PL:=fun wr (hb:Below W.heap.size W wr)=>PL0 wr (hbW.trans (hb.mono hbW.size))
       clear PL0
       refine wp_region_mono (by kernel_rfl) (by kernel_rfl) (by kernel_rfl) (by kernel_rfl) (by kernel_rfl) (fun (i:Nat) (v:Value) (wv:World)=>match i with | 0=>v=.pointer (some ⟨w.heap.size,0,none⟩) | 1=>v=.pointer (some ⟨bs,0,none⟩) | 2=>v=.pointer (some ⟨w.heap.size+1,1,none⟩) | 3=>v=.string s.name | 4=>v=.pointer (some ⟨w.heap.size+1,2,none⟩) | 5=>v=.slice (some ⟨g,off,none⟩) 2 ec | 6=>v=.slice (some ⟨g,off,none⟩) 1 ec | 7=>v=.pointer (some ⟨w.heap.size+1,6,none⟩) | 8=>v=.int .i64 s.at_ | 9=>v=.agg #[.int .i64 2,.int .i64 0,.string s.name,.int .u64 0,.slice (some ⟨g,off,none⟩) 1 ec,.int .i64 s.at_] | 10=>v=.tuple #[.int .i64 to,.nilIface] | 11=>v=.tuple #[.int .i64 to,.nilIface] | 12=>v=.int .i64 to | 13=>v=.nilIface | 14=>v=.int .i64 to | 15=>v=.nilIface | _=>True) ?_ [] (by kernel_rfl) ?_ ?_ ?_
       · intro i v w w' hb h
         match i with
         | 0=>exact h
         | 1=>exact h
         | 2=>exact h
         | 3=>exact h
         | 4=>exact h
         | 5=>exact h
         | 6=>exact h
         | 7=>exact h
         | 8=>exact h
         | 9=>exact h
         | 10=>exact h
         | 11=>exact h
         | 12=>exact h
         | 13=>exact h
         | 14=>exact h
         | 15=>exact h
         | _+16=>trivial
       · intro p hp v w h
         cases hp
       · intro a wr i op hop hb hF hP K hK
         have s3:a.tmps[3]?.getD undef=.pointer (some ⟨w.heap.size,0,none⟩):=(hF 3 (by kernel_rfl)).trans rfl
         have s4:a.tmps[4]?.getD undef=.pointer (some ⟨w.heap.size+1,0,none⟩):=(hF 4 (by kernel_rfl)).trans rfl
         have k0:=keep hb hA
         have k1:wr.cell? ⟨w.heap.size,0,none⟩=some (.pointer (some ⟨bs,0,none⟩)):=by rw [Lib.cell_of_heap k0];rfl
         obtain ⟨q0,q1,q2,q3,q4,q5,q6⟩:=stmt_cells (keep hb hB2)
         match i with
         | 0=>
           obtain rfl:=Option.some.inj hop
           go_simp
           exact hK _ _ (Below.refl _ _) fun _=>by first | rfl | exact wrap_val (by omega)
         | 1=>
           obtain rfl:=Option.some.inj hop
           have n0:a.tmps[17]?.getD undef=.pointer (some ⟨w.heap.size,0,none⟩):=hP 0 17 (by kernel_rfl) (by kernel_rfl)
           go_simp
           exact hK _ _ (Below.refl _ _) fun _=>by first | rfl | exact wrap_val (by omega)
         | 2=>
           obtain rfl:=Option.some.inj hop
           go_simp
           exact hK _ _ (Below.refl _ _) fun _=>by first | rfl | exact wrap_val (by omega)
         | 3=>
           obtain rfl:=Option.some.inj hop
           have n2:a.tmps[19]?.getD undef=.pointer (some ⟨w.heap.size+1,1,none⟩):=hP 2 19 (by kernel_rfl) (by kernel_rfl)
           go_simp
           exact hK _ _ (Below.refl _ _) fun _=>by first | rfl | exact wrap_val (by omega)
         | 4=>
           obtain rfl:=Option.some.inj hop
           go_simp
           exact hK _ _ (Below.refl _ _) fun _=>by first | rfl | exact wrap_val (by omega)
         | 5=>
           obtain rfl:=Option.some.inj hop
           have n4:a.tmps[21]?.getD undef=.pointer (some ⟨w.heap.size+1,2,none⟩):=hP 4 21 (by kernel_rfl) (by kernel_rfl)
           go_simp
           exact hK _ _ (Below.refl _ _) fun _=>by first | rfl | exact wrap_val (by omega)
         | 6=>
           obtain rfl:=Option.some.inj hop
           have n5:a.tmps[22]?.getD undef=.slice (some ⟨g,off,none⟩) 2 ec:=hP 5 22 (by kernel_rfl) (by kernel_rfl)
           go_simp
           rw [if_pos (show (1:Int)<=(ec:Int) by omega)]
           go_simp
           exact hK _ _ (Below.refl _ _) fun _=>by first | rfl | exact wrap_val (by omega)
         | 7=>
           obtain rfl:=Option.some.inj hop
           go_simp
           exact hK _ _ (Below.refl _ _) fun _=>by first | rfl | exact wrap_val (by omega)
         | 8=>
           obtain rfl:=Option.some.inj hop
           have n7:a.tmps[24]?.getD undef=.pointer (some ⟨w.heap.size+1,6,none⟩):=hP 7 24 (by kernel_rfl) (by kernel_rfl)
           go_simp
           exact hK _ _ (Below.refl _ _) fun _=>by first | rfl | exact wrap_val (by omega)
         | 9=>
           obtain rfl:=Option.some.inj hop
           have n3:a.tmps[20]?.getD undef=.string s.name:=hP 3 20 (by kernel_rfl) (by kernel_rfl)
           have n6:a.tmps[23]?.getD undef=.slice (some ⟨g,off,none⟩) 1 ec:=hP 6 23 (by kernel_rfl) (by kernel_rfl)
           have n8:a.tmps[25]?.getD undef=.int .i64 s.at_:=hP 8 25 (by kernel_rfl) (by kernel_rfl)
           go_simp
           exact hK _ _ (Below.refl _ _) fun _=>by first | rfl | exact wrap_val (by omega)
         | 10=>
           obtain rfl:=Option.some.inj hop
           have n1:a.tmps[18]?.getD undef=.pointer (some ⟨bs,0,none⟩):=hP 1 18 (by kernel_rfl) (by kernel_rfl)
           have n9:a.tmps[26]?.getD undef=.agg #[.int .i64 2,.int .i64 0,.string s.name,.int .u64 0,.slice (some ⟨g,off,none⟩) 1 ec,.int .i64 s.at_]:=hP 9 26 (by kernel_rfl) (by kernel_rfl)
           go_simp
           go_at_call 21
           refine (PL wr hb).mono ?_
           rintro ed w1 ⟨hb1,rfl⟩
           go_simp
           exact hK _ _ hb1 fun _=>rfl
         | 11=>
           obtain rfl:=Option.some.inj hop
           have n10:a.tmps[27]?.getD undef=.tuple #[.int .i64 to,.nilIface]:=hP 10 27 (by kernel_rfl) (by kernel_rfl)
           go_simp
           exact hK _ _ (Below.refl _ _) fun _=>by first | rfl | exact wrap_val (by omega)
         | 12=>
           obtain rfl:=Option.some.inj hop
           have n11:a.tmps[16]?.getD undef=.tuple #[.int .i64 to,.nilIface]:=hP 11 16 (by kernel_rfl) (by kernel_rfl)
           go_simp
           exact hK _ _ (Below.refl _ _) fun _=>by first | rfl | exact wrap_val (by omega)
         | 13=>
           obtain rfl:=Option.some.inj hop
           have n11:a.tmps[16]?.getD undef=.tuple #[.int .i64 to,.nilIface]:=hP 11 16 (by kernel_rfl) (by kernel_rfl)
           go_simp
           exact hK _ _ (Below.refl _ _) fun _=>by first | rfl | exact wrap_val (by omega)
         | 14=>
           obtain rfl:=Option.some.inj hop
           have n12:a.tmps[28]?.getD undef=.int .i64 to:=hP 12 28 (by kernel_rfl) (by kernel_rfl)
           go_simp
           exact hK _ _ (Below.refl _ _) fun _=>by first | rfl | exact wrap_val (by omega)
         | 15=>
           obtain rfl:=Option.some.inj hop
           have n13:a.tmps[29]?.getD undef=.nilIface:=hP 13 29 (by kernel_rfl) (by kernel_rfl)
           go_simp
           exact hK _ _ (Below.refl _ _) fun _=>by first | rfl | exact wrap_val (by omega)
         | _+16=>simp at hop
       · intro V wz hbz hR
         have e14:V 14=.int .i64 to:=hR 14 (by kernel_rfl)
         have e15:V 15=.nilIface:=hR 15 (by kernel_rfl)
         clear hR PL
         refine at_all (prs [17,18,19,20,21,22,23,24,25,26,27,16,28,29,7,8] V) (fun t=>by kernel_rfl) ?_
         simp only [prs,List.zipIdx,List.map,List.foldl,Nat.zero_add,Nat.reduceAdd,List.setIfInBounds_toArray,List.set_cons_zero,List.set_cons_succ,e14,e15]
         have hby:=hbz
         obtain ⟨wy,rfl⟩:∃ wy,wy=wz:=⟨_,rfl⟩
         replace hA:=keep hby hA
         replace hB2:=keep hby hB2
         have hwy:=hbW.trans (hby.mono hbW.size)
         have hgW:g<wy.heap.size:=by have:=hwy.size;omega
         have ii:=fun {o:Nat} {u:Value} (h:w.cell? ⟨g,o,none⟩=some u)=>(hwy.cell (p:=⟨g,o,none⟩) hg).trans h
         replace i0:=ii i0
         replace i1:=ii i1
         replace i2:=ii i2
         replace i3:=ii i3
         replace i4:=ii i4
         replace i5:=ii i5
         have PL:=fun wr (hb:Below wy.heap.size wy wr)=>PL1 wr (hwy.trans (hb.mono hwy.size))
         clear PL1 ii
         go_wp2
         refine wp_region_mono (by kernel_rfl) (by kernel_rfl) (by kernel_rfl) (by kernel_rfl) (by kernel_rfl) (fun (i:Nat) (v:Value) (wv:World)=>match i with | 0=>v=.pointer (some ⟨w.heap.size,0,none⟩) | 1=>v=.pointer (some ⟨bs,0,none⟩) | 2=>v=.pointer (some ⟨w.heap.size+1,2,none⟩) | 3=>v=.slice (some ⟨g,off,none⟩) 2 ec | 4=>v=.pointer (some ⟨g,off+6,none⟩) | 5=>v=.agg #[.int .i64 y.kind,.int .i64 y.op,.string y.name,.int .u64 y.value,.slice ky y.kids.length cy,.int .i64 y.at_] | 6=>∃ fb,v=.tuple #[.int .i64 0,faultV fb]/\FaultAt wv x.1 x.2 fb/\wy.heap.size<=fb | 7=>∃ fb,v=.tuple #[.int .i64 0,faultV fb]/\FaultAt wv x.1 x.2 fb/\wy.heap.size<=fb | 8=>v=.int .i64 0 | 9=>∃ fb,v=faultV fb/\FaultAt wv x.1 x.2 fb/\wy.heap.size<=fb | 10=>v=.int .i64 0 | 11=>∃ fb,v=faultV fb/\FaultAt wv x.1 x.2 fb/\wy.heap.size<=fb | _=>True) ?_ [] (by kernel_rfl) ?_ ?_ ?_
         · intro i v w w' hb h
           match i with
           | 0=>exact h
           | 1=>exact h
           | 2=>exact h
           | 3=>exact h
           | 4=>exact h
           | 5=>exact h
           | 6=>exact ⟨h.choose,h.choose_spec.1,h.choose_spec.2.1.on hb,h.choose_spec.2.2⟩
           | 7=>exact ⟨h.choose,h.choose_spec.1,h.choose_spec.2.1.on hb,h.choose_spec.2.2⟩
           | 8=>exact h
           | 9=>exact ⟨h.choose,h.choose_spec.1,h.choose_spec.2.1.on hb,h.choose_spec.2.2⟩
           | 10=>exact h
           | 11=>exact ⟨h.choose,h.choose_spec.1,h.choose_spec.2.1.on hb,h.choose_spec.2.2⟩
           | _+12=>trivial
         · intro p hp v w h
           cases hp
         · intro a wr i op hop hb hF hP K hK
           have s3:a.tmps[3]?.getD undef=.pointer (some ⟨w.heap.size,0,none⟩):=(hF 3 (by kernel_rfl)).trans rfl
           have s4:a.tmps[4]?.getD undef=.pointer (some ⟨w.heap.size+1,0,none⟩):=(hF 4 (by kernel_rfl)).trans rfl
           have k0:=keep hb hA
           have k1:wr.cell? ⟨w.heap.size,0,none⟩=some (.pointer (some ⟨bs,0,none⟩)):=by rw [Lib.cell_of_heap k0];rfl
           obtain ⟨q0,q1,q2,q3,q4,q5,q6⟩:=stmt_cells (keep hb hB2)
           have a0:=(hb.cell (p:=⟨g,off+6,none⟩) hgW).trans i0
           have a1:=(hb.cell (p:=⟨g,off+6+1,none⟩) hgW).trans i1
           have a2:=(hb.cell (p:=⟨g,off+6+2,none⟩) hgW).trans i2
           have a3:=(hb.cell (p:=⟨g,off+6+3,none⟩) hgW).trans i3
           have a4:=(hb.cell (p:=⟨g,off+6+4,none⟩) hgW).trans i4
           have a5:=(hb.cell (p:=⟨g,off+6+5,none⟩) hgW).trans i5
           match i with
           | 0=>
             obtain rfl:=Option.some.inj hop
             go_simp
             exact hK _ _ (Below.refl _ _) fun _=>by first | rfl | exact wrap_val (by omega)
           | 1=>
             obtain rfl:=Option.some.inj hop
             have n0:a.tmps[34]?.getD undef=.pointer (some ⟨w.heap.size,0,none⟩):=hP 0 34 (by kernel_rfl) (by kernel_rfl)
             go_simp
             exact hK _ _ (Below.refl _ _) fun _=>by first | rfl | exact wrap_val (by omega)
           | 2=>
             obtain rfl:=Option.some.inj hop
             go_simp
             exact hK _ _ (Below.refl _ _) fun _=>by first | rfl | exact wrap_val (by omega)
           | 3=>
             obtain rfl:=Option.some.inj hop
             have n2:a.tmps[36]?.getD undef=.pointer (some ⟨w.heap.size+1,2,none⟩):=hP 2 36 (by kernel_rfl) (by kernel_rfl)
             go_simp
             exact hK _ _ (Below.refl _ _) fun _=>by first | rfl | exact wrap_val (by omega)
           | 4=>
             obtain rfl:=Option.some.inj hop
             have n3:a.tmps[37]?.getD undef=.slice (some ⟨g,off,none⟩) 2 ec:=hP 3 37 (by kernel_rfl) (by kernel_rfl)
             go_simp
             exact hK _ _ (Below.refl _ _) fun _=>by first | rfl | exact wrap_val (by omega)
           | 5=>
             obtain rfl:=Option.some.inj hop
             have n4:a.tmps[38]?.getD undef=.pointer (some ⟨g,off+6,none⟩):=hP 4 38 (by kernel_rfl) (by kernel_rfl)
             go_simp
             exact hK _ _ (Below.refl _ _) fun _=>by first | rfl | exact wrap_val (by omega)
           | 6=>
             obtain rfl:=Option.some.inj hop
             have n1:a.tmps[35]?.getD undef=.pointer (some ⟨bs,0,none⟩):=hP 1 35 (by kernel_rfl) (by kernel_rfl)
             have n5:a.tmps[39]?.getD undef=.agg #[.int .i64 y.kind,.int .i64 y.op,.string y.name,.int .u64 y.value,.slice ky y.kids.length cy,.int .i64 y.at_]:=hP 5 39 (by kernel_rfl) (by kernel_rfl)
             go_simp
             go_at_call 21
             refine (PL wr hb).mono ?_
             rintro ed w1 ⟨hb1,fb,rfl,hfb,hzf⟩
             go_simp
             exact hK _ _ hb1 fun _=>⟨fb,rfl,hfb,Nat.le_trans hb.size hzf⟩
           | 7=>
             obtain rfl:=Option.some.inj hop
             obtain ⟨fb,n6,hfb,hzf⟩:∃ fb,a.tmps[40]?.getD undef=.tuple #[.int .i64 0,faultV fb]/\FaultAt wr x.1 x.2 fb/\wy.heap.size<=fb:=(hP 6 40 (by kernel_rfl) (by kernel_rfl))
             go_simp
             exact hK _ _ (Below.refl _ _) fun _=>⟨fb,rfl,hfb,hzf⟩
           | 8=>
             obtain rfl:=Option.some.inj hop
             obtain ⟨fb,n7,hfb,hzf⟩:∃ fb,a.tmps[33]?.getD undef=.tuple #[.int .i64 0,faultV fb]/\FaultAt wr x.1 x.2 fb/\wy.heap.size<=fb:=(hP 7 33 (by kernel_rfl) (by kernel_rfl))
             go_simp
             exact hK _ _ (Below.refl _ _) fun _=>by first | rfl | exact wrap_val (by omega)
           | 9=>
             obtain rfl:=Option.some.inj hop
             obtain ⟨fb,n7,hfb,hzf⟩:∃ fb,a.tmps[33]?.getD undef=.tuple #[.int .i64 0,faultV fb]/\FaultAt wr x.1 x.2 fb/\wy.heap.size<=fb:=(hP 7 33 (by kernel_rfl) (by kernel_rfl))
             go_simp
             exact hK _ _ (Below.refl _ _) fun _=>⟨fb,rfl,hfb,hzf⟩
           | 10=>
             obtain rfl:=Option.some.inj hop
             have n8:a.tmps[41]?.getD undef=.int .i64 0:=hP 8 41 (by kernel_rfl) (by kernel_rfl)
             go_simp
             exact hK _ _ (Below.refl _ _) fun _=>by first | rfl | exact wrap_val (by omega)
           | 11=>
             obtain rfl:=Option.some.inj hop
             obtain ⟨fb,n9,hfb,hzf⟩:∃ fb,a.tmps[42]?.getD undef=faultV fb/\FaultAt wr x.1 x.2 fb/\wy.heap.size<=fb:=(hP 9 42 (by kernel_rfl) (by kernel_rfl))
             go_simp
             exact hK _ _ (Below.refl _ _) fun _=>⟨fb,rfl,hfb,hzf⟩
           | _+12=>simp at hop
         · intro V wz hbz hR
           have e10:V 10=.int .i64 0:=hR 10 (by kernel_rfl)
           obtain ⟨fb,e11,hfb,hzf⟩:∃ fb,V 11=faultV fb/\FaultAt wz x.1 x.2 fb/\wy.heap.size<=fb:=hR 11 (by kernel_rfl)
           clear hR PL
           refine at_all (prs [34,35,36,37,38,39,40,33,41,42,9,8] V) (fun t=>by kernel_rfl) ?_
           simp only [prs,List.zipIdx,List.map,List.foldl,Nat.zero_add,Nat.reduceAdd,List.setIfInBounds_toArray,List.set_cons_zero,List.set_cons_succ,e10,e11]
           go_wp2
           go_returns
           exact ⟨hwy.trans (hbz.mono hwy.size),fb,rfl,hfb,Nat.le_trans hwy.size hzf⟩
     | ok l=>
       show Calls _ _ _ _ (ErrR w (intoP st s (joinI l pc) to))
       obtain ⟨R2,hR2⟩:∃ R2,intoP st s (joinI l pc) to=R2:=⟨_,rfl⟩
       have PI:=fun w=>into_any st s (some ⟨g,off,none⟩) ec ba bc la lc (joinI l pc) to w
       rw [hR2] at PI ⊢
       unfold sval at PI
       rw [h2] at PI
       clear hR2
       unfold sval
       rw [h2]
       go_enter Tryz.func105,Tryz.ntmps105
       go_wp2
       obtain ⟨W,hW⟩:∃ W,W=(w.alloc (.cells #[.pointer (some ⟨bs,0,none⟩)] 106)).alloc (.cells #[.int .i64 s.kind,.string s.name,.slice (some ⟨g,off,none⟩) 2 ec,.int .i64 s.count,.slice ba s.body.length bc,.slice la s.els.length lc,.int .i64 s.at_] 45):=⟨_,rfl⟩
       have hA:W.heap[w.heap.size]?=some (.cells #[.pointer (some ⟨bs,0,none⟩)] 106 (0,0)):=by rw [hW];exact two_first _ _ _
       have hB2:W.heap[w.heap.size+1]?=some (.cells #[.int .i64 s.kind,.string s.name,.slice (some ⟨g,off,none⟩) 2 ec,.int .i64 s.count,.slice ba s.body.length bc,.slice la s.els.length lc,.int .i64 s.at_] 45 (0,0)):=by rw [hW];exact two_second _ _ _
       have hbW:Below w.heap.size w W:=by rw [hW];exact two_below _ _ _
       rw [<- hW]
       clear hW
       have PL:=fun wr (hb:Below W.heap.size W wr)=>PL0 wr (hbW.trans (hb.mono hbW.size))
       clear PL0
       refine wp_region_mono (by kernel_rfl) (by kernel_rfl) (by kernel_rfl) (by kernel_rfl) (by kernel_rfl) (fun (i:Nat) (v:Value) (wv:World)=>match i with | 0=>v=.pointer (some ⟨w.heap.size,0,none⟩) | 1=>v=.pointer (some ⟨bs,0,none⟩) | 2=>v=.pointer (some ⟨w.heap.size+1,1,none⟩) | 3=>v=.string s.name | 4=>v=.pointer (some ⟨w.heap.size+1,2,none⟩) | 5=>v=.slice (some ⟨g,off,none⟩) 2 ec | 6=>v=.slice (some ⟨g,off,none⟩) 1 ec | 7=>v=.pointer (some ⟨w.heap.size+1,6,none⟩) | 8=>v=.int .i64 s.at_ | 9=>v=.agg #[.int .i64 2,.int .i64 0,.string s.name,.int .u64 0,.slice (some ⟨g,off,none⟩) 1 ec,.int .i64 s.at_] | 10=>v=.tuple #[.int .i64 to,.nilIface] | 11=>v=.tuple #[.int .i64 to,.nilIface] | 12=>v=.int .i64 to | 13=>v=.nilIface | 14=>v=.int .i64 to | 15=>v=.nilIface | _=>True) ?_ [] (by kernel_rfl) ?_ ?_ ?_
       · intro i v w w' hb h
         match i with
         | 0=>exact h
         | 1=>exact h
         | 2=>exact h
         | 3=>exact h
         | 4=>exact h
         | 5=>exact h
         | 6=>exact h
         | 7=>exact h
         | 8=>exact h
         | 9=>exact h
         | 10=>exact h
         | 11=>exact h
         | 12=>exact h
         | 13=>exact h
         | 14=>exact h
         | 15=>exact h
         | _+16=>trivial
       · intro p hp v w h
         cases hp
       · intro a wr i op hop hb hF hP K hK
         have s3:a.tmps[3]?.getD undef=.pointer (some ⟨w.heap.size,0,none⟩):=(hF 3 (by kernel_rfl)).trans rfl
         have s4:a.tmps[4]?.getD undef=.pointer (some ⟨w.heap.size+1,0,none⟩):=(hF 4 (by kernel_rfl)).trans rfl
         have k0:=keep hb hA
         have k1:wr.cell? ⟨w.heap.size,0,none⟩=some (.pointer (some ⟨bs,0,none⟩)):=by rw [Lib.cell_of_heap k0];rfl
         obtain ⟨q0,q1,q2,q3,q4,q5,q6⟩:=stmt_cells (keep hb hB2)
         match i with
         | 0=>
           obtain rfl:=Option.some.inj hop
           go_simp
           exact hK _ _ (Below.refl _ _) fun _=>by first | rfl | exact wrap_val (by omega)
         | 1=>
           obtain rfl:=Option.some.inj hop
           have n0:a.tmps[17]?.getD undef=.pointer (some ⟨w.heap.size,0,none⟩):=hP 0 17 (by kernel_rfl) (by kernel_rfl)
           go_simp
           exact hK _ _ (Below.refl _ _) fun _=>by first | rfl | exact wrap_val (by omega)
         | 2=>
           obtain rfl:=Option.some.inj hop
           go_simp
           exact hK _ _ (Below.refl _ _) fun _=>by first | rfl | exact wrap_val (by omega)
         | 3=>
           obtain rfl:=Option.some.inj hop
           have n2:a.tmps[19]?.getD undef=.pointer (some ⟨w.heap.size+1,1,none⟩):=hP 2 19 (by kernel_rfl) (by kernel_rfl)
           go_simp
           exact hK _ _ (Below.refl _ _) fun _=>by first | rfl | exact wrap_val (by omega)
         | 4=>
           obtain rfl:=Option.some.inj hop
           go_simp
           exact hK _ _ (Below.refl _ _) fun _=>by first | rfl | exact wrap_val (by omega)
         | 5=>
           obtain rfl:=Option.some.inj hop
           have n4:a.tmps[21]?.getD undef=.pointer (some ⟨w.heap.size+1,2,none⟩):=hP 4 21 (by kernel_rfl) (by kernel_rfl)
           go_simp
           exact hK _ _ (Below.refl _ _) fun _=>by first | rfl | exact wrap_val (by omega)
         | 6=>
           obtain rfl:=Option.some.inj hop
           have n5:a.tmps[22]?.getD undef=.slice (some ⟨g,off,none⟩) 2 ec:=hP 5 22 (by kernel_rfl) (by kernel_rfl)
           go_simp
           rw [if_pos (show (1:Int)<=(ec:Int) by omega)]
           go_simp
           exact hK _ _ (Below.refl _ _) fun _=>by first | rfl | exact wrap_val (by omega)
         | 7=>
           obtain rfl:=Option.some.inj hop
           go_simp
           exact hK _ _ (Below.refl _ _) fun _=>by first | rfl | exact wrap_val (by omega)
         | 8=>
           obtain rfl:=Option.some.inj hop
           have n7:a.tmps[24]?.getD undef=.pointer (some ⟨w.heap.size+1,6,none⟩):=hP 7 24 (by kernel_rfl) (by kernel_rfl)
           go_simp
           exact hK _ _ (Below.refl _ _) fun _=>by first | rfl | exact wrap_val (by omega)
         | 9=>
           obtain rfl:=Option.some.inj hop
           have n3:a.tmps[20]?.getD undef=.string s.name:=hP 3 20 (by kernel_rfl) (by kernel_rfl)
           have n6:a.tmps[23]?.getD undef=.slice (some ⟨g,off,none⟩) 1 ec:=hP 6 23 (by kernel_rfl) (by kernel_rfl)
           have n8:a.tmps[25]?.getD undef=.int .i64 s.at_:=hP 8 25 (by kernel_rfl) (by kernel_rfl)
           go_simp
           exact hK _ _ (Below.refl _ _) fun _=>by first | rfl | exact wrap_val (by omega)
         | 10=>
           obtain rfl:=Option.some.inj hop
           have n1:a.tmps[18]?.getD undef=.pointer (some ⟨bs,0,none⟩):=hP 1 18 (by kernel_rfl) (by kernel_rfl)
           have n9:a.tmps[26]?.getD undef=.agg #[.int .i64 2,.int .i64 0,.string s.name,.int .u64 0,.slice (some ⟨g,off,none⟩) 1 ec,.int .i64 s.at_]:=hP 9 26 (by kernel_rfl) (by kernel_rfl)
           go_simp
           go_at_call 21
           refine (PL wr hb).mono ?_
           rintro ed w1 ⟨hb1,rfl⟩
           go_simp
           exact hK _ _ hb1 fun _=>rfl
         | 11=>
           obtain rfl:=Option.some.inj hop
           have n10:a.tmps[27]?.getD undef=.tuple #[.int .i64 to,.nilIface]:=hP 10 27 (by kernel_rfl) (by kernel_rfl)
           go_simp
           exact hK _ _ (Below.refl _ _) fun _=>by first | rfl | exact wrap_val (by omega)
         | 12=>
           obtain rfl:=Option.some.inj hop
           have n11:a.tmps[16]?.getD undef=.tuple #[.int .i64 to,.nilIface]:=hP 11 16 (by kernel_rfl) (by kernel_rfl)
           go_simp
           exact hK _ _ (Below.refl _ _) fun _=>by first | rfl | exact wrap_val (by omega)
         | 13=>
           obtain rfl:=Option.some.inj hop
           have n11:a.tmps[16]?.getD undef=.tuple #[.int .i64 to,.nilIface]:=hP 11 16 (by kernel_rfl) (by kernel_rfl)
           go_simp
           exact hK _ _ (Below.refl _ _) fun _=>by first | rfl | exact wrap_val (by omega)
         | 14=>
           obtain rfl:=Option.some.inj hop
           have n12:a.tmps[28]?.getD undef=.int .i64 to:=hP 12 28 (by kernel_rfl) (by kernel_rfl)
           go_simp
           exact hK _ _ (Below.refl _ _) fun _=>by first | rfl | exact wrap_val (by omega)
         | 15=>
           obtain rfl:=Option.some.inj hop
           have n13:a.tmps[29]?.getD undef=.nilIface:=hP 13 29 (by kernel_rfl) (by kernel_rfl)
           go_simp
           exact hK _ _ (Below.refl _ _) fun _=>by first | rfl | exact wrap_val (by omega)
         | _+16=>simp at hop
       · intro V wz hbz hR
         have e14:V 14=.int .i64 to:=hR 14 (by kernel_rfl)
         have e15:V 15=.nilIface:=hR 15 (by kernel_rfl)
         clear hR PL
         refine at_all (prs [17,18,19,20,21,22,23,24,25,26,27,16,28,29,7,8] V) (fun t=>by kernel_rfl) ?_
         simp only [prs,List.zipIdx,List.map,List.foldl,Nat.zero_add,Nat.reduceAdd,List.setIfInBounds_toArray,List.set_cons_zero,List.set_cons_succ,e14,e15]
         have hby:=hbz
         obtain ⟨wy,rfl⟩:∃ wy,wy=wz:=⟨_,rfl⟩
         replace hA:=keep hby hA
         replace hB2:=keep hby hB2
         have hwy:=hbW.trans (hby.mono hbW.size)
         have hgW:g<wy.heap.size:=by have:=hwy.size;omega
         have ii:=fun {o:Nat} {u:Value} (h:w.cell? ⟨g,o,none⟩=some u)=>(hwy.cell (p:=⟨g,o,none⟩) hg).trans h
         replace i0:=ii i0
         replace i1:=ii i1
         replace i2:=ii i2
         replace i3:=ii i3
         replace i4:=ii i4
         replace i5:=ii i5
         have PL:=fun wr (hb:Below wy.heap.size wy wr)=>PL1 wr (hwy.trans (hb.mono hwy.size))
         clear PL1 ii
         go_wp2
         refine wp_region_mono (by kernel_rfl) (by kernel_rfl) (by kernel_rfl) (by kernel_rfl) (by kernel_rfl) (fun (i:Nat) (v:Value) (wv:World)=>match i with | 0=>v=.pointer (some ⟨w.heap.size,0,none⟩) | 1=>v=.pointer (some ⟨bs,0,none⟩) | 2=>v=.pointer (some ⟨w.heap.size+1,2,none⟩) | 3=>v=.slice (some ⟨g,off,none⟩) 2 ec | 4=>v=.pointer (some ⟨g,off+6,none⟩) | 5=>v=.agg #[.int .i64 y.kind,.int .i64 y.op,.string y.name,.int .u64 y.value,.slice ky y.kids.length cy,.int .i64 y.at_] | 6=>v=.tuple #[.int .i64 l,.nilIface] | 7=>v=.tuple #[.int .i64 l,.nilIface] | 8=>v=.int .i64 l | 9=>v=.nilIface | 10=>v=.int .i64 l | 11=>v=.nilIface | _=>True) ?_ [] (by kernel_rfl) ?_ ?_ ?_
         · intro i v w w' hb h
           match i with
           | 0=>exact h
           | 1=>exact h
           | 2=>exact h
           | 3=>exact h
           | 4=>exact h
           | 5=>exact h
           | 6=>exact h
           | 7=>exact h
           | 8=>exact h
           | 9=>exact h
           | 10=>exact h
           | 11=>exact h
           | _+12=>trivial
         · intro p hp v w h
           cases hp
         · intro a wr i op hop hb hF hP K hK
           have s3:a.tmps[3]?.getD undef=.pointer (some ⟨w.heap.size,0,none⟩):=(hF 3 (by kernel_rfl)).trans rfl
           have s4:a.tmps[4]?.getD undef=.pointer (some ⟨w.heap.size+1,0,none⟩):=(hF 4 (by kernel_rfl)).trans rfl
           have k0:=keep hb hA
           have k1:wr.cell? ⟨w.heap.size,0,none⟩=some (.pointer (some ⟨bs,0,none⟩)):=by rw [Lib.cell_of_heap k0];rfl
           obtain ⟨q0,q1,q2,q3,q4,q5,q6⟩:=stmt_cells (keep hb hB2)
           have a0:=(hb.cell (p:=⟨g,off+6,none⟩) hgW).trans i0
           have a1:=(hb.cell (p:=⟨g,off+6+1,none⟩) hgW).trans i1
           have a2:=(hb.cell (p:=⟨g,off+6+2,none⟩) hgW).trans i2
           have a3:=(hb.cell (p:=⟨g,off+6+3,none⟩) hgW).trans i3
           have a4:=(hb.cell (p:=⟨g,off+6+4,none⟩) hgW).trans i4
           have a5:=(hb.cell (p:=⟨g,off+6+5,none⟩) hgW).trans i5
           match i with
           | 0=>
             obtain rfl:=Option.some.inj hop
             go_simp
             exact hK _ _ (Below.refl _ _) fun _=>by first | rfl | exact wrap_val (by omega)
           | 1=>
             obtain rfl:=Option.some.inj hop
             have n0:a.tmps[34]?.getD undef=.pointer (some ⟨w.heap.size,0,none⟩):=hP 0 34 (by kernel_rfl) (by kernel_rfl)
             go_simp
             exact hK _ _ (Below.refl _ _) fun _=>by first | rfl | exact wrap_val (by omega)
           | 2=>
             obtain rfl:=Option.some.inj hop
             go_simp
             exact hK _ _ (Below.refl _ _) fun _=>by first | rfl | exact wrap_val (by omega)
           | 3=>
             obtain rfl:=Option.some.inj hop
             have n2:a.tmps[36]?.getD undef=.pointer (some ⟨w.heap.size+1,2,none⟩):=hP 2 36 (by kernel_rfl) (by kernel_rfl)
             go_simp
             exact hK _ _ (Below.refl _ _) fun _=>by first | rfl | exact wrap_val (by omega)
           | 4=>
             obtain rfl:=Option.some.inj hop
             have n3:a.tmps[37]?.getD undef=.slice (some ⟨g,off,none⟩) 2 ec:=hP 3 37 (by kernel_rfl) (by kernel_rfl)
             go_simp
             exact hK _ _ (Below.refl _ _) fun _=>by first | rfl | exact wrap_val (by omega)
           | 5=>
             obtain rfl:=Option.some.inj hop
             have n4:a.tmps[38]?.getD undef=.pointer (some ⟨g,off+6,none⟩):=hP 4 38 (by kernel_rfl) (by kernel_rfl)
             go_simp
             exact hK _ _ (Below.refl _ _) fun _=>by first | rfl | exact wrap_val (by omega)
           | 6=>
             obtain rfl:=Option.some.inj hop
             have n1:a.tmps[35]?.getD undef=.pointer (some ⟨bs,0,none⟩):=hP 1 35 (by kernel_rfl) (by kernel_rfl)
             have n5:a.tmps[39]?.getD undef=.agg #[.int .i64 y.kind,.int .i64 y.op,.string y.name,.int .u64 y.value,.slice ky y.kids.length cy,.int .i64 y.at_]:=hP 5 39 (by kernel_rfl) (by kernel_rfl)
             go_simp
             go_at_call 21
             refine (PL wr hb).mono ?_
             rintro ed w1 ⟨hb1,rfl⟩
             go_simp
             exact hK _ _ hb1 fun _=>rfl
           | 7=>
             obtain rfl:=Option.some.inj hop
             have n6:a.tmps[40]?.getD undef=.tuple #[.int .i64 l,.nilIface]:=hP 6 40 (by kernel_rfl) (by kernel_rfl)
             go_simp
             exact hK _ _ (Below.refl _ _) fun _=>by first | rfl | exact wrap_val (by omega)
           | 8=>
             obtain rfl:=Option.some.inj hop
             have n7:a.tmps[33]?.getD undef=.tuple #[.int .i64 l,.nilIface]:=hP 7 33 (by kernel_rfl) (by kernel_rfl)
             go_simp
             exact hK _ _ (Below.refl _ _) fun _=>by first | rfl | exact wrap_val (by omega)
           | 9=>
             obtain rfl:=Option.some.inj hop
             have n7:a.tmps[33]?.getD undef=.tuple #[.int .i64 l,.nilIface]:=hP 7 33 (by kernel_rfl) (by kernel_rfl)
             go_simp
             exact hK _ _ (Below.refl _ _) fun _=>by first | rfl | exact wrap_val (by omega)
           | 10=>
             obtain rfl:=Option.some.inj hop
             have n8:a.tmps[41]?.getD undef=.int .i64 l:=hP 8 41 (by kernel_rfl) (by kernel_rfl)
             go_simp
             exact hK _ _ (Below.refl _ _) fun _=>by first | rfl | exact wrap_val (by omega)
           | 11=>
             obtain rfl:=Option.some.inj hop
             have n9:a.tmps[42]?.getD undef=.nilIface:=hP 9 42 (by kernel_rfl) (by kernel_rfl)
             go_simp
             exact hK _ _ (Below.refl _ _) fun _=>by first | rfl | exact wrap_val (by omega)
           | _+12=>simp at hop
         · intro V wz hbz hR
           have e10:V 10=.int .i64 l:=hR 10 (by kernel_rfl)
           have e11:V 11=.nilIface:=hR 11 (by kernel_rfl)
           clear hR PL
           refine at_all (prs [34,35,36,37,38,39,40,33,41,42,9,8] V) (fun t=>by kernel_rfl) ?_
           simp only [prs,List.zipIdx,List.map,List.foldl,Nat.zero_add,Nat.reduceAdd,List.setIfInBounds_toArray,List.set_cons_zero,List.set_cons_succ,e10,e11]
           have hH:=keep hbz hB2
           have hz2:=hwy.trans (hbz.mono hwy.size)
           obtain ⟨w2,rfl⟩:∃ w2,w2=wz:=⟨_,rfl⟩
           go_wp2
           refine wp_region_mono (by kernel_rfl) (by kernel_rfl) (by kernel_rfl) (by kernel_rfl) (by kernel_rfl) (fun (i:Nat) (v:Value) (wv:World)=>match i with | 0=>v=.agg #[.int .i64 s.kind,.string s.name,.slice (some ⟨g,off,none⟩) 2 ec,.int .i64 s.count,.slice ba s.body.length bc,.slice la s.els.length lc,.int .i64 s.at_] | 1=>v=.int .i64 l | 2=>v=.int .i64 pc | 3=>PairAt wv l pc v | 4=>v=.int .i64 (joinI l pc) | 5=>v=.int .i64 to | 6=>ErrR w2 R2 (.returned v) wv | 7=>ErrR w2 R2 (.returned v) wv | _=>True) ?_ [] (by kernel_rfl) ?_ ?_ ?_
           · intro i v w w' hb h
             match i with
             | 0=>exact h
             | 1=>exact h
             | 2=>exact h
             | 3=>exact PairAt.on h hb
             | 4=>exact h
             | 5=>exact h
             | 6=>exact ErrR.later h hb
             | 7=>exact ErrR.later h hb
             | _+8=>trivial
           · intro p hp v w h
             cases hp
           · intro a wr i op hop hb hF hP K hK
             have s2:a.tmps[2]?.getD undef=.int .i64 pc:=(hF 2 (by kernel_rfl)).trans rfl
             have s4:a.tmps[4]?.getD undef=.pointer (some ⟨w.heap.size+1,0,none⟩):=(hF 4 (by kernel_rfl)).trans rfl
             have s7:a.tmps[7]?.getD undef=.int .i64 to:=(hF 7 (by kernel_rfl)).trans rfl
             have s9:a.tmps[9]?.getD undef=.int .i64 l:=(hF 9 (by kernel_rfl)).trans rfl
             obtain ⟨x0,x1,x2,x3,x4,x5,x6⟩:=stmt_cells (keep hb hH)
             match i with
             | 0=>
               obtain rfl:=Option.some.inj hop
               go_simp
               exact hK _ _ (Below.refl _ _) fun _=>by first | rfl | exact wrap_val (by omega)
             | 1=>
               obtain rfl:=Option.some.inj hop
               go_simp
               exact hK _ _ (Below.refl _ _) fun _=>by first | rfl | exact wrap_val (by omega)
             | 2=>
               obtain rfl:=Option.some.inj hop
               go_simp
               exact hK _ _ (Below.refl _ _) fun _=>by first | rfl | exact wrap_val (by omega)
             | 3=>
               obtain rfl:=Option.some.inj hop
               have n1:a.tmps[47]?.getD undef=.int .i64 l:=hP 1 47 (by kernel_rfl) (by kernel_rfl)
               have n2:a.tmps[48]?.getD undef=.int .i64 pc:=hP 2 48 (by kernel_rfl) (by kernel_rfl)
               go_simp
               exact hK _ _ ((Below.refl _ _).alloc (Nat.le_refl _) _) fun _=>⟨wr.heap.size,rfl,by rw [alloc_size];omega,by rw [Lib.cell_of_heap (heap_alloc_new _ _)];rfl,by rw [Lib.cell_of_heap (heap_alloc_new _ _)];rfl⟩
             | 4=>
               obtain rfl:=Option.some.inj hop
               obtain ⟨gg,n3,hgl,hg0,hg1⟩:PairAt wr l pc (a.tmps[49]?.getD undef):=(hP 3 49 (by kernel_rfl) (by kernel_rfl))
               go_simp
               go_at_call 72
               refine (join_two gg l pc wr hg0 hg1).mono ?_
               rintro ed w5 ⟨rfl,rfl⟩
               go_simp
               exact hK _ _ (Below.refl _ _) fun _=>by first | rfl | exact wrap_val (by omega)
             | 5=>
               obtain rfl:=Option.some.inj hop
               go_simp
               exact hK _ _ (Below.refl _ _) fun _=>by first | rfl | exact wrap_val (by omega)
             | 6=>
               obtain rfl:=Option.some.inj hop
               have n0:a.tmps[46]?.getD undef=.agg #[.int .i64 s.kind,.string s.name,.slice (some ⟨g,off,none⟩) 2 ec,.int .i64 s.count,.slice ba s.body.length bc,.slice la s.els.length lc,.int .i64 s.at_]:=hP 0 46 (by kernel_rfl) (by kernel_rfl)
               have n4:a.tmps[50]?.getD undef=.int .i64 (joinI l pc):=hP 4 50 (by kernel_rfl) (by kernel_rfl)
               have n5:a.tmps[51]?.getD undef=.int .i64 to:=hP 5 51 (by kernel_rfl) (by kernel_rfl)
               go_simp
               go_at_call 132
               refine (PI wr).mono ?_
               rintro ed w5 hE
               obtain ⟨u,rfl⟩:=hE.ret
               go_simp
               exact hK _ _ hE.1 fun _=>hE.on hb
             | 7=>
               obtain rfl:=Option.some.inj hop
               obtain ⟨u,n6,hE6⟩:∃ u,a.tmps[52]?.getD undef=u/\ErrR w2 R2 (.returned u) wr:=⟨_,rfl,(hP 6 52 (by kernel_rfl) (by kernel_rfl))⟩
               go_simp
               exact hK _ _ (Below.refl _ _) fun _=>hE6
             | _+8=>simp at hop
           · intro V wz hbz hR
             obtain ⟨u,e7,hE7⟩:∃ u,V 7=u/\ErrR w2 R2 (.returned u) wz:=⟨_,rfl,hR 7 (by kernel_rfl)⟩
             clear hR PI
             refine at_all (prs [46,47,48,49,50,51,52,6] V) (fun t=>by kernel_rfl) ?_
             simp only [prs,List.zipIdx,List.map,List.foldl,Nat.zero_add,Nat.reduceAdd,List.setIfInBounds_toArray,List.set_cons_zero,List.set_cons_succ,e7]
             go_wp2
             go_returns
             exact hE7.on hz2
 · rw [store_none h2]
   have HM:=fun w=>mistake_any s ea ec ba bc la lc w
   have hb2:∀ o o',Below w.heap.size w ((w.alloc o).alloc o'):=fun o o'=>two_below w o o'
   have h2I:¬ (s.exprs.length:Int)=2:=by omega
   have h2b:((s.exprs.length:Int) != 2)=true:=by simpa using h2I
   clear hS hf hK hn hns
   unfold sval at HM ⊢
   go_enter Tryz.func105,Tryz.ntmps105
   go_wp2_with (go_at_call 131;refine (HM _).mono ?_;rintro ed w2 ⟨hbl,fb,rfl,hfb,hzf⟩)
   go_returns
   exact ErrR.on (r:=.error (3,s.at_)) ⟨hbl,fb,rfl,hfb,hzf⟩ (hb2 _ _)
end Go.Proofs.YtlepckjmdjjolaaGreatDoor.Fl
