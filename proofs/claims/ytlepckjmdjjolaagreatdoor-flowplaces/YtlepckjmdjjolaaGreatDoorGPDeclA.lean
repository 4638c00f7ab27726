/- Own texts laid together: PBlock, PDecl, PDecl2, PDecls, PThreads. Conditions: as each theorem says. -/
import Derived.Test.YtlepckjmdjjolaaGreatDoorHPStmtC
set_option maxHeartbeats 4000000
set_option maxRecDepth 100000
set_option linter.unusedVariables false
set_option linter.unusedSimpArgs false
namespace Go.Proofs.YtlepckjmdjjolaaGreatDoor.Pr
open Go.ChangeShapes Go.WideShapes Go.ChangeAt Go.RowKit
open Lx (Tok)
def SElems (lo n:Nat) (w:World) (own:Option Nat) (xs:List Value) (ss:List Stm):Prop:=
 ∀ (i:Nat) (s:Stm),ss[i]?=some s->∃ a b u,Cells7 xs i u/\lo<=a/\b<=w.heap.size/\(∀ g,own=some g->g<a\/b<=g)/\SRep a b w bigM n u s
def SRow (lo n:Nat) (w:World) (v:Value) (ss:List Stm):Prop:=
 ∃ xs,w.ownsRow lo 45 7 v ss.length xs/\lo<=w.heap.size/\SElems lo n w v.ownBlock xs ss
theorem SRow.nil {lo n:Nat} {w:World} (h:lo<=w.heap.size):SRow lo n w (.slice none 0 0) []:=⟨[],World.ownsRow_nil _ _ _ _,h,fun i s hs=>by simp at hs⟩
theorem SRow.on {lo n:Nat} {w w':World} {v:Value} {ss:List Stm} (h:SRow lo n w v ss) (hz:w.heap.size<=w'.heap.size) (hs:TSame 45 w w') (he:TSame 50 w w'):SRow lo n w' v ss:=by
 obtain ⟨xs,ho,hl,hr⟩:=h
 refine ⟨xs,own_same ho hs,by omega,fun i s hi=>?_⟩
 obtain ⟨a,b,u,h1,h2,h3,h4,h5⟩:=hr i s hi
 exact ⟨a,b,u,h1,h2,by omega,h4,h5.carry (Nat.le_refl _) (Nat.le_refl _) (he.s35 a b) (hs.s45 a b)⟩
theorem SRow.stms {lo n:Nat} {w:World} {v:Value} {ss:List Stm} (h:SRow lo n w v ss) (hlen:ss.length<=4294967296):Stms lo w.heap.size w (fun v' s'=>SRep lo w.heap.size w bigM n v' s') v ss:=by
 obtain ⟨xs,ho,hl,hr⟩:=h
 rcases ho.2 with ⟨rfl,h0⟩ | ⟨g,cap,cur,rfl,hb,hgg,rest⟩
 · rw [List.length_eq_zero_iff.1 h0];exact stms0
 · refine ⟨_,cap,rfl,hlen,fun i s hs=>?_⟩
   obtain ⟨a,b,u,⟨c0,c1,c2,c3,c4,c5,c6,e0,e1,e2,e3,e4,e5,e6,rfl⟩,ha,hb',hg,hS⟩:=hr i s hs
   have key:∀ j u,xs[j]?=some u->w.cell? ⟨g,0+j,none⟩=some u:=fun j u hu=>by
    have:=World.ownsRow.cells ho (g:=g) rfl j u hu
    rw [Lib.add_plain] at this
    exact this
   have key':∀ j r u,xs[j+r]?=some u->w.cell? ⟨g,0+j+r,none⟩=some u:=fun j r u hu=>by rw [Nat.add_assoc];exact key _ _ hu
   exact ⟨g,0,c0,c1,c2,c3,c4,c5,c6,rfl,hb,heap_lt hgg,⟨_,_,hgg,rfl,rfl⟩,key _ _ e0,key' _ _ _ e1,key' _ _ _ e2,key' _ _ _ e3,key' _ _ _ e4,key' _ _ _ e5,key' _ _ _ e6,hS.carry ha hb' (fun _ _ _ _ _ h=>h) (fun _ _ _ _ _ h=>h)⟩
theorem RdAt.tsame {B br:Nat} {r:Rd} {w w':World} (h:RdAt B br r w) (hg:w.grownBy w' (some br)) {t:TypeId} (ht:t≠85):TSame t w w':=fun k cs fr hk=>h.heap hg hk ht
theorem RdAt.err {B br:Nat} {r:Rd} {w:World} (h:RdAt B br r w):∃ ev,w.cell? ⟨br,2,none⟩=some ev/\ErrAt w ev r.err:=by
 obtain ⟨_,_,_,g,off,cap,sg,ev,hb,_,_,_,_,he⟩:=h
 exact ⟨ev,(three_cells hb).2.2,he⟩
theorem cells7_last {xs:List Value} {n:Nat} (hl:xs.length=n*7) (c0 c1 c2 c3 c4 c5 c6:Value):Cells7 (xs++[c0,c1,c2,c3,c4,c5,c6]) n (.agg #[c0,c1,c2,c3,c4,c5,c6]):=by
 have key:∀ (j:Nat) (c:Value),[c0,c1,c2,c3,c4,c5,c6][j]?=some c->(xs++[c0,c1,c2,c3,c4,c5,c6])[n*7+j]?=some c:=fun j c h=>by
    rw [List.getElem?_append_right (by omega),show n*7+j-xs.length=j by omega];exact h
 exact ⟨c0,c1,c2,c3,c4,c5,c6,key 0 _ rfl,key 1 _ rfl,key 2 _ rfl,key 3 _ rfl,key 4 _ rfl,key 5 _ rfl,key 6 _ rfl,rfl⟩
theorem srow_more {lo n:Nat} {w w1:World} {v:Value} {ss:List Stm} {s:Stm} {x0 x1 x2 x3 x4 x5 x6:Value} {gg cap a:Nat} {xs:List Value} (hown:w.ownsRow lo 45 7 v ss.length xs) (hlo:lo<=w.heap.size) (hel:SElems lo n w v.ownBlock xs ss)
    (hS:SRep a w.heap.size w bigM n (.agg #[x0,x1,x2,x3,x4,x5,x6]) s) (ha:lo<=a) (hva:∀ g,v.ownBlock=some g->g<a)
    (hown1:(w1.ownsRow lo 45 7 (.slice (some ⟨gg,0,none⟩) (ss.length+1) cap) (ss.length+1) (xs++[x0,x1,x2,x3,x4,x5,x6]))) {W:World} (hWs:∀ (k:Nat) (o:Obj),w.heap[k]?=some o->W.heap[k]?=some o) (hWz:w.heap.size<=W.heap.size) (hgrow:W.grownBy w1 v.ownBlock) (hat:v.ownBlock=some gg\/gg=W.heap.size):
    SRow lo n w1 (.slice (some ⟨gg,0,none⟩) (ss.length+1) cap) (ss++[s]):=by
 have hz1:=hgrow.size
 have hfar:∀ (k:Nat) (o:Obj),v.ownBlock≠some k->w.heap[k]?=some o->w1.heap[k]?=some o:=fun k o hk hc=>(hgrow.block k (heap_lt (hWs k o hc)) (fun e=>hk e.symm)).trans (hWs k o hc)
 have nfar:∀ (p q:Nat),q<=w.heap.size->(∀ k,v.ownBlock=some k->k<p\/q<=k)->(∀ k,(Value.slice (some ⟨gg,0,none⟩) (ss.length+1) cap).ownBlock=some k->k<p\/q<=k):=fun p q hq h k hk=>by
    have:gg=k:=by simpa [Value.ownBlock] using hk
    subst this
    rcases hat with h' | h'
    · exact h gg h'
    · right;omega
 have s35:∀ (p q:Nat),(∀ k,v.ownBlock=some k->k<p\/q<=k)->Same35 p q w w1:=fun p q h k cs fr h1 h2 hc=>hfar k _ (fun e=>by rcases h k e with h' | h' <;> omega) hc
 have s45:∀ (p q:Nat),(∀ k,v.ownBlock=some k->k<p\/q<=k)->Same45 p q w w1:=fun p q h k cs fr h1 h2 hc=>hfar k _ (fun e=>by rcases h k e with h' | h' <;> omega) hc
 have el:(ss++[s]).length=ss.length+1:=by simp
 refine ⟨xs++[x0,x1,x2,x3,x4,x5,x6],by rw [el];exact hown1,by omega,fun i e he=>?_⟩
 by_cases hi:i<ss.length
 · rw [List.getElem?_append_left hi] at he
   obtain ⟨p,q,u,b1,b2,b3,b4,b5⟩:=hel i e he
   exact ⟨p,q,u,cells7_left b1,b2,by omega,nfar p q b3 b4,b5.carry (Nat.le_refl _) (Nat.le_refl _) (s35 p q b4) (s45 p q b4)⟩
 · rw [List.getElem?_append_right (by omega)] at he
   have hi0:i=ss.length:=by
    rcases Nat.eq_zero_or_pos (i-ss.length) with h | h
    · omega
    · rw [List.getElem?_eq_none (by simp;omega)] at he;cases he
   subst hi0
   simp at he
   subst he
   have hv':∀ k,v.ownBlock=some k->k<a\/w.heap.size<=k:=fun k hk=>.inl (hva k hk)
   exact ⟨a,w.heap.size,_,cells7_last hown.1 _ _ _ _ _ _ _,ha,by omega,nfar a _ (Nat.le_refl _) hv',hS.carry (Nat.le_refl _) (Nat.le_refl _) (s35 a _ hv') (s45 a _ hv')⟩
theorem srep_agg {lo B m n:Nat} {w:World} {v:Value} {s:Stm} (h:SRep lo B w m n v s):∃ a1 a2 a3 a4 a5 a6,v=.agg #[.int .i64 s.kind,.string s.name,.slice a1 s.exprs.length a2,.int .i64 s.count,.slice a3 s.body.length a4,.slice a5 s.els.length a6,.int .i64 s.at_]:=by
 cases n with
 | zero=>exact h.elim
 | succ n=>obtain ⟨_,_,_,a1,a2,a3,a4,a5,a6,e,_⟩:=h;exact ⟨a1,a2,a3,a4,a5,a6,e⟩
theorem kind_next {r:Rd} (hg:r.good) {k:Int} (h:kindP r.here=some k):r.next.good/\r.next.ts.length+1=r.ts.length:=by
 rcases good_cases hg with ⟨j,_,e⟩ | ⟨_,_,_,h1,_,h3⟩
 · rw [e] at h
   have:kindP (endT j)=none:=rfl
   rw [this] at h;cases h
 · exact ⟨h1,h3⟩
theorem st_dec (f d:Nat) (r:Rd) (hg:r.good):(stP f d r).2.err.isSome=true\/(stP f d r).2.ts.length<r.ts.length:=by
 cases f with
 | zero=>
   left
   show (if (kindP r.here).isNone then r.fail 2 else r.fail 6).err.isSome=true
   split;exact fail_err 2 r;exact fail_err 6 r
 | succ f=>
   show (stmtOf (blockOf (stP f)) d r).2.err.isSome=true\/(stmtOf (blockOf (stP f)) d r).2.ts.length<r.ts.length
   unfold stmtOf
   cases hk:kindP r.here with
   | none=>left;exact fail_err 2 r
   | some k=>
     obtain ⟨g1,l1⟩:=kind_next hg hk
     simp only
     split
     · left;exact fail_err 6 r
     have tb:ToB (blockOf (stP f)):=to_block (to_st f)
     right
     split
     · have:=(to_choice tb d ⟨k,⟨#[]⟩,[],0,[],[],r.here.at_⟩ r.next).2.1 g1;omega
     split
     · have:=(((to_name r.next).trans (to_number 256 _)).trans (tb (d+1) _)).2.1 g1;simp only;omega
     · have:=((to_simple r.here d ⟨k,⟨#[]⟩,[],0,[],[],r.here.at_⟩ r.next).trans (to_want [59] _)).2.1 g1;simp only;omega
def need (r:Rd):Nat:=if r.err.isSome then 1 else r.ts.length+1
def needAt (br:Nat) (w:World):Nat:=match w.cell? ⟨br,2,none⟩ with | some .nilIface=>lenAt br w+1 | _=>1
theorem RdAt.need {B br:Nat} {r:Rd} {w:World} (h:RdAt B br r w):needAt br w=Pr.need r:=by
 obtain ⟨ev,hc,he⟩:=h.err
 unfold needAt Pr.need
 rw [hc]
 cases hr:r.err with
 | none=>rw [hr] at he;obtain rfl:ev=.nilIface:=he;simp [h.len]
 | some e=>rw [hr] at he;obtain ⟨fb,rfl,_⟩:=he;simp
theorem need_dec (f d:Nat) (r:Rd) (hg:r.good) (he:r.err=none):need (stP f d r).2<need r:=by
 have hp:=hg.pos
 have hn:need r=r.ts.length+1:=by unfold need;rw [he];rfl
 rw [hn]
 unfold need
 cases hb:(stP f d r).2.err.isSome with
 | true=>simp only [if_true];omega
 | false=>
   simp only [Bool.false_eq_true,if_false]
   rcases st_dec f d r hg with h | h
   · rw [hb] at h;cases h
   · omega
theorem append_one {ops:Array Oper} {rest:List Oper} {o:Oper} {act:Act} {Q:Exit->Act->World->Prop} (w:World) (x0 x1 x2 x3 x4 x5 x6:Value) (hgd:o.guard=none) (s x:Operand)
    (ho:o.op=.call { callee:=.builtin .append,args:=#[s,x],argTypes:=#[40,40] }) (lo:Nat) (v:Value) (n:Nat) (xs:List Value) (hs:act.eval s=v) (hown:w.ownsRow lo 45 7 v n xs) (hx:act.eval x=.slice (some ⟨w.heap.size,0,none⟩) 1 1)
    (hn0:x0.oneCell'=true/\x1.oneCell'=true/\x2.oneCell'=true/\x3.oneCell'=true/\x4.oneCell'=true/\x5.oneCell'=true/\x6.oneCell'=true) (hlo:lo<=w.heap.size) (hn:n<=1000000)
    (h:∀ g cap w',w'.ownsRow lo 45 7 (.slice (some ⟨g,0,none⟩) (n+1) cap) (n+1) (xs++[x0,x1,x2,x3,x4,x5,x6])->(w.alloc (.cells #[x0,x1,x2,x3,x4,x5,x6] 45)).grownBy w' v.ownBlock->(v.ownBlock=some g\/g=(w.alloc (.cells #[x0,x1,x2,x3,x4,x5,x6] 45)).heap.size)->wpList Tryz.prog ops Q rest (act.put o.dst (.slice (some ⟨g,0,none⟩) (n+1) cap)) w'):
    wpList Tryz.prog ops Q (o :: rest) act (w.alloc (.cells #[x0,x1,x2,x3,x4,x5,x6] 45)):=by
 obtain ⟨i0,hi,hz0,hz1,hz2⟩:=info_parts infoStmt
 obtain ⟨p0,p1,p2,p3,p4,p5,p6⟩:=hn0
 refine wpList_append_lies _ hgd s x 40 ho lo 45 i0 _ 7 112 Tryz.underlying40 hi hz0 hz1 hz2 rfl (by decide) v n xs hs (own_same hown (TSame.alloc _ _ _)) ⟨w.heap.size,0,none⟩ 1 1 [x0,x1,x2,x3,x4,x5,x6] hx (by simp) (World.news_of_block (heap_alloc_new w _)) (by simp [p0,p1,p2,p3,p4,p5,p6]) (by omega) (by unfold maxLen;omega) (by omega) (by rw [alloc_size];omega) _ rfl ?_
 intro g cap w' h1 h2 h3 h4
 exact h g cap w' h1 h2 h3
theorem rd_row {B br lo n sz:Nat} {t:TypeId} {r:Rd} {w w':World} {v:Value} {xs:List Value} (h:RdAt B br r w) (ho:w.ownsRow lo t sz v n xs) (hg:w.grownBy w' v.ownBlock) (ht:¬ rdType t:=by unfold rdType;decide):RdAt B br r w':=
 h.keep fun k cs t' fr hk hr=>hg.block k (heap_lt hk) (fun e=>by
    rcases ho.2 with ⟨he,_⟩ | ⟨g',cap',cur,hv,_,hgg,_⟩
    · rw [he] at e;cases e
    · rw [hv] at e
      have:g'=k:=by simpa [Value.ownBlock] using e.symm
      subst this
      rw [hgg] at hk;cases hk;exact ht hr)
theorem grown_row {w W w':World} {br:Nat} {v:Value} (h:w.grownBy W (some br)) (hv:∀ k,v.ownBlock=some k->w.heap.size<=k) (hg:W.grownBy w' v.ownBlock):w.grownBy w' (some br):=
 ⟨hg.os.trans h.os,hg.tape.trans h.tape,hg.output.trans h.output,Nat.le_trans h.size hg.size,fun k hk hkr=>(hg.block k (Nat.lt_of_lt_of_le hk h.size) (fun e=>by have:=hv k e.symm;omega)).trans (h.block k hk hkr)⟩
theorem block_of {f:Nat} (ih:RStC f):RBlC f:=by
 intro B br deep r w h hd
 obtain ⟨r1,e1⟩:∃ x,r.want [123]=x:=⟨_,rfl⟩
 have W1:=want_any B br r ⟨#[123]⟩ [123] rfl w h
 rw [e1] at W1
 obtain ⟨fin,hfin⟩:∃ x,x=blockOf (stP f) deep r:=⟨_,rfl⟩
 rw [<- hfin]
 have HF:Hid (blkLoop (stP f) deep (r1.ts.length+1) [] r1=fin):=by rw [hfin];unfold blockOf;rw [e1];rfl
 have hdd:deep<=41:=by omega
 clear h e1 hfin
 go_enter Tryz.func61,Tryz.ntmps61
 go_wp2_with (go_at_call 60;refine W1.mono ?_;rintro e w1 ⟨rfl,h1,g1⟩)
 go_loopw [5] (fun v wr=>∃ ss rr k,RdAt B br rr wr/\w.grownBy wr (some br)/\SRow w.heap.size (f+1) wr v ss/\need rr<=k/\ss.length+need rr<=65540/\Hid (blkLoop (stP f) deep k ss rr=fin)) (fun _ wr=>needAt br wr)
 case atStart=>
    have hnd:need r1<=r1.ts.length+1:=by unfold need;split <;> omega
    exact ⟨[],r1,_,h1,g1,SRow.nil g1.size,hnd,by have:=h1.2.2.1;simp;omega,HF⟩
 case round=>
    obtain ⟨ss,rr,k,hR,hG,hrow,hk,hlen,HL⟩:=hrel
    obtain ⟨ev,hc,he⟩:=hR.err
    have hlt:=hR.lt
    have hneed:=hR.need
    have hn1:1<=need rr:=by unfold need;split <;> omega
    obtain ⟨k,rfl⟩:∃ j,k=j+1:=⟨k-1,by omega⟩
    clear hn1
    clear HF W1
    cases hre:rr.err with
    | some e0=>
      rw [hre] at he
      obtain ⟨fb,rfl,_⟩:=he
      have hf:fin=(ss,rr):=by rw [<- HL.out,blkLoop,hre];rfl
      have hst:=hrow.stms (by omega)
      have HST:=Lib.hid hst
      have HR:=Lib.hid hR
      have HG:=Lib.hid hG
      have HFN:=Lib.hid hf
      clear hrow hlen HL hf hst hneed hre hk hR hG
      go_wp2
      go_ret
      rw [HFN.out]
      exact ⟨_,rfl,HST.out,HR.out,HG.out⟩
    | none=>
      rw [hre] at he
      obtain rfl:ev=.nilIface:=he
      cases hi:rr.is [125] with
      | true=>
        have hf:fin=(ss,rr.next):=by rw [<- HL.out,blkLoop,hre,hi];rfl
        have T2:=take_yes B br rr ⟨#[125]⟩ [125] rfl wr hR hi
        have HR:=Lib.hid hR
        have HG:=Lib.hid hG
        have HRow:=Lib.hid hrow
        have HFN:=Lib.hid hf
        have HLN:=Lib.hid hlen
        clear hrow hlen HL hf hneed hre hk hR hG
        go_wp2_with (go_at_call 86;refine T2.mono ?_;rintro e w2 ⟨rfl,h2,g2⟩)
        go_ret
        have hst:=(HRow.out.on g2.size (HR.out.tsame g2 (by decide)) (HR.out.tsame g2 (by decide))).stms (by have:=HLN.out;omega)
        rw [HFN.out]
        exact ⟨_,rfl,hst,h2,grownBy_trans HG.out g2⟩
      | false=>
        have T2:=take_no B br rr ⟨#[125]⟩ [125] rfl wr hR hi
        have S3:=fun w' h'=>ih B br deep rr w' h' hd
        have HN:Hid (need (stP f deep rr).2<need rr):=need_dec f deep rr hR.2.1 hre
        have HL2:Hid (blkLoop (stP f) deep k (ss++[(stP f deep rr).1]) (stP f deep rr).2=fin):=by
          show _=_
          rw [<- HL.out,blkLoop,hre,hi];rfl
        obtain ⟨s3,r3,e3⟩:∃ s x,stP f deep rr=(s,x):=⟨_,_,rfl⟩
        rw [e3] at S3 HN HL2
        simp only at S3 HN HL2
        have HR:=Lib.hid hR
        have HG:=Lib.hid hG
        have HRow:=Lib.hid hrow
        have HLN:=Lib.hid hlen
        have HK:=Lib.hid hk
        have HND:=Lib.hid hneed
        clear hrow hlen HL hneed hre hk hR hG e3
        go_wp2_with (first
          | (at_builtin;refine append_one w3 _ _ _ _ _ _ _ rfl _ _ rfl w.heap.size _ _ _ rfl hown rfl ⟨rfl,rfl,rfl,rfl,rfl,rfl,rfl⟩ hlo hsl ?_;intro gg cap w4 hown4 hgrow4 hat4)
          | (go_at_call 89;refine (S3 _ h2).mono ?_;rintro e w3 ⟨v3,rfl,E3,h3,g3⟩;obtain ⟨y1,y2,y3,y4,y5,y6,rfl⟩:=srep_agg E3;have row3:=row2.on g3.size (h2.tsame g3 (by decide)) (h2.tsame g3 (by decide));obtain ⟨xs,hown,hlo,hel⟩:=row3;have hsl:ss.length<=1000000:=by (have:=HLN.out;omega))
          | (go_at_call 86;refine T2.mono ?_;rintro e w2 ⟨rfl,h2,g2⟩;have row2:=HRow.out.on g2.size (HR.out.tsame g2 (by decide)) (HR.out.tsame g2 (by decide))))
        go_roundw
        case rel=>
          obtain ⟨xs2,ho2,_⟩:=id row2
          have hW:=h3.alloc (.cells #[.int .i64 s3.kind,.string s3.name,.slice y1 s3.exprs.length y2,.int .i64 s3.count,.slice y3 s3.body.length y4,.slice y5 s3.els.length y6,.int .i64 s3.at_] 45)
          have hR4:=rd_row hW (own_same hown (TSame.alloc _ _ _)) hgrow4
          have hG4:=grown_row (grown_alloc (grownBy_trans (grownBy_trans HG.out g2) g3) _) (fun k hk=>(hown.lt k hk).1) hgrow4
          have hRow4:=srow_more hown hlo hel E3 (by have:=(grownBy_trans HG.out g2).size;omega) (fun g hg=>(ho2.lt g hg).2) hown4 (fun k o hk=>alloc_keep hk _) (by rw [alloc_size];omega) hgrow4 hat4
          have:=HN.out
          have:=HK.out
          have:=HLN.out
          refine ⟨ss++[s3],r3,k,hR4,hG4,?_,by omega,by simp;omega,HL2⟩
          simpa using hRow4
        case measure=>
          have hW:=h3.alloc (.cells #[.int .i64 s3.kind,.string s3.name,.slice y1 s3.exprs.length y2,.int .i64 s3.count,.slice y3 s3.body.length y4,.slice y5 s3.els.length y6,.int .i64 s3.at_] 45)
          have hR4:=rd_row hW (own_same hown (TSame.alloc _ _ _)) hgrow4
          rw [hR4.need,HND.out]
          exact HN.out
theorem st_all:∀ f,RStC f
 | 0=>st_zero
 | f+1=>st_step (block_of (st_all f))
theorem bl_all (f:Nat):RBlC f:=block_of (st_all f)
theorem notRdD:¬ rdType 39:=by unfold rdType;decide
def DcV (B br:Nat) (w0:World) (db:Nat) (d:Dcl) (rr:Rd) (w:World):Prop:=
 RdAt B br rr w/\w0.grownBy w (some br)/\w.heap[db]?=some (.cells #[.bool d.lock,.int .i64 d.label,.string d.name,.int .i64 d.size,.string d.by_,.int .i64 d.at_] 39 (0,0))
theorem DcV.on {B br db:Nat} {w0 w w':World} {d:Dcl} {rr rr':Rd} (h:DcV B br w0 db d rr w) (h':RdAt B br rr' w') (hg:w.grownBy w' (some br)):DcV B br w0 db d rr' w':=
 ⟨h',grownBy_trans h.2.1 hg,h.1.heap hg h.2.2 (by decide)⟩
theorem DcV.cells {B br db:Nat} {w0 w:World} {d:Dcl} {rr:Rd} (h:DcV B br w0 db d rr w):w.cell? ⟨db,0,none⟩=some (.bool d.lock)/\w.cell? ⟨db,1,none⟩=some (.int .i64 d.label)/\w.cell? ⟨db,2,none⟩=some (.string d.name)/\w.cell? ⟨db,3,none⟩=some (.int .i64 d.size)/\w.cell? ⟨db,4,none⟩=some (.string d.by_)/\w.cell? ⟨db,5,none⟩=some (.int .i64 d.at_)/\(∀ j,w.frozen? ⟨db,j,none⟩=false)/\db<w.heap.size:=by
 obtain ⟨h1,h2,h3⟩:=h
 obtain ⟨c0,c1,c2,c3,c4,c5⟩:=decl_cells h3
 exact ⟨c0,c1,c2,c3,c4,c5,fun j=>Lib.frozen_of_heap h3 j,heap_lt h3⟩
theorem DcV.set {B br db:Nat} {w0 w:World} {d:Dcl} {rr:Rd} (h:DcV B br w0 db d rr w) (hdb:w0.heap.size<=db) (j:Nat) (u:Value) (d':Dcl)
    (hc:(#[.bool d.lock,.int .i64 d.label,.string d.name,.int .i64 d.size,.string d.by_,.int .i64 d.at_]:Array Value).setIfInBounds j u = #[.bool d'.lock,.int .i64 d'.label,.string d'.name,.int .i64 d'.size,.string d'.by_,.int .i64 d'.at_]):DcV B br w0 db d' rr (w.setCell ⟨db,j,none⟩ u):=by
 obtain ⟨h1,h2,h3⟩:=h
 refine ⟨h1.set h3 notRdD _ _,grown_set h2 hdb _ _,?_⟩
 rw [<- hc];exact set_heap h3 j u
theorem DcV.name {B br db:Nat} {w0 w:World} {d:Dcl} {rr:Rd} (h:DcV B br w0 db d rr w) (hdb:w0.heap.size<=db) (x:ByteArray):DcV B br w0 db { d with name:=x } rr (w.setCell ⟨db,2,none⟩ (.string x)):=h.set hdb 2 _ _ rfl
theorem DcV.size {B br db:Nat} {w0 w:World} {d:Dcl} {rr:Rd} (h:DcV B br w0 db d rr w) (hdb:w0.heap.size<=db) (x:Int):DcV B br w0 db { d with size:=x } rr (w.setCell ⟨db,3,none⟩ (.int .i64 x)):=h.set hdb 3 _ _ rfl
theorem DcV.byL {B br db:Nat} {w0 w:World} {d:Dcl} {rr:Rd} (h:DcV B br w0 db d rr w) (hdb:w0.heap.size<=db) (x:ByteArray):DcV B br w0 db { d with by_:=x } rr (w.setCell ⟨db,4,none⟩ (.string x)):=h.set hdb 4 _ _ rfl
theorem DcV.lock {B br db:Nat} {w0 w:World} {d:Dcl} {rr:Rd} (h:DcV B br w0 db d rr w) (hdb:w0.heap.size<=db) (x:Bool):DcV B br w0 db { d with lock:=x } rr (w.setCell ⟨db,0,none⟩ (.bool x)):=h.set hdb 0 _ _ rfl
theorem DcV.label {B br db:Nat} {w0 w:World} {d:Dcl} {rr:Rd} (h:DcV B br w0 db d rr w) (hdb:w0.heap.size<=db) (x:Int):DcV B br w0 db { d with label:=x } rr (w.setCell ⟨db,1,none⟩ (.int .i64 x)):=h.set hdb 1 _ _ rfl
theorem cells_00 (d:Dcl) (r:Rd) (hd:d.size=0) (h1:r.name.2.is [91]=false) (h2:r.name.2.is kBy=false):cellsP d r=({ d with name:=bstr r.name.1 },r.name.2):=by
 unfold cellsP;simp only [h1,h2,Bool.false_eq_true,if_false];rw [<- hd]
theorem cells_01 (d:Dcl) (r:Rd) (hd:d.size=0) (h1:r.name.2.is [91]=false) (h2:r.name.2.is kBy=true):cellsP d r=({ d with name:=bstr r.name.1,by_:=bstr r.name.2.next.name.1 },r.name.2.next.name.2):=by
 unfold cellsP;simp only [h1,h2,Bool.false_eq_true,if_false,if_true];rw [<- hd]
theorem cells_10 (d:Dcl) (r:Rd) (h1:r.name.2.is [91]=true) (h2:((r.name.2.next.number 64).2.want [93]).is kBy=false):cellsP d r=({ d with name:=bstr r.name.1,size:=((r.name.2.next.number 64).1:Int) },(r.name.2.next.number 64).2.want [93]):=by
 unfold cellsP;simp only [h1,h2,Bool.false_eq_true,if_false,if_true]
theorem cells_11 (d:Dcl) (r:Rd) (h1:r.name.2.is [91]=true) (h2:((r.name.2.next.number 64).2.want [93]).is kBy=true):cellsP d r=({ d with name:=bstr r.name.1,size:=((r.name.2.next.number 64).1:Int),by_:=bstr ((r.name.2.next.number 64).2.want [93]).next.name.1 },((r.name.2.next.number 64).2.want [93]).next.name.2):=by
 unfold cellsP;simp only [h1,h2,Bool.false_eq_true,if_false,if_true]
theorem cells_any (B br:Nat) (w0:World) (db:Nat) (k:Bool) (l a:Int) (rr:Rd) (w:World) (h:DcV B br w0 db ⟨k,l,⟨#[]⟩,0,⟨#[]⟩,a⟩ rr w) (hdb:w0.heap.size<=db):
    Calls Tryz.prog 88 #[.pointer (some ⟨br,0,none⟩),.pointer (some ⟨db,0,none⟩)] w fun e w'=>e=.returned (.tuple #[])/\DcV B br w0 db (cellsP ⟨k,l,⟨#[]⟩,0,⟨#[]⟩,a⟩ rr).1 (cellsP ⟨k,l,⟨#[]⟩,0,⟨#[]⟩,a⟩ rr).2 w':=by
 have N1:=rname_any B br rr w h.1
 have H:=Lib.hid h
 cases hi1:rr.name.2.is [91] with
 | false=>
   cases hi2:rr.name.2.is kBy with
   | false=>
     rw [cells_00 _ _ rfl hi1 hi2]
     obtain ⟨n1,r1,e1⟩:∃ x y,rr.name=(x,y):=⟨_,_,rfl⟩
     rw [e1] at N1 hi1 hi2 ⊢
     simp only at N1 hi1 hi2 ⊢
     clear h e1
     go_enter Tryz.func88,Tryz.ntmps88
     go_wp2_with (first
        | (go_at_call 86;refine (take_no B br r1 ⟨#[98,121]⟩ kBy rfl _ st2.out.1 hi2).mono ?_;rintro e w3 ⟨rfl,h3,g3⟩;have st3:=Lib.hid (st2.out.on h3 g3))
        | (go_at_call 86;refine (take_no B br r1 ⟨#[91]⟩ [91] rfl _ st1.out.1 hi1).mono ?_;rintro e w2 ⟨rfl,h2,g2⟩;have st2:=Lib.hid (st1.out.on h2 g2))
        | (go_at_call 87;refine N1.mono ?_;rintro e w1 ⟨rfl,h1,g1⟩;have st0:=H.out.on h1 g1;obtain ⟨c0,c1,c2,c3,c4,c5,cf,hl1⟩:=st0.cells;have cf2:=cf 2;clear cf;have st1:=Lib.hid (st0.name hdb (bstr n1))))
     go_end0
     exact ⟨rfl,st3.out⟩
   | true=>
     rw [cells_01 _ _ rfl hi1 hi2]
     obtain ⟨n1,r1,e1⟩:∃ x y,rr.name=(x,y):=⟨_,_,rfl⟩
     rw [e1] at N1 hi1 hi2 ⊢
     simp only at N1 hi1 hi2 ⊢
     clear h e1
     go_enter Tryz.func88,Tryz.ntmps88
     go_wp2_with (first
        | (go_at_call 87;refine (rname_any B br r1.next _ st3.out.1).mono ?_;rintro e w4 ⟨rfl,h4,g4⟩;have st4:=st3.out.on h4 g4;obtain ⟨c0,c1,c2,c3,c4,c5,cf,hl4⟩:=st4.cells;have cf4:=cf 4;clear cf;have st5:=Lib.hid (st4.byL hdb (bstr r1.next.name.1)))
        | (go_at_call 86;refine (take_yes B br r1 ⟨#[98,121]⟩ kBy rfl _ st2.out.1 hi2).mono ?_;rintro e w3 ⟨rfl,h3,g3⟩;have st3:=Lib.hid (st2.out.on h3 g3))
        | (go_at_call 86;refine (take_no B br r1 ⟨#[91]⟩ [91] rfl _ st1.out.1 hi1).mono ?_;rintro e w2 ⟨rfl,h2,g2⟩;have st2:=Lib.hid (st1.out.on h2 g2))
        | (go_at_call 87;refine N1.mono ?_;rintro e w1 ⟨rfl,h1,g1⟩;have st0:=H.out.on h1 g1;obtain ⟨c0,c1,c2,c3,c4,c5,cf,hl1⟩:=st0.cells;have cf2:=cf 2;clear cf;have st1:=Lib.hid (st0.name hdb (bstr n1))))
     go_end0
     exact ⟨rfl,st5.out⟩
 | true=>
   cases hi2:((rr.name.2.next.number 64).2.want [93]).is kBy with
   | false=>
     rw [cells_10 _ _ hi1 hi2]
     obtain ⟨n1,r1,e1⟩:∃ x y,rr.name=(x,y):=⟨_,_,rfl⟩
     rw [e1] at N1 hi1 hi2 ⊢
     simp only at N1 hi1 hi2 ⊢
     have N2:=fun w' h'=>rnumber_any B br 64 (by omega) r1.next w' h'
     obtain ⟨n2,r2,e2⟩:∃ x y,r1.next.number 64=(x,y):=⟨_,_,rfl⟩
     rw [e2] at N2 hi2 ⊢
     simp only at N2 hi2 ⊢
     clear h e1 e2
     go_enter Tryz.func88,Tryz.ntmps88
     go_wp2_with (first
        | (go_at_call 86;refine (take_no B br (r2.want [93]) ⟨#[98,121]⟩ kBy rfl _ st5.out.1 hi2).mono ?_;rintro e w6 ⟨rfl,h6,g6⟩;have st6:=Lib.hid (st5.out.on h6 g6))
        | (go_at_call 60;refine (want_any B br r2 ⟨#[93]⟩ [93] rfl _ st4.out.1).mono ?_;rintro e w5 ⟨rfl,h5,g5⟩;have st5:=Lib.hid (st4.out.on h5 g5))
        | (go_at_call 120;refine (N2 _ st2.out.1).mono ?_;rintro e w3 ⟨rfl,h3,g3⟩;have st3:=st2.out.on h3 g3;obtain ⟨c0,c1,c2,c3,c4,c5,cf,hl3⟩:=st3.cells;have cf3:=cf 3;clear cf;have st4:=Lib.hid (st3.size hdb (n2:Int)))
        | (go_at_call 86;refine (take_yes B br r1 ⟨#[91]⟩ [91] rfl _ st1.out.1 hi1).mono ?_;rintro e w2 ⟨rfl,h2,g2⟩;have st2:=Lib.hid (st1.out.on h2 g2))
        | (go_at_call 87;refine N1.mono ?_;rintro e w1 ⟨rfl,h1,g1⟩;have st0:=H.out.on h1 g1;obtain ⟨c0,c1,c2,c3,c4,c5,cf,hl1⟩:=st0.cells;have cf2:=cf 2;clear cf;have st1:=Lib.hid (st0.name hdb (bstr n1))))
     go_end0
     exact ⟨rfl,st6.out⟩
   | true=>
     rw [cells_11 _ _ hi1 hi2]
     obtain ⟨n1,r1,e1⟩:∃ x y,rr.name=(x,y):=⟨_,_,rfl⟩
     rw [e1] at N1 hi1 hi2 ⊢
     simp only at N1 hi1 hi2 ⊢
     have N2:=fun w' h'=>rnumber_any B br 64 (by omega) r1.next w' h'
     obtain ⟨n2,r2,e2⟩:∃ x y,r1.next.number 64=(x,y):=⟨_,_,rfl⟩
     rw [e2] at N2 hi2 ⊢
     simp only at N2 hi2 ⊢
     clear h e1 e2
     go_enter Tryz.func88,Tryz.ntmps88
     go_wp2_with (first
        | (go_at_call 87;refine (rname_any B br (r2.want [93]).next _ st6.out.1).mono ?_;rintro e w7 ⟨rfl,h7,g7⟩;have st7:=st6.out.on h7 g7;obtain ⟨c0,c1,c2,c3,c4,c5,cf,hl7⟩:=st7.cells;have cf7:=cf 4;clear cf;have st8:=Lib.hid (st7.byL hdb (bstr (r2.want [93]).next.name.1)))
        | (go_at_call 86;refine (take_yes B br (r2.want [93]) ⟨#[98,121]⟩ kBy rfl _ st5.out.1 hi2).mono ?_;rintro e w6 ⟨rfl,h6,g6⟩;have st6:=Lib.hid (st5.out.on h6 g6))
        | (go_at_call 60;refine (want_any B br r2 ⟨#[93]⟩ [93] rfl _ st4.out.1).mono ?_;rintro e w5 ⟨rfl,h5,g5⟩;have st5:=Lib.hid (st4.out.on h5 g5))
        | (go_at_call 120;refine (N2 _ st2.out.1).mono ?_;rintro e w3 ⟨rfl,h3,g3⟩;have st3:=st2.out.on h3 g3;obtain ⟨c0,c1,c2,c3,c4,c5,cf,hl3⟩:=st3.cells;have cf3:=cf 3;clear cf;have st4:=Lib.hid (st3.size hdb (n2:Int)))
        | (go_at_call 86;refine (take_yes B br r1 ⟨#[91]⟩ [91] rfl _ st1.out.1 hi1).mono ?_;rintro e w2 ⟨rfl,h2,g2⟩;have st2:=Lib.hid (st1.out.on h2 g2))
        | (go_at_call 87;refine N1.mono ?_;rintro e w1 ⟨rfl,h1,g1⟩;have st0:=H.out.on h1 g1;obtain ⟨c0,c1,c2,c3,c4,c5,cf,hl1⟩:=st0.cells;have cf2:=cf 2;clear cf;have st1:=Lib.hid (st0.name hdb (bstr n1))))
     go_end0
     exact ⟨rfl,st8.out⟩
@[reducible] def zeroD:Obj:=.cells #[.bool false,.int .i64 0,.string ⟨#[]⟩,.int .i64 0,.string ⟨#[]⟩,.int .i64 0] 39
@[reducible] def dagg (d:Dcl):Value:=.agg #[.bool d.lock,.int .i64 d.label,.string d.name,.int .i64 d.size,.string d.by_,.int .i64 d.at_]
theorem put6D {w:World} {r:Nat} {x0 x1 x2 x3 x4 x5:Value} (h:w.heap[r]?=some (.cells #[x0,x1,x2,x3,x4,x5] 39 (0,0))) (u0 u1 u2 u3 u4 u5:Value):
    (put6 w r u0 u1 u2 u3 u4 u5).heap[r]?=some (.cells #[u0,u1,u2,u3,u4,u5] 39 (0,0)):=by
  have h1:(w.setCell ⟨r,0,none⟩ u0).heap[r]?=some (.cells #[u0,x1,x2,x3,x4,x5] 39 (0,0)):=set_heap h 0 u0
  have h2:((w.setCell ⟨r,0,none⟩ u0).setCell ⟨r,1,none⟩ u1).heap[r]?=some (.cells #[u0,u1,x2,x3,x4,x5] 39 (0,0)):=set_heap h1 1 u1
  have h3:(((w.setCell ⟨r,0,none⟩ u0).setCell ⟨r,1,none⟩ u1).setCell ⟨r,2,none⟩ u2).heap[r]?=some (.cells #[u0,u1,u2,x3,x4,x5] 39 (0,0)):=set_heap h2 2 u2
  have h4:((((w.setCell ⟨r,0,none⟩ u0).setCell ⟨r,1,none⟩ u1).setCell ⟨r,2,none⟩ u2).setCell ⟨r,3,none⟩ u3).heap[r]?=some (.cells #[u0,u1,u2,u3,x4,x5] 39 (0,0)):=set_heap h3 3 u3
  have h5:(((((w.setCell ⟨r,0,none⟩ u0).setCell ⟨r,1,none⟩ u1).setCell ⟨r,2,none⟩ u2).setCell ⟨r,3,none⟩ u3).setCell ⟨r,4,none⟩ u4).heap[r]?=some (.cells #[u0,u1,u2,u3,u4,x5] 39 (0,0)):=set_heap h4 4 u4
  exact set_heap h5 5 u5
theorem boxD_free {w:World} {k:Nat} {cs:Array Value} (h:w.heap[k]?=some (.cells cs 39 (0,0))):
    w.frozen? ⟨k,0,none⟩=false/\w.frozen? ⟨k,1,none⟩=false/\w.frozen? ⟨k,2,none⟩=false/\w.frozen? ⟨k,3,none⟩=false/\w.frozen? ⟨k,4,none⟩=false/\w.frozen? ⟨k,5,none⟩=false:=
  ⟨Lib.frozen_of_heap h 0,Lib.frozen_of_heap h 1,Lib.frozen_of_heap h 2,Lib.frozen_of_heap h 3,Lib.frozen_of_heap h 4,Lib.frozen_of_heap h 5⟩
def Dde (B br:Nat) (w:World) (dr:Dcl × Rd) (e:Ending) (w':World):Prop:=e=.returned (dagg dr.1)/\RdAt B br dr.2 w'/\w.grownBy w' (some br)
theorem dc_start {B br:Nat} {r:Rd} {w:World} (h:RdAt B br r w):DcV B br (w.alloc zeroD) (w.heap.size+2) ⟨false,0,⟨#[]⟩,0,⟨#[]⟩,(r.here.at_:Int)⟩ r (((w.alloc zeroD).alloc (tokO r.here)).alloc (.cells #[.bool false,.int .i64 0,.string ⟨#[]⟩,.int .i64 0,.string ⟨#[]⟩,.int .i64 (r.here.at_:Int)] 39)):=
  ⟨((h.alloc _).alloc _).alloc _,grown_alloc (World.grownBy_alloc _ _ _) _,by rw [alloc_at,if_pos (by simp)]⟩
theorem dc_zero {B br db:Nat} {w w':World} {d:Dcl} {rr:Rd} (hb:br<w.heap.size) (h:DcV B br (w.alloc zeroD) db d rr w'):w'.heap[w.heap.size]?=some zeroD:=by
  rw [h.2.1.block w.heap.size (by rw [alloc_size];omega) (by simp;omega),alloc_at,if_pos rfl]
theorem dc_end {B br db:Nat} {w w':World} {d:Dcl} {rr:Rd} (hb:br<w.heap.size) (h:DcV B br (w.alloc zeroD) db d rr w') (x0 x1 x2 x3 x4 x5:Value):Dde B br w (d,rr) (.returned (dagg d)) (put6 w' w.heap.size x0 x1 x2 x3 x4 x5):=
  ⟨rfl,h.1.step (put6_grown _ _ _ _ _ _ _ _) (dc_zero hb h) notRdD,grown_put6 (grownBy_trans (World.grownBy_alloc w _ _) h.2.1) (Nat.le_refl _) _ _ _ _ _ _⟩
theorem decl_lock (B br:Nat) (r:Rd) (w:World) (h:RdAt B br r w) (hi:r.is kLock=true):
    Calls Tryz.prog 58 #[.pointer (some ⟨br,0,none⟩)] w (Dde B br w (⟨true,0,bstr r.next.name.1,0,⟨#[]⟩,(r.here.at_:Int)⟩,(r.next.name.2).want [59])):=by
  have hh:=here_any B br r _ (h.alloc zeroD)
  have hf:=tok_at
  have ST1:=Lib.hid (dc_start h)
  have HLB:=Lib.hid h.lt
  have hlt:=h.lt
  have hdb:Hid ((w.alloc zeroD).heap.size<=w.heap.size+2):=by show _<=_;rw [alloc_size];omega
  have HDB:=hdb
  clear hdb
  have NN:=fun w' h'=>rname_any B br r.next w' h'
  obtain ⟨n4,r4,e4⟩:∃ x y,r.next.name=(x,y):=⟨_,_,rfl⟩
  rw [e4] at NN ⊢
  simp only at NN ⊢
  clear e4
  clear h
  generalize r.here=T at *
  go_enter Tryz.func58,Tryz.ntmps58
  go_wp2_with (first
    | (go_at_call 60;refine (want_any B br r4 ⟨#[59]⟩ [59] rfl _ st5.out.1).mono ?_;rintro e w6 ⟨rfl,h6,g6⟩;have st9:=Lib.hid (st5.out.on h6 g6);have hlb:=HLB.out;have z9:=dc_zero hlb st9.out;have hz9:=heap_lt z9;obtain ⟨c0,c1,c2,c3,c4,c5,cf,hl9⟩:=st9.out.cells;clear cf;obtain ⟨f0,f1,f2,f3,f4,f5⟩:=boxD_free z9;obtain ⟨i0,i1,i2,i3,i4,i5⟩:=decl_cells z9)
    | (go_at_call 87;refine (NN _ st3.out.1).mono ?_;rintro e w4 ⟨rfl,h4,g4⟩;have st4:=st3.out.on h4 g4;obtain ⟨c0,c1,c2,c3,c4,c5,cf,hl4⟩:=st4.cells;have cf2:=cf 2;clear cf;have st5:=Lib.hid (st4.name HDB.out (bstr n4)))
    | (go_at_call 86;refine (take_yes B br r ⟨#[108,111,99,107]⟩ kLock rfl _ ST1.out.1 hi).mono ?_;rintro e w2 ⟨rfl,h2,g2⟩;have st2:=ST1.out.on h2 g2;obtain ⟨c0,c1,c2,c3,c4,c5,cf,hl2⟩:=st2.cells;have cf0:=cf 0;clear cf;have st3:=Lib.hid (st2.lock HDB.out true))
    | (go_at_call 59;refine hh.mono ?_;rintro e w' ⟨rfl,rfl⟩))
  have hP:=put6D z9 (.bool true) (.int .i64 0) (.string (bstr n4)) (.int .i64 0) (.string ⟨#[]⟩) (.int .i64 (T.at_:Int))
  obtain ⟨q0,q1,q2,q3,q4,q5⟩:=decl_cells hP
  exact bodyPost_ret (v:=dagg ⟨true,0,bstr n4,0,⟨#[]⟩,(T.at_:Int)⟩) (by simp [results,Tryz.results58,go_sem,q0,q1,q2,q3,q4,q5]) rfl (dc_end HLB.out st9.out _ _ _ _ _ _)
theorem decl_pub (B br:Nat) (r:Rd) (w:World) (h:RdAt B br r w) (hi:r.is kLock=false) (hj:r.is kPublic=true):
    Calls Tryz.prog 58 #[.pointer (some ⟨br,0,none⟩)] w (Dde B br w ((cellsP ⟨false,0,⟨#[]⟩,0,⟨#[]⟩,(r.here.at_:Int)⟩ r.next).1,((cellsP ⟨false,0,⟨#[]⟩,0,⟨#[]⟩,(r.here.at_:Int)⟩ r.next).2).want [59])):=by
  have hh:=here_any B br r _ (h.alloc zeroD)
  have hf:=tok_at
  have ST1:=Lib.hid (dc_start h)
  have HLB:=Lib.hid h.lt
  have hlt:=h.lt
  have hdb:Hid ((w.alloc zeroD).heap.size<=w.heap.size+2):=by show _<=_;rw [alloc_size];omega
  have HDB:=hdb
  clear hdb
  have CC:=fun w0 db w' h' hs'=>cells_any B br w0 db false 0 (r.here.at_:Int) r.next w' h' hs'
  obtain ⟨D,r4,e4⟩:∃ x y,cellsP ⟨false,0,⟨#[]⟩,0,⟨#[]⟩,(r.here.at_:Int)⟩ r.next=(x,y):=⟨_,_,rfl⟩
  rw [e4] at CC ⊢
  simp only at CC ⊢
  clear e4
  clear h
  generalize r.here=T at *
  go_enter Tryz.func58,Tryz.ntmps58
  go_wp2_with (first
    | (go_at_call 60;refine (want_any B br r4 ⟨#[59]⟩ [59] rfl _ st5.out.1).mono ?_;rintro e w6 ⟨rfl,h6,g6⟩;have st9:=Lib.hid (st5.out.on h6 g6);have hlb:=HLB.out;have z9:=dc_zero hlb st9.out;have hz9:=heap_lt z9;obtain ⟨c0,c1,c2,c3,c4,c5,cf,hl9⟩:=st9.out.cells;clear cf;obtain ⟨f0,f1,f2,f3,f4,f5⟩:=boxD_free z9;obtain ⟨i0,i1,i2,i3,i4,i5⟩:=decl_cells z9)
    | (go_at_call 88;refine (CC _ _ _ st3.out HDB.out).mono ?_;rintro e w5 ⟨rfl,st5'⟩;have st5:=Lib.hid st5')
    | (go_at_call 86;refine (take_yes B br r ⟨#[112,117,98,108,105,99]⟩ kPublic rfl _ st2.out.1 hj).mono ?_;rintro e w3 ⟨rfl,h3,g3⟩;have st3:=Lib.hid (st2.out.on h3 g3))
    | (go_at_call 86;refine (take_no B br r ⟨#[108,111,99,107]⟩ kLock rfl _ ST1.out.1 hi).mono ?_;rintro e w2 ⟨rfl,h2,g2⟩;have st2:=Lib.hid (ST1.out.on h2 g2))
    | (go_at_call 59;refine hh.mono ?_;rintro e w' ⟨rfl,rfl⟩))
  have hP:=put6D z9 (.bool D.lock) (.int .i64 D.label) (.string D.name) (.int .i64 D.size) (.string D.by_) (.int .i64 D.at_)
  obtain ⟨q0,q1,q2,q3,q4,q5⟩:=decl_cells hP
  exact bodyPost_ret (v:=dagg D) (by simp [results,Tryz.results58,go_sem,q0,q1,q2,q3,q4,q5]) rfl (dc_end HLB.out st9.out _ _ _ _ _ _)
theorem decl_sec (B br:Nat) (r:Rd) (w:World) (h:RdAt B br r w) (hi:r.is kLock=false) (hj:r.is kPublic=false) (hk:r.is kSecret=true):
    Calls Tryz.prog 58 #[.pointer (some ⟨br,0,none⟩)] w (Dde B br w ((cellsP ⟨false,1,⟨#[]⟩,0,⟨#[]⟩,(r.here.at_:Int)⟩ r.next).1,((cellsP ⟨false,1,⟨#[]⟩,0,⟨#[]⟩,(r.here.at_:Int)⟩ r.next).2).want [59])):=by
  have hh:=here_any B br r _ (h.alloc zeroD)
  have hf:=tok_at
  have ST1:=Lib.hid (dc_start h)
  have HLB:=Lib.hid h.lt
  have hlt:=h.lt
  have hdb:Hid ((w.alloc zeroD).heap.size<=w.heap.size+2):=by show _<=_;rw [alloc_size];omega
  have HDB:=hdb
  clear hdb
  have CC:=fun w0 db w' h' hs'=>cells_any B br w0 db false 1 (r.here.at_:Int) r.next w' h' hs'
  obtain ⟨D,r4,e4⟩:∃ x y,cellsP ⟨false,1,⟨#[]⟩,0,⟨#[]⟩,(r.here.at_:Int)⟩ r.next=(x,y):=⟨_,_,rfl⟩
  rw [e4] at CC ⊢
  simp only at CC ⊢
  clear e4
  clear h
  generalize r.here=T at *
  go_enter Tryz.func58,Tryz.ntmps58
  go_wp2_with (first
    | (go_at_call 60;refine (want_any B br r4 ⟨#[59]⟩ [59] rfl _ st5.out.1).mono ?_;rintro e w6 ⟨rfl,h6,g6⟩;have st9:=Lib.hid (st5.out.on h6 g6);have hlb:=HLB.out;have z9:=dc_zero hlb st9.out;have hz9:=heap_lt z9;obtain ⟨c0,c1,c2,c3,c4,c5,cf,hl9⟩:=st9.out.cells;clear cf;obtain ⟨f0,f1,f2,f3,f4,f5⟩:=boxD_free z9;obtain ⟨i0,i1,i2,i3,i4,i5⟩:=decl_cells z9)
    | (go_at_call 88;refine (CC _ _ _ st44.out HDB.out).mono ?_;rintro e w5 ⟨rfl,st5'⟩;have st5:=Lib.hid st5')
    | (go_at_call 86;refine (take_yes B br r ⟨#[115,101,99,114,101,116]⟩ kSecret rfl _ st3.out.1 hk).mono ?_;rintro e w4 ⟨rfl,h4,g4⟩;have st4:=st3.out.on h4 g4;obtain ⟨c0,c1,c2,c3,c4,c5,cf,hl4⟩:=st4.cells;have cf1:=cf 1;clear cf;have st44:=Lib.hid (st4.label HDB.out 1))
    | (go_at_call 86;refine (take_no B br r ⟨#[112,117,98,108,105,99]⟩ kPublic rfl _ st2.out.1 hj).mono ?_;rintro e w3 ⟨rfl,h3,g3⟩;have st3:=Lib.hid (st2.out.on h3 g3))
    | (go_at_call 86;refine (take_no B br r ⟨#[108,111,99,107]⟩ kLock rfl _ ST1.out.1 hi).mono ?_;rintro e w2 ⟨rfl,h2,g2⟩;have st2:=Lib.hid (ST1.out.on h2 g2))
    | (go_at_call 59;refine hh.mono ?_;rintro e w' ⟨rfl,rfl⟩))
  have hP:=put6D z9 (.bool D.lock) (.int .i64 D.label) (.string D.name) (.int .i64 D.size) (.string D.by_) (.int .i64 D.at_)
  obtain ⟨q0,q1,q2,q3,q4,q5⟩:=decl_cells hP
  exact bodyPost_ret (v:=dagg D) (by simp [results,Tryz.results58,go_sem,q0,q1,q2,q3,q4,q5]) rfl (dc_end HLB.out st9.out _ _ _ _ _ _)
theorem decl_none (B br:Nat) (r:Rd) (w:World) (h:RdAt B br r w) (hi:r.is kLock=false) (hj:r.is kPublic=false) (hk:r.is kSecret=false):
    Calls Tryz.prog 58 #[.pointer (some ⟨br,0,none⟩)] w (Dde B br w (⟨false,0,⟨#[]⟩,0,⟨#[]⟩,(r.here.at_:Int)⟩,(r.fail 2).want [59])):=by
  have hh:=here_any B br r _ (h.alloc zeroD)
  have hf:=tok_at
  have ST1:=Lib.hid (dc_start h)
  have HLB:=Lib.hid h.lt
  have hlt:=h.lt
  have hdb:Hid ((w.alloc zeroD).heap.size<=w.heap.size+2):=by show _<=_;rw [alloc_size];omega
  have HDB:=hdb
  clear hdb
  have FF:=fun w' h'=>fail_any B br 2 r w' h' (by omega)
  obtain ⟨r5,e5⟩:∃ x,r.fail 2=x:=⟨_,rfl⟩
  rw [e5] at FF ⊢
  clear e5
  clear h
  generalize r.here=T at *
  go_enter Tryz.func58,Tryz.ntmps58
  go_wp2_with (first
    | (go_at_call 60;refine (want_any B br r5 ⟨#[59]⟩ [59] rfl _ st5.out.1).mono ?_;rintro e w6 ⟨rfl,h6,g6⟩;have st9:=Lib.hid (st5.out.on h6 g6);have hlb:=HLB.out;have z9:=dc_zero hlb st9.out;have hz9:=heap_lt z9;obtain ⟨c0,c1,c2,c3,c4,c5,cf,hl9⟩:=st9.out.cells;clear cf;obtain ⟨f0,f1,f2,f3,f4,f5⟩:=boxD_free z9;obtain ⟨i0,i1,i2,i3,i4,i5⟩:=decl_cells z9)
    | (go_at_call 57;refine (FF _ st4.out.1).mono ?_;rintro e w5 ⟨rfl,h5,g5⟩;have st5:=Lib.hid (st4.out.on h5 g5))
    | (go_at_call 86;refine (take_no B br r ⟨#[115,101,99,114,101,116]⟩ kSecret rfl _ st3.out.1 hk).mono ?_;rintro e w4 ⟨rfl,h4,g4⟩;have st4:=Lib.hid (st3.out.on h4 g4))
    | (go_at_call 86;refine (take_no B br r ⟨#[112,117,98,108,105,99]⟩ kPublic rfl _ st2.out.1 hj).mono ?_;rintro e w3 ⟨rfl,h3,g3⟩;have st3:=Lib.hid (st2.out.on h3 g3))
    | (go_at_call 86;refine (take_no B br r ⟨#[108,111,99,107]⟩ kLock rfl _ ST1.out.1 hi).mono ?_;rintro e w2 ⟨rfl,h2,g2⟩;have st2:=Lib.hid (ST1.out.on h2 g2))
    | (go_at_call 59;refine hh.mono ?_;rintro e w' ⟨rfl,rfl⟩))
  have hP:=put6D z9 (.bool false) (.int .i64 0) (.string ⟨#[]⟩) (.int .i64 0) (.string ⟨#[]⟩) (.int .i64 (T.at_:Int))
  obtain ⟨q0,q1,q2,q3,q4,q5⟩:=decl_cells hP
  exact bodyPost_ret (v:=dagg ⟨false,0,⟨#[]⟩,0,⟨#[]⟩,(T.at_:Int)⟩) (by simp [results,Tryz.results58,go_sem,q0,q1,q2,q3,q4,q5]) rfl (dc_end HLB.out st9.out _ _ _ _ _ _)
theorem decl_any (B br:Nat) (r:Rd) (w:World) (h:RdAt B br r w):Calls Tryz.prog 58 #[.pointer (some ⟨br,0,none⟩)] w (Dde B br w (declP r)):=by
  cases hi:r.is kLock with
  | true=>have:=decl_lock B br r w h hi;unfold declP;simp only [hi,if_true];exact this
  | false=>
    cases hj:r.is kPublic with
    | true=>have:=decl_pub B br r w h hi hj;unfold declP;simp only [hi,hj,if_true,Bool.false_eq_true,if_false];exact this
    | false=>
      cases hk:r.is kSecret with
      | true=>have:=decl_sec B br r w h hi hj hk;unfold declP;simp only [hi,hj,hk,if_true,Bool.false_eq_true,if_false];exact this
      | false=>have:=decl_none B br r w h hi hj hk;unfold declP;simp only [hi,hj,hk,if_true,Bool.false_eq_true,if_false];exact this
def tfit (r:Rd):Prop:=∀ t ∈ r.ts,t.text.length<=65536
theorem tfit_next {r:Rd} (h:tfit r):tfit r.next:=fun t ht=>h t (by
  unfold Rd.next at ht
  simp only at ht
  split at ht
  · exact List.mem_of_mem_drop ht
  · exact ht)
theorem tfit_fail {r:Rd} (n:Nat) (h:tfit r):tfit (r.fail n):=fun t ht=>h t (List.mem_of_mem_drop ht)
theorem tfit_want {r:Rd} (s:List UInt8) (h:tfit r):tfit (r.want s):=by unfold Rd.want;split;exact tfit_next h;exact tfit_fail 2 h
theorem tfit_name {r:Rd} (h:tfit r):tfit r.name.2:=by unfold Rd.name;split;exact tfit_next h;exact tfit_fail 2 h
theorem tfit_number {r:Rd} (m:Nat) (h:tfit r):tfit (r.number m).2:=by
  unfold Rd.number
  split
  · split;exact tfit_fail 6 h;exact tfit_next h
  · exact tfit_fail 2 h
def dsmall (d:Dcl):Prop:=0<=d.size/\d.size<=64/\d.name.size<=65536/\d.by_.size<=65536
theorem dsmall.fit {d:Dcl} (h:dsmall d):dfit d:=by obtain ⟨h1,h2,h3,h4⟩:=h;exact ⟨by omega,by omega,by omega,by omega⟩
theorem bstr_len (l:List UInt8):(bstr l).size=l.length:=by simp [bstr,ByteArray.size]
theorem cells_small (d:Dcl) (r:Rd) (h:tfit r) (hd:d.by_.size<=65536):dsmall (cellsP d r).1:=by
  have h1:=name_fit h
  unfold cellsP
  simp only
  cases hi:r.name.2.is [91] with
  | true=>
    simp only [if_true]
    have hn:=number_le 64 r.name.2.next
    split
    · exact ⟨by show (0:Int)<=(_:Nat);omega,by show ((_:Nat):Int)<=64;omega,by show (bstr _).size<=_;rw [bstr_len];exact h1,by show (bstr _).size<=_;rw [bstr_len];exact name_fit (tfit_next (tfit_want _ (tfit_number _ (tfit_next (tfit_name h)))))⟩
    · exact ⟨by show (0:Int)<=(_:Nat);omega,by show ((_:Nat):Int)<=64;omega,by show (bstr _).size<=_;rw [bstr_len];exact h1,hd⟩
  | false=>
    simp only [Bool.false_eq_true,if_false]
    split
    · exact ⟨by simp,by simp,by show (bstr _).size<=_;rw [bstr_len];exact h1,by show (bstr _).size<=_;rw [bstr_len];exact name_fit (tfit_next (tfit_name h))⟩
    · exact ⟨by simp,by simp,by show (bstr _).size<=_;rw [bstr_len];exact h1,hd⟩
theorem decl_small (r:Rd) (h:tfit r):dsmall (declP r).1:=by
  unfold declP
  simp only
  split
  · exact ⟨by simp,by simp,by show (bstr _).size<=_;rw [bstr_len];exact name_fit (tfit_next h),by simp [ByteArray.size]⟩
  split
  · exact cells_small _ _ (tfit_next h) (by simp [ByteArray.size])
  split
  · exact cells_small _ _ (tfit_next h) (by simp [ByteArray.size])
  · exact ⟨by simp,by simp,by simp [ByteArray.size],by simp [ByteArray.size]⟩
theorem append_d1 {ops:Array Oper} {rest:List Oper} {o:Oper} {act:Act} {Q:Exit->Act->World->Prop} (W:World) (d:Dcl) (hgd:o.guard=none) (s x:Operand)
    (ho:o.op=.call { callee:=.builtin .append,args:=#[s,x],argTypes:=#[23,23] }) (lo:Nat) (v:Value) (ds:List Dcl) (hs:act.eval s=v) (hx:act.eval x=.slice (some ⟨W.heap.size,0,none⟩) 1 1)
    (hR:DlRow lo W v ds) (hlo:lo<=W.heap.size) (hlen:ds.length<=1000)
    (h:∀ g cap w',DlRow lo w' (.slice (some ⟨g,0,none⟩) (ds.length+1) cap) (ds++[d])->(W.alloc (.cells #[.bool d.lock,.int .i64 d.label,.string d.name,.int .i64 d.size,.string d.by_,.int .i64 d.at_] 39)).grownBy w' v.ownBlock ->
     wpList Tryz.prog ops Q rest (act.put o.dst (.slice (some ⟨g,0,none⟩) (ds.length+1) cap)) w'):
    wpList Tryz.prog ops Q (o :: rest) act (W.alloc (.cells #[.bool d.lock,.int .i64 d.label,.string d.name,.int .i64 d.size,.string d.by_,.int .i64 d.at_] 39)):=by
  obtain ⟨i0,hi,hz0,hz1,hz2⟩:=info_parts infoDecl
  refine wpList_append_lies _ hgd s x 23 ho lo 39 i0 _ 6 64 Tryz.underlying23 hi hz0 hz1 hz2 rfl (by decide) v ds.length _ hs (own_same hR (TSame.alloc _ _ _)) ⟨W.heap.size,0,none⟩ 1 1 (([d].map dcells).flatten) hx (by simp [dcells]) (fun j u hu=>World.news_of_block (heap_alloc_new W _) j u (by simpa [dcells] using hu)) (by simp [dcells,Value.oneCell']) (by omega) (by unfold maxLen;omega) (by omega) (by rw [alloc_size];omega) _ rfl ?_
  intro g cap w' hown hgrow hat hlt
  refine h g cap w' ?_ hgrow
  show w'.ownsRow lo 39 6 _ _ _
  rw [List.map_append,List.flatten_append,List.length_append]
  exact hown
def mlen (m:Nat):Value->Nat
  | .slice _ n _=>m-n
  | _=>0
theorem dl_nil (lo:Nat) (w:World):DlRow lo w (.slice none 0 0) []:=World.ownsRow_nil _ _ _ _
theorem dl_slice {lo:Nat} {w:World} {v:Value} {ds:List Dcl} (h:DlRow lo w v ds):∃ ao cap,v=.slice ao ds.length cap:=by
  rcases h.2 with ⟨rfl,h0⟩ | ⟨g,cap,cur,rfl,_⟩
  · exact ⟨none,0,by rw [h0]⟩
  · exact ⟨_,cap,rfl⟩
theorem below_tsame {w w':World} (h:Below w.heap.size w w') (t:TypeId):TSame t w w':=fun k cs fr hk=>(h.block k (heap_lt hk)).trans hk
theorem below_grown {w w':World} (h:Below w.heap.size w w') (x:Option Nat):w.grownBy w' x:=⟨h.os,h.tape,h.output,h.size,fun k hk _=>h.block k hk⟩
theorem decls_any (B br:Nat) (r:Rd) (w:World) (h:RdAt B br r w):
    Calls Tryz.prog 30 #[.pointer (some ⟨br,0,none⟩)] w fun e w'=>∃ v,e=.returned v/\Dcls w.heap.size w'.heap.size w' v (declsP r).1/\RdAt B br (declsP r).2 w'/\w.grownBy w' (some br):=by
  obtain ⟨fin,hfin⟩:∃ x,x=declsP r:=⟨_,rfl⟩
  rw [<- hfin]
  have HF:Hid (declLoop 65 [] r=fin):=by rw [hfin];rfl
  have H:=Lib.hid h
  clear h hfin
  go_enter Tryz.func30,Tryz.ntmps30
  go_wp2
  go_loopw [3] (fun v wr=>∃ ds rr k,RdAt B br rr wr/\w.grownBy wr (some br)/\DlRow w.heap.size wr v ds/\Hid (k+ds.length=65)/\Hid (∀ d ∈ ds,dfit d)/\ds.length<=64/\Hid (declLoop k ds rr=fin)) (fun v _=>mlen 65 v)
  case atStart=>exact ⟨[],r,65,H.out,grownBy_refl _ _,dl_nil _ _,rfl,fun d hd=>by simp at hd,by simp,HF⟩
  case round=>
    obtain ⟨ds,rr,k,hR,hG,hrow,HK,HD,hlen,HL⟩:=hrel
    obtain ⟨ev,hc,he⟩:=hR.err
    have hlt:=hR.lt
    obtain ⟨ao,cap,rfl⟩:=dl_slice hrow
    obtain ⟨k,rfl⟩:∃ j,k=j+1:=⟨k-1,by have:=HK.out;omega⟩
    clear HF H
    cases hre:rr.err with
    | some e0=>
      rw [hre] at he
      obtain ⟨fb,rfl,_⟩:=he
      have hf:fin=(ds,rr):=by rw [<- HL.out,declLoop,hre];rfl
      have HST:=Lib.hid (hrow.dcls (by omega) HD.out)
      have HR:=Lib.hid hR
      have HG:=Lib.hid hG
      have HFN:=Lib.hid hf
      clear hrow HL hf hre hR hG
      go_wp2
      go_ret
      rw [HFN.out]
      exact ⟨_,rfl,HST.out,HR.out,HG.out⟩
    | none=>
      rw [hre] at he
      obtain rfl:ev=.nilIface:=he
      have I2:=is_any B br rr ⟨#[116,104,114,101,97,100]⟩ kThread rfl wr hR
      cases hi:rr.is kThread with
      | true=>
        rw [hi] at I2
        have hf:fin=(ds,rr):=by rw [<- HL.out,declLoop,hre,hi];rfl
        have HR:=Lib.hid hR
        have HG:=Lib.hid hG
        have HRow:=Lib.hid hrow
        have HFN:=Lib.hid hf
        clear hrow HL hf hre hR hG hi
        go_wp2_with (go_at_call 56;refine I2.mono ?_;rintro e w2 ⟨rfl,hb2⟩)
        go_ret
        have hrow2:DlRow w.heap.size w2 (.slice ao ds.length cap) ds:=own_same HRow.out (below_tsame hb2 _)
        rw [HFN.out]
        exact ⟨_,rfl,hrow2.dcls (by omega) HD.out,HR.out.below hb2,grownBy_trans HG.out (below_grown hb2 _)⟩
      | false=>
        rw [hi] at I2
        by_cases hfull:ds.length=64
        · have hf:fin=(ds,rr.fail 6):=by rw [<- HL.out,declLoop,hre,hi,if_neg (by simp),if_neg (by simp),if_pos hfull]
          have HR:=Lib.hid hR
          have HG:=Lib.hid hG
          have HRow:=Lib.hid hrow
          have HFN:=Lib.hid hf
          have FF:=fun w' h'=>fail_any B br 6 rr w' h' (by omega)
          have hlen2:((ds.length:Nat):Int)=64:=by omega
          clear hrow HL hf hre hR hG hi HK
          go_wp2_with (first
           | (go_at_call 57;refine (FF _ (HR.out.below hb2)).mono ?_;rintro e w3 ⟨rfl,h3,g3⟩)
           | (go_at_call 56;refine I2.mono ?_;rintro e w2 ⟨rfl,hb2⟩))
          go_ret
          have hrow2:DlRow w.heap.size w3 (.slice ao ds.length cap) ds:=own_same HRow.out (TSame.trans (below_tsame hb2 _) ((HR.out.below hb2).tsame g3 (by decide)))
          rw [HFN.out]
          exact ⟨_,rfl,(by have q:=hrow2.dcls (by omega) HD.out;rw [hfull] at q;exact q),h3,grownBy_trans (grownBy_trans HG.out (below_grown hb2 _)) g3⟩
        · have HL2:Hid (declLoop k (ds++[(declP rr).1]) (declP rr).2=fin):=by
           show _=_
           rw [<- HL.out,declLoop,hre,hi,if_neg (by simp),if_neg (by simp),if_neg hfull]
          have HS:Hid (dfit (declP rr).1):=(decl_small rr (fit_all hR)).fit
          have S3:=fun w' h'=>decl_any B br rr w' h'
          obtain ⟨d3,r3,e3⟩:∃ s x,declP rr=(s,x):=⟨_,_,rfl⟩
          rw [e3] at S3 HL2 HS
          simp only at HL2 HS
          have HR:=Lib.hid hR
          have HG:=Lib.hid hG
          have HRow:=Lib.hid hrow
          have hl63:ds.length<=63:=by omega
          have hne:¬ ((ds.length:Nat):Int)=64:=by omega
          clear hrow HL hre hR hG hi e3 hfull
          go_wp2_with (first
           | (at_builtin;refine append_d1 w3 d3 rfl _ _ rfl w.heap.size _ ds rfl rfl row3.out (Nat.le_trans HG.out.size (Nat.le_trans hb2.size g3.size)) (by omega) ?_;intro gg cap4 w4 hown4 hgrow4)
           | (go_at_call 58;refine (S3 _ (HR.out.below hb2)).mono ?_;rintro e w3 ⟨rfl,h3,g3⟩;have row3:Hid (DlRow w.heap.size w3 (.slice ao ds.length cap) ds):=own_same HRow.out (TSame.trans (below_tsame hb2 _) ((HR.out.below hb2).tsame g3 (by decide))))
           | (go_at_call 56;refine I2.mono ?_;rintro e w2 ⟨rfl,hb2⟩))
          go_roundw
          case rel=>
           have hW:=h3.alloc (.cells #[.bool d3.lock,.int .i64 d3.label,.string d3.name,.int .i64 d3.size,.string d3.by_,.int .i64 d3.at_] 39)
           have hR4:=rd_row hW (own_same row3.out (TSame.alloc _ _ _)) hgrow4
           have hG4:=grown_row (grown_alloc (grownBy_trans (grownBy_trans HG.out (below_grown hb2 _)) g3) _) (fun k hk=>(World.ownsRow.lt row3.out k hk).1) hgrow4
           have hk:=HK.out
           refine ⟨ds++[d3],r3,k,hR4,hG4,?_,?_,?_,by simp;omega,HL2⟩
           · exact hown4
           · show _=_;simp;omega
           · intro d hd
             rcases List.mem_append.1 hd with hd | hd
             · exact HD.out d hd
             · simp at hd;subst hd;exact HS.out
          case measure=>
           simp only [mlen];omega
def TRow (lo:Nat) (w:World) (v:Value) (ts:List (List Stm)):Prop:=
  ∃ xs:List Value,w.ownsRow lo 40 1 v ts.length xs/\∀ (i:Nat) (ss:List Stm),ts[i]?=some ss->∃ a b ao cap,xs[i]?=some (Value.slice ao ss.length cap)/\lo<=a/\b<=w.heap.size/\Stms a b w (fun v' s'=>SRep a b w bigM 41 v' s') (.slice ao ss.length cap) ss
theorem TRow.nil {lo:Nat} {w:World} : TRow lo w (.slice none 0 0) []:=⟨[],World.ownsRow_nil _ _ _ _,fun i s hs=>by simp at hs⟩
theorem Stms.same41 {a b:Nat} {w w':World} {v:Value} {ss:List Stm} (h:Stms a b w (fun v' s'=>SRep a b w bigM 41 v' s') v ss) (h45:TSame 45 w w') (h35:TSame 50 w w'):Stms a b w' (fun v' s'=>SRep a b w' bigM 41 v' s') v ss:=
  h.carry (Nat.le_refl _) (Nat.le_refl _) (h45.s45 a b) fun _ _ hr=>hr.carry (Nat.le_refl _) (Nat.le_refl _) (h35.s35 a b) (h45.s45 a b)
theorem TRow.same {lo:Nat} {w w':World} {v:Value} {ts:List (List Stm)} (h:TRow lo w v ts) (hz:w.heap.size<=w'.heap.size) (hs:∀ t:TypeId,t≠85->TSame t w w'):TRow lo w' v ts:=by
  obtain ⟨xs,ho,hr⟩:=h
  refine ⟨xs,own_same ho (hs _ (by decide)),fun i ss hi=>?_⟩
  obtain ⟨a,b,ao,cap,hx,ha,hb,hS⟩:=hr i ss hi
  exact ⟨a,b,ao,cap,hx,ha,by omega,Stms.same41 hS (hs _ (by decide)) (hs _ (by decide))⟩
theorem TRow.slice {lo:Nat} {w:World} {v:Value} {ts:List (List Stm)} (h:TRow lo w v ts):∃ ao cap,v=.slice ao ts.length cap:=by
  obtain ⟨xs,ho,_⟩:=h
  rcases ho.2 with ⟨rfl,h0⟩ | ⟨g,cap,cur,rfl,_⟩
  · exact ⟨none,0,by rw [h0]⟩
  · exact ⟨_,cap,rfl⟩
theorem TRow.thrs {lo:Nat} {w:World} {v:Value} {ts:List (List Stm)} (h:TRow lo w v ts) (hlen:ts.length<=4294967296):Thrs lo w.heap.size bigM 41 w v ts:=by
  obtain ⟨xs,ho,hr⟩:=h
  rcases ho.2 with ⟨rfl,h0⟩ | ⟨g,cap,cur,rfl,hb,hgg,rest⟩
  · rw [List.length_eq_zero_iff.1 h0];exact ⟨none,0,rfl,by simp,fun i d hd=>by simp at hd⟩
  · refine ⟨_,cap,rfl,hlen,fun i ss hs=>?_⟩
    obtain ⟨a,b,ao,cap',hx,ha,hb',hS⟩:=hr i ss hs
    have hc:=ho.cells (g:=g) rfl i _ hx
    rw [Lib.add_plain] at hc
    exact ⟨g,0,ao,cap',rfl,hb,heap_lt hgg,⟨_,_,hgg,rfl⟩,hc,hS.carry ha hb' (fun _ _ _ _ _ h=>h) fun _ _ hr=>hr.carry ha hb' (Same35.refl _ _ _) (fun _ _ _ _ _ h=>h)⟩
theorem append_t1 {ops:Array Oper} {rest:List Oper} {o:Oper} {act:Act} {Q:Exit->Act->World->Prop} (W:World) (tao:Option Addr) (tcap a:Nat) (ss:List Stm) (hgd:o.guard=none) (s x:Operand)
    (ho:o.op=.call { callee:=.builtin .append,args:=#[s,x],argTypes:=#[24,24] }) (lo:Nat) (v:Value) (ts:List (List Stm)) (hs:act.eval s=v) (hx:act.eval x=.slice (some ⟨W.heap.size,0,none⟩) 1 1)
    (hR:TRow lo W v ts) (hS:Stms a W.heap.size W (fun v' s'=>SRep a W.heap.size W bigM 41 v' s') (.slice tao ss.length tcap) ss) (ha:lo<=a) (hlo:lo<=W.heap.size) (hlen:ts.length<=1000)
    (h:∀ g cap w',TRow lo w' (.slice (some ⟨g,0,none⟩) (ts.length+1) cap) (ts++[ss])->(∀ k,v.ownBlock=some k->lo<=k)->(∃ n xs,W.ownsRow lo 40 1 v n xs)->(W.alloc (.cells #[.slice tao ss.length tcap] 40)).grownBy w' v.ownBlock ->
     wpList Tryz.prog ops Q rest (act.put o.dst (.slice (some ⟨g,0,none⟩) (ts.length+1) cap)) w'):
    wpList Tryz.prog ops Q (o :: rest) act (W.alloc (.cells #[.slice tao ss.length tcap] 40)):=by
  obtain ⟨i0,hi,hz0,hz1,hz2⟩:=info_parts infoStmts
  obtain ⟨xs,hown,hr⟩:=hR
  have hownA:=own_same hown (TSame.alloc 40 W (.cells #[.slice tao ss.length tcap] 40))
  refine wpList_append_lies _ hgd s x 24 ho lo 40 i0 _ 1 24 Tryz.underlying24 hi hz0 hz1 hz2 rfl (by decide) v ts.length xs hs hownA ⟨W.heap.size,0,none⟩ 1 1 [.slice tao ss.length tcap] hx (by simp) (World.news_of_block (heap_alloc_new W _)) (by simp [Value.oneCell']) (by omega) (by unfold maxLen;omega) (by omega) (by rw [alloc_size];omega) _ rfl ?_
  intro g cap w' hown1 hgrow hat hlt
  have hz:=hgrow.size
  rw [alloc_size] at hz
  have tk:∀ t:TypeId,t≠40->TSame t W w':=fun t h1=>(TSame.alloc _ _ _).trans (TSame.of_row hownA hgrow h1)
  refine h g cap w' ⟨xs++[.slice tao ss.length tcap],by rw [List.length_append];exact hown1,fun i e he=>?_⟩ (fun k hk=>(hown.lt k hk).1) ⟨_,_,hown⟩ hgrow
  by_cases hil:i<ts.length
  · rw [List.getElem?_append_left hil] at he
    obtain ⟨p,q,ao,cp,hx',hp,hq,hS'⟩:=hr i e he
    refine ⟨p,q,ao,cp,?_,hp,by omega,Stms.same41 hS' (tk _ (by decide)) (tk _ (by decide))⟩
    rw [List.getElem?_append_left (by have:=hown.1;omega)];exact hx'
  · rw [List.getElem?_append_right (by omega)] at he
    have hi0:i=ts.length:=by
     rcases Nat.eq_zero_or_pos (i-ts.length) with h | h
     · omega
     · rw [List.getElem?_eq_none (by simp;omega)] at he;cases he
    subst hi0
    simp at he
    subst he
    refine ⟨a,W.heap.size,tao,tcap,?_,ha,by omega,Stms.same41 hS (tk _ (by decide)) (tk _ (by decide))⟩
    have hl:=hown.1
    rw [List.getElem?_append_right (by omega),show ts.length-xs.length=0 by omega];rfl
theorem RdAt.ts_of {B br:Nat} {r:Rd} {w w':World} (h:RdAt B br r w) (hg:w.grownBy w' (some br)):∀ t:TypeId,t≠85->TSame t w w':=fun t ht=>h.tsame hg ht
theorem threads_any (B br:Nat) (r:Rd) (w:World) (h:RdAt B br r w):
    Calls Tryz.prog 31 #[.pointer (some ⟨br,0,none⟩)] w fun e w'=>∃ v,e=.returned v/\Thrs w.heap.size w'.heap.size bigM 41 w' v (threadsP r).1/\RdAt B br (threadsP r).2 w'/\w.grownBy w' (some br):=by
  obtain ⟨fin,hfin⟩:∃ x,x=threadsP r:=⟨_,rfl⟩
  rw [<- hfin]
  have HF:Hid (thrLoop 17 [] r=fin):=by rw [hfin];rfl
  have H:=Lib.hid h
  clear h hfin
  go_enter Tryz.func31,Tryz.ntmps31
  go_wp2
  go_loopw [3] (fun v wr=>∃ ts rr k,RdAt B br rr wr/\w.grownBy wr (some br)/\TRow w.heap.size wr v ts/\Hid (k+ts.length=17)/\ts.length<=16/\Hid (thrLoop k ts rr=fin)) (fun v _=>mlen 17 v)
  case atStart=>exact ⟨[],r,17,H.out,grownBy_refl _ _,TRow.nil,rfl,by simp,HF⟩
  case round=>
    obtain ⟨ts,rr,k,hR,hG,hrow,HK,hlen,HL⟩:=hrel
    obtain ⟨ev,hc,he⟩:=hR.err
    have hlt:=hR.lt
    obtain ⟨ao,cap,rfl⟩:=hrow.slice
    obtain ⟨k,rfl⟩:∃ j,k=j+1:=⟨k-1,by have:=HK.out;omega⟩
    clear HF H
    cases hre:rr.err with
    | some e0=>
      rw [hre] at he
      obtain ⟨fb,rfl,_⟩:=he
      have hf:fin=(ts,rr):=by rw [<- HL.out,thrLoop,hre];rfl
      have HST:=Lib.hid (hrow.thrs (by omega))
      have HR:=Lib.hid hR
      have HG:=Lib.hid hG
      have HFN:=Lib.hid hf
      clear hrow HL hf hre hR hG
      go_wp2
      go_ret
      rw [HFN.out]
      exact ⟨_,rfl,HST.out,HR.out,HG.out⟩
    | none=>
      rw [hre] at he
      obtain rfl:ev=.nilIface:=he
      have I2:=here_any B br rr wr hR
      have hkf:=tok_kind
      by_cases hkk:rr.here.kind=0
      · have hf:fin=(ts,rr):=by rw [<- HL.out,thrLoop,hre,if_neg (by simp),if_pos hkk]
        rw [hkk] at I2
        have HR:=Lib.hid hR
        have HG:=Lib.hid hG
        have HRow:=Lib.hid hrow
        have HFN:=Lib.hid hf
        clear hrow HL hf hre hR hG hkk
        generalize rr.here=T at *
        go_wp2_with (go_at_call 59;refine I2.mono ?_;rintro e w2 ⟨rfl,hb2⟩;have hg2:Hid (wr.grownBy w2 (some br)):=(by show wr.grownBy w2 (some br);rw [hb2];exact World.grownBy_alloc _ _ _);have hr2:Hid (RdAt B br rr w2):=(by show RdAt B br rr w2;rw [hb2];exact HR.out.alloc _);clear hb2)
        go_ret
        have hrow2:=HRow.out.same hg2.out.size (HR.out.ts_of hg2.out)
        rw [HFN.out]
        exact ⟨_,rfl,hrow2.thrs (by omega),hr2.out,grownBy_trans HG.out hg2.out⟩
      · have hk1:1<=rr.here.kind:=by omega
        by_cases hfull:ts.length=16
        · have hf:fin=(ts,rr.fail 6):=by rw [<- HL.out,thrLoop,hre,if_neg (by simp),if_neg hkk,if_pos hfull]
          have HR:=Lib.hid hR
          have HG:=Lib.hid hG
          have HRow:=Lib.hid hrow
          have HFN:=Lib.hid hf
          have FF:=fun w' h'=>fail_any B br 6 rr w' h' (by omega)
          have hlen2:((ts.length:Nat):Int)=16:=by omega
          clear hrow HL hf hre hR hG HK hkk
          generalize rr.here=T at *
          go_wp2_with (first
           | (go_at_call 57;refine (FF _ hr2.out).mono ?_;rintro e w3 ⟨rfl,h3,g3⟩)
           | (go_at_call 59;refine I2.mono ?_;rintro e w2 ⟨rfl,hb2⟩;have hg2:Hid (wr.grownBy w2 (some br)):=(by show wr.grownBy w2 (some br);rw [hb2];exact World.grownBy_alloc _ _ _);have hr2:Hid (RdAt B br rr w2):=(by show RdAt B br rr w2;rw [hb2];exact HR.out.alloc _);clear hb2))
          go_ret
          have hrow2:=(HRow.out.same hg2.out.size (HR.out.ts_of hg2.out)).same g3.size (hr2.out.ts_of g3)
          rw [HFN.out]
          exact ⟨_,rfl,(by have q:=hrow2.thrs (by omega);rw [hfull] at q;exact q),h3,grownBy_trans (grownBy_trans HG.out hg2.out) g3⟩
        · have HL2:Hid (thrLoop k (ts++[(blockOf (stP 40) 1 (rr.want kThread)).1]) (blockOf (stP 40) 1 (rr.want kThread)).2=fin):=by
           show _=_
           rw [<- HL.out,thrLoop,hre,if_neg (by simp),if_neg hkk,if_neg hfull]
          have W3:=fun w' h'=>want_any B br rr ⟨#[116,104,114,101,97,100]⟩ kThread rfl w' h'
          have S3:=fun w' h'=>bl_all 40 B br 1 (rr.want kThread) w' h' rfl
          obtain ⟨rw1,ew1⟩:∃ x,rr.want kThread=x:=⟨_,rfl⟩
          rw [ew1] at W3 S3 HL2
          obtain ⟨d3,r3,e3⟩:∃ s x,blockOf (stP 40) 1 rw1=(s,x):=⟨_,_,rfl⟩
          rw [e3] at S3 HL2
          simp only at HL2 S3
          have HR:=Lib.hid hR
          have HG:=Lib.hid hG
          have HRow:=Lib.hid hrow
          have hl63:ts.length<=15:=by omega
          have hne:¬ ((ts.length:Nat):Int)=16:=by omega
          clear hrow HL hre hR hG e3 ew1 hfull hkk
          generalize rr.here=T at *
          go_wp2_with (first
           | (at_builtin;refine append_t1 w4 tao tcap w3.heap.size d3 rfl _ _ rfl w.heap.size _ ts rfl rfl row4.out S4.out (Nat.le_trans HG.out.size (Nat.le_trans hg2.out.size g3.out.size)) (Nat.le_trans (Nat.le_trans HG.out.size (Nat.le_trans hg2.out.size g3.out.size)) g4.out.size) (by omega) ?_;intro gg cap5 w5 hrow5 hlo5 hown5 hgrow5)
           | (go_at_call 61;refine (S3 _ h3.out).mono ?_;rintro e w4 ⟨v4,rfl,S4',h4',g4'⟩;obtain ⟨tao,tcap,rfl⟩:=stms_slice S4';have S4:=Lib.hid S4';have h4:=Lib.hid h4';have g4:=Lib.hid g4';have row4:=Lib.hid (row3.out.same g4'.size (h3.out.ts_of g4'));clear S4' h4' g4')
           | (go_at_call 60;refine (W3 _ hr2.out).mono ?_;rintro e w3 ⟨rfl,h3',g3'⟩;have h3:=Lib.hid h3';have g3:=Lib.hid g3';have row3:=Lib.hid (row2.out.same g3'.size (hr2.out.ts_of g3'));clear h3' g3')
           | (go_at_call 59;refine I2.mono ?_;rintro e w2 ⟨rfl,hb2⟩;have hg2:Hid (wr.grownBy w2 (some br)):=(by show wr.grownBy w2 (some br);rw [hb2];exact World.grownBy_alloc _ _ _);have hr2:Hid (RdAt B br rr w2):=(by show RdAt B br rr w2;rw [hb2];exact HR.out.alloc _);have row2:=Lib.hid (HRow.out.same hg2.out.size (HR.out.ts_of hg2.out));clear hb2))
          go_roundw
          case rel=>
           obtain ⟨n5,xs5,ho5⟩:=hown5
           have hW:=h4.out.alloc (.cells #[.slice tao d3.length tcap] 40)
           have hR4:=rd_row hW (own_same ho5 (TSame.alloc _ _ _)) hgrow5
           have hG4:=grown_row (grown_alloc (grownBy_trans (grownBy_trans (grownBy_trans HG.out hg2.out) g3.out) g4.out) _) hlo5 hgrow5
           have hk:=HK.out
           refine ⟨ts++[d3],r3,k,hR4,hG4,?_,?_,by simp;omega,HL2⟩
           · exact hrow5
           · show _=_;simp;omega
          case measure=>
           simp only [mlen];omega
end Go.Proofs.YtlepckjmdjjolaaGreatDoor.Pr
