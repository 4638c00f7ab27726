/- The walk of FlowPublic: on every list of numbers it returns true. Conditions: lex's variables, and that of errors, are as they are laid. -/
import Derived.Test.YtlepckjmdjjolaaGreatDoorHWFlTakes
set_option maxHeartbeats 4000000
set_option maxRecDepth 100000
namespace Go.Proofs.YtlepckjmdjjolaaGreatDoor.Fl
open Go.ChangeShapes Go.WideShapes Go.ChangeAt Go.RowKit
set_option linter.unusedVariables false
set_option linter.unusedSimpArgs false
theorem cell_set_ne {w:World} {g a b:Nat} (h:a≠b) (u:Value):(w.setCell ⟨g,b,none⟩ u).cell? ⟨g,a,none⟩=w.cell? ⟨g,a,none⟩:=by
 cases hb:w.heap[g]? with
 | none=>simp [World.cell?,World.setCell,hb,Array.getElem?_modify]
 | some o=>cases o <;> simp [World.cell?,World.setCell,hb,Array.getElem?_modify,Array.getElem?_setIfInBounds,Ne.symm h]
theorem cell_set_eq {w:World} {g b:Nat} {v:Value} (h:w.cell? ⟨g,b,none⟩=some v) (u:Value):(w.setCell ⟨g,b,none⟩ u).cell? ⟨g,b,none⟩=some u:=by
 cases hb:w.heap[g]? with
 | none=>simp [World.cell?,hb] at h
 | some o=>
   cases o <;> simp [World.cell?,hb] at h
   rename_i cs t fr
   have:b<cs.size:=(Array.getElem?_eq_some_iff.1 h).1
   simp [World.cell?,World.setCell,hb,Array.getElem?_modify,Array.getElem?_setIfInBounds,this]
theorem dcls_label {lo B:Nat} {w:World} {v:Value} {ds:List Dcl} {k:Nat} {d:Dcl} (h:Dcls lo B w v ds) (hk:ds[k]?=some d):
 ∃ g off cap,v=.slice (some ⟨g,off,none⟩) ds.length cap/\lo<=g/\g<B/\(∃ cs,w.heap[g]?=some (.cells cs 39 (0,0)))/\w.cell? ⟨g,off+k*6+1,none⟩=some (.int .i64 d.label) /\
   Dcls lo B (w.setCell ⟨g,off+k*6+1,none⟩ (.int .i64 0)) v (ds.set k { d with label:=0 }):=by
 obtain ⟨ao,cap,rfl,hl,hr⟩:=h
 obtain ⟨hf,g,off,rfl,hlo,hg,⟨cs,fr,hc,rfl⟩,h0,h1,h2,h3,h4,h5⟩:=hr k d hk
 refine ⟨g,off,cap,rfl,hlo,hg,⟨cs,hc⟩,h1,_,cap,by rw [List.length_set],by rw [List.length_set];exact hl,fun i e he=>?_⟩
 by_cases hik:i=k
 · subst hik
   have hlt:=(List.getElem?_eq_some_iff.1 hk).1
   rw [List.getElem?_set_self hlt] at he
   cases he
   exact ⟨hf,g,off,rfl,hlo,hg,⟨_,_,set_heap hc _ _,rfl⟩,(cell_set_ne (by omega) _).trans h0,cell_set_eq h1 _,(cell_set_ne (by omega) _).trans h2,(cell_set_ne (by omega) _).trans h3,(cell_set_ne (by omega) _).trans h4,(cell_set_ne (by omega) _).trans h5⟩
 · rw [List.getElem?_set_ne (fun e=>hik e.symm)] at he
   obtain ⟨hf',g',off',e',hlo',hg',⟨cs',fr',hc',hz'⟩,q0,q1,q2,q3,q4,q5⟩:=hr i e he
   cases e'
   rw [hc] at hc'
   cases hc'
   exact ⟨hf',g,off,rfl,hlo,hg,⟨_,_,set_heap hc _ _,rfl⟩,(cell_set_ne (by omega) _).trans q0,(cell_set_ne (by omega) _).trans q1,(cell_set_ne (by omega) _).trans q2,(cell_set_ne (by omega) _).trans q3,(cell_set_ne (by omega) _).trans q4,(cell_set_ne (by omega) _).trans q5⟩
theorem relab_at {f:Dcl->Dcl} {ds:List Dcl} {k:Nat} {d:Dcl} (h:ds[k]?=some d):((ds.take k).map f++ds.drop k)[k]?=some d:=by
 have hlt:=(List.getElem?_eq_some_iff.1 h).1
 rw [List.getElem?_append_right (by simp;omega)]
 simp [List.getElem?_drop,Nat.min_eq_left (Nat.le_of_lt hlt),h]
theorem relab_step {f:Dcl->Dcl} {ds:List Dcl} {k:Nat} {d:Dcl} (h:ds[k]?=some d):((ds.take k).map f++ds.drop k).set k (f d)=(ds.take (k+1)).map f++ds.drop (k+1):=by
 have hlt:=(List.getElem?_eq_some_iff.1 h).1
 have hx:ds[k]=d:=by rw [List.getElem?_eq_getElem hlt] at h;exact Option.some.inj h
 rw [List.take_add_one,h,List.drop_eq_getElem_cons hlt,hx,List.set_append]
 simp [Nat.min_eq_left (Nat.le_of_lt hlt)]
theorem lbl_zero (d:Dcl):({ d with label:=0 } : Dcl)=lbl 0 d:=by
 unfold lbl;split <;> rfl
theorem public_walk (v0:Value) (zs0:List Int) (w:World) (h0:IntsAt w .u8 v0 zs0) (z0:∀ n ∈ zs0,(Lit.int .u8 n).wf=true) (n0:zs0.length*1<=140737488351232) (hV:Lx.Vars w) (hTV:TypeVar w):
 Calls Tryz.prog 8 #[v0] w fun e w'=>e=.returned (.bool true)/\Below w.heap.size w w':=by
 have HA:=awake_any w hV hTV
 obtain ⟨ns,hl,HM⟩:=made_for h0 z0 n0
 obtain ⟨hk,hn⟩:=small_made ns hl
 have hck:=made_check (.inl rfl:(0:Int)=0\/(0:Int)=1) ns
 obtain ⟨ds,hds⟩:∃ ds,ds=(makeM ns).decls:=⟨_,rfl⟩
 obtain ⟨ts,hts⟩:∃ ts,ts=(makeM ns).threads:=⟨_,rfl⟩
 rw [<- hds,<- hts] at HM hk hck
 rw [<- hts] at hn
 have PC:=fun (dv tv:Value) (w1:World) (D:Dcls 0 w1.heap.size w1 dv (ds.map (lbl 0))) (T:Thrs 0 w1.heap.size 13 5 w1 tv ts)=>check_any (p:=⟨ds.map (lbl 0),ts⟩) D T (by simpa using hk) hn
 rw [hck] at PC
 clear hk hn hck h0 hV hTV hds hts
 go_enter Tryz.func8,Tryz.ntmps8
 go_wp2_with (first
  | (go_at_call 14;refine (HM _ hb1).mono ?_;rintro e w2 ⟨dv,tv,rfl,D2,T2,hb2⟩;obtain ⟨dao,dcap,rfl⟩:=Pr.dcls_slice D2;obtain ⟨tao,tcap,rfl⟩:=Pr.thrs_slice T2)
  | (go_at_call 11;refine HA.mono ?_;rintro e w1 ⟨rfl,hb1⟩))
 have h02:=hb1.trans (hb2.mono hb1.size)
 have hz1:=hb1.size
 have hz2:=hb2.size
 have HD:=Lib.hid D2
 have HT:=Lib.hid T2
 have hN:ds.length<=4294967296:=by obtain ⟨_,_,_,h,_⟩:=D2;exact h
 clear D2 T2 HM HA
 go_loopw [12] (fun i wr=>∃ k:Nat,k<=ds.length/\i=.int .i64 k/\wr.heap[w2.heap.size]?=some (.cells #[.slice dao ds.length dcap,.slice tao ts.length tcap] 26 (0,0))/\Dcls w1.heap.size w2.heap.size wr (.slice dao ds.length dcap) ((ds.take k).map (lbl 0)++ds.drop k)/\Thrs w1.heap.size w2.heap.size 13 5 wr (.slice tao ts.length tcap) ts/\Below w1.heap.size w1 wr/\w2.heap.size+1<=wr.heap.size) (fun i _=>ds.length-(intOf i).toNat)
 case atStart=>
  have hbA:Below w2.heap.size w2 (w2.alloc (.cells #[.slice dao ds.length dcap,.slice tao ts.length tcap] 26)):=(Below.refl _ _).alloc (Nat.le_refl _) _
  exact ⟨0,Nat.zero_le _,rfl,heap_alloc_new _ _,by simpa using HD.out.on hbA,HT.out.on hbA,hb2.trans (hbA.mono hz2),by rw [alloc_size];omega⟩
 case round=>
  obtain ⟨k,hk,rfl,hB,hDk,hTk,hbr,hsz⟩:=hrel
  obtain ⟨p0,p1⟩:=box_two hB
  by_cases hlt:k<ds.length
  · obtain ⟨d,hd⟩:∃ d,ds[k]?=some d:=⟨ds[k],by simp [hlt]⟩
    obtain ⟨g,off,cap,e,hlo,hg,⟨cs,hc⟩,hcl,hD2⟩:=dcls_label hDk (relab_at hd)
    have hDl:((ds.take k).map (lbl 0)++ds.drop k).length=ds.length:=by simp;omega
    rw [hDl] at e
    cases e
    rw [lbl_zero,relab_step hd] at hD2
    have hfz:=Lib.frozen_of_heap hc (off+k*6+1)
    have hT3:=Pr.Thrs.tsame hTk (TSame.of_set hc (by decide) (off+k*6+1) (.int .i64 0)) (TSame.of_set hc (by decide) _ _) (TSame.of_set hc (by decide) _ _) (Nat.le_refl _) (Nat.le_refl _)
    have hB3:(wr.setCell ⟨g,off+k*6+1,none⟩ (.int .i64 0)).heap[w2.heap.size]?=some (.cells #[.slice (some ⟨g,off,none⟩) ds.length dcap,.slice tao ts.length tcap] 26 (0,0)):=(Below.heap_setCell _ _ _ _ (by show w2.heap.size≠g;omega)).trans hB
    have hb3:=hbr.setCell (p:=⟨g,off+k*6+1,none⟩) hlo (.int .i64 0)
    have KD:=Lib.hid hD2
    have KT:=Lib.hid hT3
    have KB:=Lib.hid hB3
    clear hD2 hT3 hB3 hDk hTk hB hDl hd
    go_wp2
    go_roundw
    case rel=>exact ⟨k+1,by omega,by go_num,KB.out,KD.out,KT.out,hb3,by simp [World.setCell];omega⟩
    case measure=>simp [intOf];omega
  · obtain rfl:k=ds.length:=by omega
    rw [List.take_length,List.drop_length,List.append_nil] at hDk
    have P:=PC _ _ wr ((show Dcls 0 wr.heap.size wr (.slice dao ds.length dcap) (ds.map (lbl 0)) from by
        obtain ⟨ao,cap,e,hl,hr⟩:=hDk
        refine ⟨ao,cap,e,hl,fun i d hd=>?_⟩
        obtain ⟨hf,g,off,a,_,b,c⟩:=hr i d hd
        exact ⟨hf,g,off,a,Nat.zero_le _,by omega,c⟩)) (Pr.Thrs.tsame hTk (fun _ _ _ h=>h) (fun _ _ _ h=>h) (fun _ _ _ h=>h) (Nat.zero_le _) (by omega))
    have h0r:=hb1.trans (hbr.mono hz1)
    clear hDk hTk
    go_wp2_with (go_at_call 16;refine P.mono ?_;rintro e w3 ⟨hb3,rfl⟩)
    go_ret
    exact ⟨rfl,h0r.trans (hb3.mono h0r.size)⟩
end Go.Proofs.YtlepckjmdjjolaaGreatDoor.Fl
