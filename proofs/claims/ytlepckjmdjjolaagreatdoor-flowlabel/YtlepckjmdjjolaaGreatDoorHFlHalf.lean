/- A part of the declarations that numbers make is as good as all of them, if the first is in it. Plain. -/
import Derived.Test.YtlepckjmdjjolaaGreatDoorGFlM
namespace Go.Proofs.YtlepckjmdjjolaaGreatDoor.Fl
open Sc (Mng mnone put localM putAll Dc declM bad meansOf firstBad none0)
set_option linter.unusedVariables false
set_option linter.unusedSimpArgs false
theorem declM_pos (d:Dc):(declM d).kind≠0:=by
 unfold declM
 split
 · simp
 · split <;> simp
theorem fb_cons {f:ByteArray->Mng} {d:Dc} {ds:List Dc} (h:firstBad f (d :: ds)=none):bad f d=false/\firstBad (put f d.name (declM d)) ds=none:=by
 simp only [firstBad] at h
 split at h
 · cases h
 · rename_i hb
   exact ⟨by simpa using hb,h⟩
theorem not_bad {f:ByteArray->Mng} {d:Dc} (h:bad f d=false):(f d.name).kind=0/\(d.by_.data.toList.isEmpty=true\/(f d.by_).kind=1):=by
 unfold bad at h
 simp only [Bool.or_eq_false_iff,Bool.and_eq_false_iff,bne_eq_false_iff_eq,Bool.not_eq_false'] at h
 exact ⟨h.1,h.2⟩
theorem bad_not {f:ByteArray->Mng} {d:Dc} (h0:(f d.name).kind=0) (h1:d.by_.data.toList.isEmpty=true\/(f d.by_).kind=1):bad f d=false:=by
 unfold bad
 simp only [Bool.or_eq_false_iff,Bool.and_eq_false_iff,bne_eq_false_iff_eq,Bool.not_eq_false']
 exact ⟨h0,h1⟩
theorem put_kind0 {f:ByteArray->Mng} {d:Dc} {s:ByteArray} (h:(put f d.name (declM d) s).kind=0):s≠d.name/\(f s).kind=0:=by
 by_cases e:s=d.name
 · subst e
   rw [Sc.put_same] at h
   exact absurd h (declM_pos d)
 · rw [Sc.put_ne _ _ _ _ e] at h
   exact ⟨e,h⟩
theorem put_kind1 {f:ByteArray->Mng} {d:Dc} {s:ByteArray} (hd:(f d.name).kind=0) (h:(f s).kind=1) (g:ByteArray->Mng) (hg:(g s).kind=1):(put g d.name (declM d) s).kind=1:=by
 have e:s≠d.name:=fun e=>by
  rw [e,hd] at h
  cases h
 rw [Sc.put_ne _ _ _ _ e]
 exact hg
theorem sub_good {ds' ds:List Dc} (h:ds'.Sublist ds):∀ {f f':ByteArray->Mng},(∀ s,(f s).kind=0->(f' s).kind=0)->(∀ d ∈ ds,d.by_.data.toList.isEmpty=true\/((f d.by_).kind=1/\(f' d.by_).kind=1))->firstBad f ds=none->firstBad f' ds'=none:=by
 induction h with
 | slnil=>intro f f' _ _ _;rfl
 | cons a h ih=>
   intro f f' hs hk hb
   obtain ⟨h1,h2⟩:=fb_cons hb
   have h0:=(not_bad h1).1
   refine ih (f:=put f a.name (declM a)) (f':=f') (fun s hz=>hs s (put_kind0 hz).2) (fun d hd=>?_) h2
   rcases hk d (List.mem_cons_of_mem _ hd) with e | ⟨e1,e2⟩
   · exact .inl e
   · exact .inr ⟨put_kind1 h0 e1 f e1,e2⟩
 | cons_cons a h ih=>
   intro f f' hs hk hb
   obtain ⟨h1,h2⟩:=fb_cons hb
   have h0:=(not_bad h1).1
   have hb2:bad f' a=false:=bad_not (hs _ h0) (by
    rcases hk a (List.mem_cons_self ..) with e | ⟨e1,e2⟩
    · exact .inl e
    · exact .inr e2)
   simp only [firstBad,hb2]
   rw [if_neg (by simp)]
   refine ih (f:=put f a.name (declM a)) (f':=put f' a.name (declM a)) (fun s hz=>?_) (fun d hd=>?_) h2
   · obtain ⟨hne,hz2⟩:=put_kind0 hz
     rw [Sc.put_ne _ _ _ _ hne]
     exact hs s hz2
   · rcases hk d (List.mem_cons_of_mem _ hd) with e | ⟨e1,e2⟩
     · exact .inl e
     · exact .inr ⟨put_kind1 h0 e1 f e1,put_kind1 h0 e1 f' e2⟩
def dFirst (k:Nat):Dcl:=(declsK k).headD ⟨false,0,⟨#[]⟩,0,⟨#[]⟩,0⟩
theorem first_all:((List.range 4).all fun k=>(declsK k).all (fun d=>d.by_.data.toList.isEmpty || (put none0 (dFirst k).name (declM (toDc (dFirst k))) d.by_).kind == 1))=true:=by kernel_rfl
theorem some_all:((List.range 4).all fun k => !(declsK (k+1)).isEmpty)=true:=by kernel_rfl
theorem decls_ne (k:Nat) (h0:0<k) (hk:k<4):∃ r,declsK k=dFirst k :: r:=by
 have h:=List.all_eq_true.1 some_all (k-1) (by simp;omega)
 rw [show k-1+1=k by omega] at h
 unfold dFirst
 cases hd:declsK k with
 | nil=>rw [hd] at h;cases h
 | cons d r=>exact ⟨r,rfl⟩
theorem half_good {k:Nat} (h0:0<k) (hk:k<4) {r:List Dcl} (h:(dFirst k :: r).Sublist (declsK k)):firstBad none0 ((dFirst k :: r).map toDc)=none:=by
 have hb:=bad_none (S:=1) (.inr rfl) k hk
 rw [lbl_one] at hb
 have hall:=List.all_eq_true.1 first_all k (by simp;omega)
 obtain ⟨R,hR⟩:=decls_ne k h0 hk
 rw [hR] at h hb hall
 obtain ⟨h1,h2⟩:=fb_cons (d:=toDc (dFirst k)) (ds:=R.map toDc) hb
 have hs:=(List.cons_sublist_cons.1 h).map toDc
 show firstBad none0 (toDc (dFirst k) :: r.map toDc)=none
 simp only [firstBad,h1]
 rw [if_neg (by simp)]
 refine sub_good hs (fun s hz=>hz) (fun d hd=>?_) h2
 obtain ⟨x,hx,rfl⟩:=List.mem_map.1 hd
 have:=List.all_eq_true.1 hall x (List.mem_cons_of_mem _ hx)
 simp only [Bool.or_eq_true,beq_iff_eq] at this
 rcases this with e | e
 · exact .inl e
 · exact .inr ⟨e,e⟩
end Go.Proofs.YtlepckjmdjjolaaGreatDoor.Fl
