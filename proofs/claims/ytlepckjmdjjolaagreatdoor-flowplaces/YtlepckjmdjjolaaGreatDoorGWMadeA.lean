/- Own texts laid together: PMade. Conditions: as each theorem says. -/
import Derived.Test.YtlepckjmdjjolaaGreatDoorGPGd
import Derived.Test.YtlepckjmdjjolaaGreatDoorGMakeP
set_option linter.unusedVariables false
set_option linter.unusedSimpArgs false
namespace Go.Proofs.YtlepckjmdjjolaaGreatDoor.Pr
open Lx (Tok)
theorem isName_of {s:ByteArray} (h:(match bys s with | c :: _=>Lx.letterB (Lx.num c) | []=>false)=true) (h2:(bys s).all (fun c=>Lx.wordB (Lx.num c))=true) (h3:Lx.keyB (bys s)=false):isName s:=⟨wordText_of h h2,h3⟩
theorem keys_no_digit:∀ k ∈ Lx.keyWords,k.all (fun c => !Lx.digitB (Lx.num c))=true:=by decide
theorem digit_no_key {x:List UInt8} {c:UInt8} (hc:c ∈ x) (hd:Lx.digitB (Lx.num c)=true):Lx.keyB x=false:=by
 cases e:Lx.keyB x with
 | false=>rfl
 | true=>
   exfalso
   have hm:x ∈ Lx.keyWords:=by unfold Lx.keyB at e;simpa using e
   have:=List.all_eq_true.1 (keys_no_digit x hm) c hc
   rw [hd] at this;cases this
theorem digitB_digit (n:Nat):Lx.digitB (Lx.num (digitB n))=true:=by
 unfold digitB
 rw [num_ofNat _ (by omega)]
 exact Lx.digit_yes (by omega)
theorem name_two {c:UInt8} (hc:Lx.letterB (Lx.num c)=true) (n:Nat):isName ⟨#[c,digitB n]⟩:=by
 have hd:=digitB_digit n
 refine ⟨⟨⟨c,[digitB n],rfl,hc⟩,fun d hm=>?_⟩,digit_no_key (x:=[c,digitB n]) (c:=digitB n) (by simp) hd⟩
 have hm':d ∈ [c,digitB n]:=hm
 simp only [List.mem_cons,List.not_mem_nil,or_false] at hm'
 rcases hm' with rfl | rfl
 · exact letter_word hc
 · exact digit_word hd
theorem name_four {c:UInt8} (hc:Lx.letterB (Lx.num c)=true) (a b d:Nat):isName ⟨#[c,digitB a,digitB b,digitB d]⟩:=by
 refine ⟨⟨⟨c,[digitB a,digitB b,digitB d],rfl,hc⟩,fun x hm=>?_⟩,digit_no_key (x:=[c,digitB a,digitB b,digitB d]) (c:=digitB a) (by simp) (digitB_digit a)⟩
 have hm':x ∈ [c,digitB a,digitB b,digitB d]:=hm
 simp only [List.mem_cons,List.not_mem_nil,or_false] at hm'
 rcases hm' with rfl | rfl | rfl | rfl
 · exact letter_word hc
 · exact digit_word (digitB_digit _)
 · exact digit_word (digitB_digit _)
 · exact digit_word (digitB_digit _)
theorem name_dig {c:UInt8} (hc:Lx.letterB (Lx.num c)=true) (E:Env):isName (dig c E):=name_two hc _
theorem name_x (E:Env):isName (nameX E):=name_four (by decide) _ _ _
theorem name_shared:isName sharedS:=isName_of (by decide) (by decide) (by decide)
theorem name_hidden:isName hiddenS:=isName_of (by decide) (by decide) (by decide)
theorem name_door:isName doorS:=isName_of (by decide) (by decide) (by decide)
theorem name_count:isName countS:=isName_of (by decide) (by decide) (by decide)
def goodN (E:Env):Prop:=∀ s ∈ E.loc,isName s
theorem g_lit (n v:Nat) (h:v<18446744073709551616):gT (n+1) (litT v):=.inl ⟨rfl,rfl,rfl,h,rfl⟩
theorem g_name (n:Nat) (s:ByteArray) (h:isName s):gT (n+1) (nameT s):=.inr (.inl ⟨rfl,rfl,h,rfl,rfl⟩)
theorem g_cell (n:Nat) (s:ByteArray) (x:Tree) (h:isName s) (hx:gT n x):gT (n+1) (cellT s x):=.inr (.inr (.inl ⟨rfl,rfl,h,rfl,x,rfl,hx⟩))
theorem g_bin (n:Nat) (o:Nat) (x y:Tree) (ho:o<=9) (hx:gT n x) (hy:gT n y):gT (n+1) (binT o x y):=.inr (.inr (.inr (.inl ⟨rfl,by simp [binT],by simp [binT];omega,rfl,rfl,x,y,rfl,hx,hy⟩)))
theorem g_not (n:Nat) (x:Tree) (hx:gT n x):gT (n+1) (notT x):=.inr (.inr (.inr (.inr (.inl ⟨rfl,rfl,rfl,rfl,x,rfl,hx⟩))))
theorem g_pick (n:Nat) (x y z:Tree) (hx:gT n x) (hy:gT n y) (hz:gT n z):gT (n+1) (pickT x y z):=.inr (.inr (.inr (.inr (.inr ⟨rfl,rfl,rfl,rfl,x,y,z,rfl,hx,hy,hz⟩))))
theorem loc_name {E:Env} (h:goodN E) (i:Nat) (hi:i<E.loc.length):isName (E.loc.getD i ⟨#[]⟩):=by
 have:E.loc.getD i ⟨#[]⟩ ∈ E.loc:=by simp [hi]
 exact h _ this
theorem counter_name {E:Env} (h:goodN E):∀ (n:Nat) (s:ByteArray),n<=E.loc.length->counterUpto E n=some s->isName s
 | 0,s,_,hs=>by simp [counterUpto] at hs
 | n+1,s,hn,hs=>by
   unfold counterUpto at hs
   split at hs
   · cases hs;exact loc_name h n (by omega)
   · exact counter_name h n s (by omega) hs
theorem place_g {E:Env} (h:goodN E) {pub:Nat->List UInt8->Tree × List UInt8} {n deep:Nat} (hp:∀ d ns,gT n (pub d ns).1) (ns:List UInt8):gT (n+1) (placeM pub E deep ns).1:=by
 unfold placeM
 have hv:=nxV_lt ns.tail 4 (by omega)
 split
 · split
   · next s hs=>exact g_name _ _ (counter_name h _ s (Nat.le_refl _) hs)
   · exact g_lit _ _ (by omega)
 · split
   · cases n with
     | zero=>exact (hp 0 []).elim
     | succ n=>exact g_bin _ 3 _ _ (by omega) (hp _ _) (g_lit _ _ (by omega))
   · exact g_lit _ _ (by omega)
theorem bin_g {f:Nat->List UInt8->Tree × List UInt8} {n deep:Nat} (hp:∀ d ns,gT n (f d ns).1) (ns:List UInt8):gT (n+1) (binM f deep ns).1:=by
 have:=nxV_lt ns 10 (by omega)
 exact g_bin _ _ _ _ (by omega) (hp _ _) (hp _ _)
theorem pub_g {E:Env} (h:goodN E):∀ (f deep:Nat) (ns:List UInt8),gT (2*f+1) (pubM E f deep ns).1
 | 0,deep,ns=>g_lit _ _ (by have:=nxV_lt ns.tail 256 (by omega);omega)
 | f+1,deep,ns=>by
   have ih:=pub_g h f
   have hv:=nxV_lt ns.tail 256 (by omega)
   show gT (2*f+2+1) _
   simp only [pubM]
   split
   · exact g_lit _ _ (by omega)
   · split
     · exact g_name _ _ (name_dig (by decide) E)
     · split
       · exact g_name _ _ name_shared
       · split
         · exact g_cell _ _ _ (name_dig (by decide) E) (place_g h ih _)
         · split
           · next hl=>
             have:=nxV_lt ns.tail E.loc.length hl.2
             split
             · exact g_name _ _ (loc_name h _ this)
             · exact (bin_g ih _).up (by omega)
           · split
             · exact (g_not _ _ (ih _ _)).up (by omega)
             · exact (bin_g ih _).up (by omega)
theorem sec_g {E:Env} (h:goodN E):∀ (f deep:Nat) (ns:List UInt8),gT (2*f+1) (secM E f deep ns).1
 | 0,deep,ns=>pub_g h 0 _ _
 | f+1,deep,ns=>by
   have ih:=sec_g h f
   have ihp:=pub_g h f
   show gT (2*f+2+1) _
   simp only [secM]
   split
   · exact (ihp _ _).up (by omega)
   · split
     · exact g_name _ _ (name_dig (by decide) E)
     · split
       · exact g_cell _ _ _ (name_dig (by decide) E) (place_g h ihp _)
       · split
         · exact g_name _ _ name_hidden
         · split
           · next hl=>
             have:=nxV_lt ns.tail E.loc.length hl.2
             exact g_name _ _ (loc_name h _ this)
           · split
             · exact (g_pick _ _ _ _ (ih _ _) (ih _ _) (ih _ _)).up (by omega)
             · exact (bin_g ih _).up (by omega)
theorem goodN_enter {E:Env} (h:goodN E) (s:Bool) (c:Int):goodN (enterE E s c):=fun x hx=>by
 have hx':x ∈ E.loc++[nameX E]:=hx
 rcases List.mem_append.1 hx' with h1 | h1
 · exact h x h1
 · simp only [List.mem_singleton] at h1
   subst h1
   exact name_x E
theorem goodN_ite {c:Prop} [Decidable c] {x y:Mk} (h1:c->goodN x.2.1) (h2:¬ c->goodN y.2.1):goodN (if c then x else y).2.1:=by
 by_cases h:c
 · rw [if_pos h];exact h1 h
 · rw [if_neg h];exact h2 h
theorem loop_goodN {st:Bool->Env->List UInt8->Mk} {inside:Bool} (h:∀ E ns,goodN E->goodN (st inside E ns).2.1):∀ (j:Nat) (E:Env) (ns:List UInt8),goodN E->goodN (loopM st inside j E ns).2.1
 | 0,E,ns,hE=>hE
 | j+1,E,ns,hE=>h _ _ (loop_goodN h j E ns hE)
theorem stmt_goodN:∀ (f:Nat) (inside:Bool) (E:Env) (ns:List UInt8),goodN E->goodN (stmtM f inside E ns).2.1
 | 0,inside,E,ns,h=>h
 | f+1,inside,E,ns,h=>by
   have hl:=loop_goodN (fun E ns hE=>stmt_goodN f false E ns hE) (nxV ns.tail 4+1) { E with held:=true } ns.tail.tail h
   show goodN (stmtB (stmtM f) inside E ns).2.1
   exact goodN_ite (fun _=>goodN_enter h _ _) fun _=>goodN_ite (fun _=>goodN_enter h _ _) fun _=>goodN_ite (fun _=>h) fun _=>goodN_ite (fun _=>h) fun _=>goodN_ite (fun _=>h) fun _=>goodN_ite (fun _=>h) fun _=>goodN_ite (fun _=>h) fun _=>goodN_ite (fun _=>h) fun _=>goodN_ite (fun _=>h) fun _=>goodN_ite (fun _=>hl) fun _=>goodN_ite (fun _=>h) fun _=>goodN_ite (fun _=>h) fun _=>goodN_ite (fun _=>h) fun _=>h
def allG (n:Nat) (ss:List Stm):Prop:=∀ s ∈ ss,gS 13 n s
theorem allG_append {n:Nat} {a b:List Stm} (ha:allG n a) (hb:allG n b):allG n (a++b):=fun s hs=>by
 rcases List.mem_append.1 hs with h | h
 · exact ha s h
 · exact hb s h
theorem allG_one {n:Nat} {s:Stm} (h:gS 13 n s):allG n [s]:=fun x hx=>by simp only [List.mem_singleton] at hx;subst hx;exact h
theorem allG_ite {n:Nat} {c:Prop} [Decidable c] {x y:Mk} (h1:c->allG n x.1) (h2:¬ c->allG n y.1):allG n (if c then x else y).1:=by
 by_cases h:c
 · rw [if_pos h];exact h1 h
 · rw [if_neg h];exact h2 h
theorem loop_allG {st:Bool->Env->List UInt8->Mk} {inside:Bool} {n:Nat} (hgd:∀ E ns,goodN E->goodN (st inside E ns).2.1) (h:∀ E ns,goodN E->allG n (st inside E ns).1):∀ (j:Nat) (E:Env) (ns:List UInt8),goodN E->allG n (loopM st inside j E ns).1
 | 0,E,ns,_=>fun s hs=>by simp [loopM] at hs
 | j+1,E,ns,hE=>allG_append (loop_allG hgd h j E ns hE) (h _ _ (loop_goodN hgd j E ns hE))
theorem gs_local {n:Nat} {s:ByteArray} {e:Tree} (hs:isName s) (he:gT 13 e):gS 13 (n+1) (stmE 0 s [e]):=.inl ⟨rfl,hs,⟨e,rfl,he⟩,rfl,rfl,rfl⟩
theorem gs_assign {n:Nat} {s:ByteArray} {e:Tree} (hs:isName s) (he:gT 13 e):gS 13 (n+1) (stmE 1 s [e]):=.inr (.inl ⟨rfl,hs,⟨e,rfl,he⟩,rfl,rfl,rfl⟩)
theorem gs_store {n:Nat} {s:ByteArray} {i e:Tree} (hs:isName s) (hi:gT 13 i) (he:gT 13 e):gS 13 (n+1) (stmE 2 s [i,e]):=.inr (.inr (.inl ⟨rfl,hs,⟨i,e,rfl,hi,he⟩,rfl,rfl,rfl⟩))
theorem gs_take {n:Nat} {s:ByteArray} (hs:isName s):gS 13 (n+1) (stmE 5 s []):=.inr (.inr (.inr (.inr (.inr (.inl ⟨rfl,hs,rfl,rfl,rfl,rfl⟩)))))
theorem gs_give {n:Nat} {s:ByteArray} (hs:isName s):gS 13 (n+1) (stmE 6 s []):=.inr (.inr (.inr (.inr (.inr (.inr (.inl ⟨rfl,hs,rfl,rfl,rfl,rfl⟩))))))
theorem gs_bump {n:Nat} {s:ByteArray} {e:Tree} (hs:isName s) (he:gT 13 e):gS 13 (n+1) (stmE 7 s [e]):=.inr (.inr (.inr (.inr (.inr (.inr (.inr (.inl ⟨rfl,hs,⟨e,rfl,he⟩,rfl,rfl,rfl⟩)))))))
theorem gs_fence {n:Nat} : gS 13 (n+1) (stmE 8 ⟨#[]⟩ []):=.inr (.inr (.inr (.inr (.inr (.inr (.inr (.inr (.inl ⟨rfl,rfl,rfl,rfl,rfl,rfl⟩))))))))
theorem gs_output {n:Nat} {e:Tree} (he:gT 13 e):gS 13 (n+1) (stmE 9 ⟨#[]⟩ [e]):=.inr (.inr (.inr (.inr (.inr (.inr (.inr (.inr (.inr ⟨rfl,rfl,⟨e,rfl,he⟩,rfl,rfl,rfl⟩))))))))
theorem stmt_g:∀ (f:Nat) (inside:Bool) (E:Env) (ns:List UInt8),goodN E->allG f (stmtM f inside E ns).1
 | 0,inside,E,ns,hE=>fun s hs=>by simp [stmtM] at hs
 | f+1,inside,E,ns,hE=>by
   have hsec:∀ d ns,gT 13 (secM E 6 d ns).1:=fun d ns=>sec_g hE 6 d ns
   have hpub:∀ d ns,gT 13 (pubM E 6 d ns).1:=fun d ns=>pub_g hE 6 d ns
   have hplace:∀ ns,gT 13 (placeM (pubM E 5) E 0 ns).1:=fun ns=>(place_g hE (fun d ns=>pub_g hE 5 d ns) ns).up (by omega)
   have hblk:∀ ins (E':Env) (ns:List UInt8),goodN E'->allG f (blockM (stmtM f) ins E' ns).1:=fun ins E' ns h'=>loop_allG (fun E ns hE=>stmt_goodN f ins E ns hE) (fun E ns hE=>stmt_g f ins E ns hE) _ { E' with deep:=E'.deep+1 } _ h'
   have hif:∀ ins (e:Tree × List UInt8),gT 13 e.1->allG (f+1) (ifM (stmtM f) ins E e).1:=fun ins e he=>allG_one (.inr (.inr (.inr (.inl ⟨rfl,rfl,⟨e.1,rfl,he⟩,rfl,hblk ins E _ hE,hblk ins E _ hE⟩))))
   show allG (f+1) (stmtB (stmtM f) inside E ns).1
   unfold stmtB
   refine allG_ite (fun _=>allG_one (gs_local (name_x E) (hsec _ _))) fun _=>allG_ite (fun _=>allG_one (gs_local (name_x E) (hpub _ _))) fun _=>allG_ite (fun _=>allG_one (gs_assign (name_dig (by decide) E) (hsec _ _))) fun _=>allG_ite (fun _=>allG_one (gs_store (name_dig (by decide) E) (hplace _) (hsec _ _))) fun _=>allG_ite (fun _=>hif _ _ (hsec _ _)) fun _=>allG_ite (fun _=>?_) fun _=>allG_ite (fun _=>allG_one (gs_assign (name_dig (by decide) E) (hsec _ _))) fun _=>allG_ite (fun _=>hif _ _ (hpub _ _)) fun _=>allG_ite (fun _=>allG_one (gs_store (name_dig (by decide) E) (hplace _) (hpub _ _))) fun _=>allG_ite (fun _=>?_) fun _=>allG_ite (fun _=>allG_one (gs_bump name_count (hpub _ _))) fun _=>allG_ite (fun _=>allG_one (gs_output (hpub _ _))) fun _=>allG_ite (fun _=>allG_one gs_fence) fun _=>allG_one (gs_assign (name_dig (by decide) E) (hpub _ _))
   · have:=nxV_lt ns.tail 5 (by omega)
     exact allG_one (.inr (.inr (.inr (.inr (.inl ⟨rfl,name_x E,rfl,⟨1+nxV ns.tail 5,rfl,by omega,by omega⟩,hblk inside _ _ (goodN_enter hE _ _),rfl⟩)))))
   · have hl:=loop_allG (fun E ns hE=>stmt_goodN f false E ns hE) (fun E ns hE=>stmt_g f false E ns hE) (nxV ns.tail 4+1) { E with held:=true } ns.tail.tail hE
     have hlE:=loop_goodN (fun E ns hE=>stmt_goodN f false E ns hE) (nxV ns.tail 4+1) { E with held:=true } ns.tail.tail hE
     refine allG_append (allG_append (allG_one (gs_take name_door)) (fun s hs=>(hl s hs).lift)) ?_
     exact allG_append (a:=[_]) (b:=[_]) (allG_one (gs_assign name_shared (pub_g hlE 6 _ _))) (allG_one (gs_give name_door))
theorem made_g:∀ (k:Nat) (ns:List UInt8),∀ ss ∈ (threadsM k ns).2.1,allG 5 ss
 | 0,ns=>fun ss hs=>by
   have hs':ss ∈ ([]:List (List Stm)):=hs
   simp at hs'
 | k+1,ns=>fun ss hs=>by
   have hs':ss ∈ (threadsM k ns).2.1++[(blockM (stmtM 5) false ⟨[],[],[],false,k,0⟩ (threadsM k ns).2.2).1]:=hs
   rcases List.mem_append.1 hs' with h | h
   · exact made_g k ns ss h
   · simp only [List.mem_singleton] at h;subst h
     exact loop_allG (fun E ns hE=>stmt_goodN 5 false E ns hE) (fun E ns hE=>stmt_g 5 false E ns hE) _ ⟨[],[],[],false,k,1⟩ _ (fun s hs=>by simp at hs)
theorem made_gD:∀ (k:Nat) (ns:List UInt8),∀ d ∈ (threadsM k ns).1,gD d
 | 0,ns=>fun d hd=>by
   have hd':d ∈ decls0:=hd
   simp only [decls0,List.mem_cons,List.not_mem_nil,or_false] at hd'
   rcases hd' with rfl | rfl | rfl | rfl
   · exact ⟨name_door,.inl ⟨rfl,rfl,rfl,rfl⟩⟩
   · exact ⟨name_shared,.inr ⟨rfl,.inl rfl,⟨0,rfl,by omega⟩,.inr name_door⟩⟩
   · exact ⟨name_hidden,.inr ⟨rfl,.inr rfl,⟨0,rfl,by omega⟩,.inr name_door⟩⟩
   · exact ⟨name_count,.inr ⟨rfl,.inl rfl,⟨0,rfl,by omega⟩,.inl rfl⟩⟩
 | k+1,ns=>fun d hd=>by
   have hd':d ∈ (threadsM k ns).1++declsOf k:=hd
   rcases List.mem_append.1 hd' with h | h
   · exact made_gD k ns d h
   · simp only [declsOf,List.mem_cons,List.not_mem_nil,or_false] at h
     rcases h with rfl | rfl | rfl | rfl
     · exact ⟨name_two (by decide) k,.inr ⟨rfl,.inl rfl,⟨0,rfl,by omega⟩,.inl rfl⟩⟩
     · exact ⟨name_two (by decide) k,.inr ⟨rfl,.inl rfl,⟨4,rfl,by omega⟩,.inl rfl⟩⟩
     · exact ⟨name_two (by decide) k,.inr ⟨rfl,.inr rfl,⟨0,rfl,by omega⟩,.inl rfl⟩⟩
     · exact ⟨name_two (by decide) k,.inr ⟨rfl,.inr rfl,⟨4,rfl,by omega⟩,.inl rfl⟩⟩
theorem gS_parts {m n:Nat} {s:Stm} (h:gS m (n+1) s):(∀ e ∈ s.exprs,gT m e)/\(∀ x ∈ s.body,gS m n x)/\∀ x ∈ s.els,gS m n x:=by
 have one:∀ {e:Tree} {es:List Tree},es=[e]->gT m e->∀ x ∈ es,gT m x:=fun h hg x hx=>by subst h;simp only [List.mem_singleton] at hx;subst hx;exact hg
 have none:∀ {es:List Tree},es=[]->∀ x ∈ es,gT m x:=fun h x hx=>by subst h;simp at hx
 have noS:∀ {ss:List Stm},ss=[]->∀ x ∈ ss,gS m n x:=fun h x hx=>by subst h;simp at hx
 rcases h with ⟨_,_,⟨e,h,hg⟩,_,hb,hl⟩ | ⟨_,_,⟨e,h,hg⟩,_,hb,hl⟩ | ⟨_,_,⟨a,b,h,ha,hb'⟩,_,hb,hl⟩ | ⟨_,_,⟨e,h,hg⟩,_,h1,h2⟩ | ⟨_,_,h,_,h1,hl⟩ | ⟨_,_,h,_,hb,hl⟩ | ⟨_,_,h,_,hb,hl⟩ | ⟨_,_,⟨e,h,hg⟩,_,hb,hl⟩ | ⟨_,_,h,_,hb,hl⟩ | ⟨_,_,⟨e,h,hg⟩,_,hb,hl⟩
 · exact ⟨one h hg,noS hb,noS hl⟩
 · exact ⟨one h hg,noS hb,noS hl⟩
 · refine ⟨fun x hx=>?_,noS hb,noS hl⟩
   rw [h] at hx
   simp only [List.mem_cons,List.not_mem_nil,or_false] at hx
   rcases hx with rfl | rfl
   · exact ha
   · exact hb'
 · exact ⟨one h hg,h1,h2⟩
 · exact ⟨none h,h1,noS hl⟩
 · exact ⟨none h,noS hb,noS hl⟩
 · exact ⟨none h,noS hb,noS hl⟩
 · exact ⟨one h hg,noS hb,noS hl⟩
 · exact ⟨none h,noS hb,noS hl⟩
 · exact ⟨one h hg,noS hb,noS hl⟩
theorem fit_of:∀ (n deep:Nat) (s:Stm),gS 13 n s->deep+n<=16->fitS 13 n deep s
 | 0,_,_,h,_=>h.elim
 | n+1,deep,s,h,hd=>by
   obtain ⟨h1,h2,h3⟩:=gS_parts h
   exact ⟨by omega,fun e he=>by have:=dp_le 13 e 0 (h1 e he);omega,fun x hx=>fit_of n (deep+1) x (h2 x hx) (by omega),fun x hx=>fit_of n (deep+1) x (h3 x hx) (by omega)⟩
theorem made_lens:∀ (k:Nat) (ns:List UInt8),(threadsM k ns).1.length=4+4*k/\(threadsM k ns).2.1.length=k
 | 0,ns=>⟨rfl,rfl⟩
 | k+1,ns=>by
   have ih:=made_lens k ns
   exact ⟨by show ((threadsM k ns).1++declsOf k).length=_;rw [List.length_append,ih.1];simp [declsOf];omega,by show ((threadsM k ns).2.1++[_]).length=_;rw [List.length_append,ih.2];rfl⟩
theorem made_gP (ns:List UInt8):gP 13 5 (makeM ns):=by
 have h3:=nxV_lt ns 3 (by omega)
 have hl:=made_lens (1+nxV ns 3) ns.tail
 have e1:(makeM ns).decls=(threadsM (1+nxV ns 3) ns.tail).1:=rfl
 have e2:(makeM ns).threads=(threadsM (1+nxV ns 3) ns.tail).2.1:=rfl
 have hg:∀ ss ∈ (makeM ns).threads,∀ s ∈ ss,gS 13 5 s:=fun ss hs=>made_g _ _ ss (by rw [<- e2];exact hs)
 exact ⟨fun d hd=>made_gD _ _ d (by rw [<- e1];exact hd),by rw [e1,hl.1];omega,hg,fun ss hs s hm=>fit_of 5 1 s (hg ss hs s hm) (by omega),by rw [e2,hl.2];omega,by rw [e2,hl.2];omega⟩
end Go.Proofs.YtlepckjmdjjolaaGreatDoor.Pr
