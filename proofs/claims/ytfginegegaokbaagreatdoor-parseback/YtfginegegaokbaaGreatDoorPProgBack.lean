/- Statements, blocks, declarations and programs are read back of their signs. Plain. -/
import Derived.Test.YtfginegegaokbaaGreatDoorPStmtBack
namespace Go.Proofs.YtfginegegaokbaaGreatDoor.Pr
open Go.Lib (decDigits itoa)
open Lx (Tok)
set_option linter.unusedVariables false
set_option linter.unusedSimpArgs false

def eqL {α : Type} (R : α → α → Prop) (a b : List α) : Prop := a.length = b.length ∧ ∀ (i : Nat) (x y : α), a[i]? = some x → b[i]? = some y → R x y
theorem eqL_nil {α : Type} {R : α → α → Prop} : eqL R [] [] := ⟨rfl, fun i x y h => by simp at h⟩
theorem eqL_cons {α : Type} {R : α → α → Prop} {a b : α} {xs ys : List α} (h : R a b) (hs : eqL R xs ys) : eqL R (a :: xs) (b :: ys) := ⟨by simp [hs.1], fun i x y hx hy => by
  cases i with
  | zero => simp at hx hy; subst hx hy; exact h
  | succ i => exact hs.2 i x y (by simpa using hx) (by simpa using hy)⟩
/-- The same statement but for where it stands. -/
def eqS (m : Nat) : Nat → Stm → Stm → Prop
  | 0, _, _ => False
  | n + 1, s, t => s.kind = t.kind ∧ s.name = t.name ∧ s.count = t.count ∧ eqL (eqT m) s.exprs t.exprs ∧ eqL (eqS m n) s.body t.body ∧ eqL (eqS m n) s.els t.els
def notElse (r : List Tok) : Prop := (r.headD (endT 0)).text ≠ kElse
/-- Signs that a statement begins with. -/
theorem sits_head {m n d : Nat} {s : Stm} (h : gS m n s) : ∃ s0 ss, sgs (sits m n d s) = s0 :: ss ∧ s0.text ≠ [125] ∧ s0.text ≠ kElse ∧ s0.text ≠ [91] := by
  cases n with
  | zero => exact h.elim
  | succ n =>
    rcases h with ⟨h, hn, _⟩ | ⟨h, hn, _⟩ | ⟨h, hn, _⟩ | ⟨h, hn, _⟩ | ⟨h, hn, _⟩ | ⟨h, hn, _⟩ | ⟨h, hn, _⟩ | ⟨h, hn, _⟩ | ⟨h, hn, _⟩ | ⟨h, hn, _⟩
    · rw [sits_0 h]; exact ⟨kw kLocal, _, rfl, by decide, by decide, by decide⟩
    · rw [sits_1 h]; exact ⟨wd s.name, _, rfl, word_ne hn (by decide), name_ne_key hn (by decide), word_ne hn (by decide)⟩
    · rw [sits_2 h]; exact ⟨wd s.name, _, rfl, word_ne hn (by decide), name_ne_key hn (by decide), word_ne hn (by decide)⟩
    · rw [sits_3 h]; exact ⟨kw kIf, _, rfl, by decide, by decide, by decide⟩
    · rw [sits_4 h]; exact ⟨kw kLoop, _, rfl, by decide, by decide, by decide⟩
    · rw [sits_5 h]; exact ⟨kw kTake, _, rfl, by decide, by decide, by decide⟩
    · rw [sits_6 h]; exact ⟨kw kGive, _, rfl, by decide, by decide, by decide⟩
    · rw [sits_7 h]; exact ⟨kw kAdd, _, rfl, by decide, by decide, by decide⟩
    · rw [sits_8 h]; exact ⟨kw kFence, _, rfl, by decide, by decide, by decide⟩
    · rw [sits_9 h]; exact ⟨kw kOutput, _, rfl, by decide, by decide, by decide⟩
theorem eit_sgs {m : Nat} {es : List Tree} {i : Nat} {e : Tree} (h : es[i]? = some e) : eit m es i = eits m e 0 := by unfold eit; rw [h]
def allOK (ss : List Sg) : Prop := ∀ s ∈ ss, sOK s
theorem allOK_append {a b : List Sg} (ha : allOK a) (hb : allOK b) : allOK (a ++ b) := fun s hs => by
  rcases List.mem_append.1 hs with h | h
  · exact ha s h
  · exact hb s h
theorem allOK_cons {s : Sg} {b : List Sg} (ha : sOK s) (hb : allOK b) : allOK (s :: b) := fun x hx => by
  rcases List.mem_cons.1 hx with rfl | h
  · exact ha
  · exact hb x h
theorem allOK_nil : allOK [] := fun s hs => by simp at hs
theorem bits_sok {m n d : Nat} : ∀ (ss : List Stm), (∀ s ∈ ss, allOK (sgs (sits m n d s))) → allOK (sgs (bits m n d ss))
  | [], _ => allOK_nil
  | s :: ss, h => by rw [bits_cons, sgs_append]; exact allOK_append (h s (by simp)) (bits_sok ss fun x hx => h x (by simp [hx]))
theorem ends_sok : allOK (sgs ends) := allOK_cons (sn_ok (by simp)) allOK_nil
theorem sits_sok (m : Nat) : ∀ (n d : Nat) (s : Stm), gS m n s → allOK (sgs (sits m n d s))
  | 0, _, _, h => h.elim
  | n + 1, d, s, h => by
    have hb : ∀ (d : Nat) (ss : List Stm), (∀ x ∈ ss, gS m n x) → allOK (sgs (bits m n d ss)) := fun d ss hs => bits_sok ss fun x hx => sits_sok m n d x (hs x hx)
    have hclose : allOK (sgs [iG (tabs d), iS (sn [125]), iG [10]]) := allOK_cons (sn_ok (by simp)) allOK_nil
    rcases h with ⟨h, hn, ⟨e, he, hg⟩, _⟩ | ⟨h, hn, ⟨e, he, hg⟩, _⟩ | ⟨h, hn, ⟨a, b, he, ha, hb'⟩, _⟩ | ⟨h, _, ⟨e, he, hg⟩, _, h1, h2⟩ | ⟨h, hn, _, ⟨c, hc, _, hc2⟩, h1, _⟩ | ⟨h, hn, _⟩ | ⟨h, hn, _⟩ | ⟨h, hn, ⟨e, he, hg⟩, _⟩ | ⟨h, _⟩ | ⟨h, _, ⟨e, he, hg⟩, _⟩
    · have e0 : eit m s.exprs 0 = eits m e 0 := eit_sgs (by rw [he]; rfl)
      rw [sits_0 h, e0]; simp only [sgs_append]
      exact allOK_append (allOK_append (allOK_cons (kw_ok (by decide)) (allOK_cons (wd_ok hn) (allOK_cons (sn_ok (by simp)) allOK_nil))) (eits_sok m e 0 hg)) ends_sok
    · have e0 : eit m s.exprs 0 = eits m e 0 := eit_sgs (by rw [he]; rfl)
      rw [sits_1 h, e0]; simp only [sgs_append]
      exact allOK_append (allOK_append (allOK_cons (wd_ok hn) (allOK_cons (sn_ok (by simp)) allOK_nil)) (eits_sok m e 0 hg)) ends_sok
    · have e0 : eit m s.exprs 0 = eits m a 0 := eit_sgs (by rw [he]; rfl)
      have e1 : eit m s.exprs 1 = eits m b 0 := eit_sgs (by rw [he]; rfl)
      rw [sits_2 h, e0, e1]; simp only [sgs_append]
      exact allOK_append (allOK_append (allOK_append (allOK_append (allOK_cons (wd_ok hn) (allOK_cons (sn_ok (by simp)) allOK_nil)) (eits_sok m a 0 ha)) (allOK_cons (sn_ok (by simp)) (allOK_cons (sn_ok (by simp)) allOK_nil))) (eits_sok m b 0 hb')) ends_sok
    · have e0 : eit m s.exprs 0 = eits m e 0 := eit_sgs (by rw [he]; rfl)
      rw [sits_3 h, e0]; simp only [sgs_append]
      refine allOK_append (allOK_append (allOK_append (allOK_append (allOK_append (allOK_cons (kw_ok (by decide)) (allOK_cons (sn_ok (by simp)) allOK_nil)) (eits_sok m e 0 hg)) (allOK_cons (sn_ok (by simp)) (allOK_cons (sn_ok (by simp)) allOK_nil))) (hb _ _ h1)) ?_) hclose
      split
      · exact allOK_nil
      · simp only [sgs_append]
        exact allOK_append (allOK_cons (sn_ok (by simp)) (allOK_cons (kw_ok (by decide)) (allOK_cons (sn_ok (by simp)) allOK_nil))) (hb _ _ h2)
    · rw [sits_4 h]; simp only [sgs_append]
      exact allOK_append (allOK_append (allOK_cons (kw_ok (by decide)) (allOK_cons (wd_ok hn) (allOK_cons (dg_ok _) (allOK_cons (sn_ok (by simp)) allOK_nil)))) (hb _ _ h1)) hclose
    · rw [sits_5 h]; simp only [sgs_append]
      exact allOK_append (allOK_cons (kw_ok (by decide)) (allOK_cons (wd_ok hn) allOK_nil)) ends_sok
    · rw [sits_6 h]; simp only [sgs_append]
      exact allOK_append (allOK_cons (kw_ok (by decide)) (allOK_cons (wd_ok hn) allOK_nil)) ends_sok
    · have e0 : eit m s.exprs 0 = eits m e 0 := eit_sgs (by rw [he]; rfl)
      rw [sits_7 h, e0]; simp only [sgs_append]
      exact allOK_append (allOK_append (allOK_cons (kw_ok (by decide)) (allOK_cons (wd_ok hn) allOK_nil)) (eits_sok m e 0 hg)) ends_sok
    · rw [sits_8 h]; simp only [sgs_append]
      exact allOK_append (allOK_cons (kw_ok (by decide)) allOK_nil) ends_sok
    · have e0 : eit m s.exprs 0 = eits m e 0 := eit_sgs (by rw [he]; rfl)
      rw [sits_9 h, e0]; simp only [sgs_append]
      exact allOK_append (allOK_append (allOK_cons (kw_ok (by decide)) allOK_nil) (eits_sok m e 0 hg)) ends_sok

/-! helpers to take tokens apart -/
theorem tok_cons {us : List Tok} {k : Nat} {x : List UInt8} {v : Nat} {ss : List Sg} (h : us.map sgOf = Sg.mk k x v :: ss) : ∃ t ts, us = t :: ts ∧ t.kind = k ∧ t.text = x ∧ t.value = v ∧ ts.map sgOf = ss := by
  obtain ⟨t, ts, rfl, h1, h2⟩ := List.map_eq_cons_iff.1 h
  exact ⟨t, ts, rfl, congrArg Sg.kind h1, congrArg Sg.text h1, congrArg Sg.value h1, h2⟩
theorem good_cons {t : Tok} {l : List Tok} (hk : t.kind ≠ 0) (ht : t.text ≠ []) (hl : goodL l) : goodL (t :: l) := goodL.app (us := [t]) (fun x hx => by simp at hx; subst hx; exact ⟨hk, ht⟩) hl
theorem tight0 {t : Tok} {l : List Tok} {s : List UInt8} (h : t.text = s) (hs : tightN (opOf s) = 0) : tightAt (t :: l) = 0 := by unfold tightAt; simp only [List.headD_cons]; rw [h]; exact hs
theorem notOpen_cons {t : Tok} {l : List Tok} {s : List UInt8} (h : t.text = s) (hs : s ≠ [91]) : notOpen (t :: l) := by unfold notOpen; simp only [List.headD_cons]; rw [h]; exact hs
theorem ne_app {us r : List Tok} (h : r ≠ []) : us ++ r ≠ [] := fun e => h (by simp at e; exact e.2)
/-- A statement's expression. -/
theorem value_back {m : Nat} {e : Tree} {deep : Nat} {us r : List Tok} (s : Stm) (hg : gT m e) (ht : tightAt r = 0) (hu : us.map sgOf = sgs (eits m e 0)) (hr : goodL r) (ho : notOpen r) (hd : deep + 1 + dpE m e 0 ≤ 40) :
    ∃ e', valueP deep s ⟨us ++ r, none⟩ = ({ s with exprs := s.exprs ++ [e'] }, ⟨r, none⟩) ∧ eqT m e' e := by
  obtain ⟨e', h, q⟩ := (back_all m).2.whole e 0 (40 - deep) (deep + 1) us r hg ht hu hr ho hd (by omega)
  exact ⟨e', by unfold valueP; rw [h], q⟩
theorem eqL_one {α : Type} {R : α → α → Prop} {a b : α} (h : R a b) : eqL R [a] [b] := eqL_cons h eqL_nil

/-! statements are read back -/
def StC (m n : Nat) : Prop := ∀ (s : Stm) (f deep d : Nat) (us r : List Tok), gS m n s → fitS m n deep s → us.map sgOf = sgs (sits m n d s) → goodL r → notElse r → 41 ≤ deep + f →
  ∃ s', stP f deep ⟨us ++ r, none⟩ = (s', ⟨r, none⟩) ∧ eqS m n s' s
theorem blk_back {m n : Nat} (ih : StC m n) (f deep d : Nat) (z : Tok) (r : List Tok) (hz : z.text = [125]) (hzk : z.kind ≠ 0) (hr : goodL r) (hf : 41 ≤ deep + f) : ∀ (ss : List Stm) (k : Nat) (acc : List Stm) (us : List Tok), (∀ s ∈ ss, gS m n s) → (∀ s ∈ ss, fitS m n deep s) → us.map sgOf = sgs (bits m n d ss) → us.length < k →
    ∃ ss', blkLoop (stP f) deep k acc ⟨us ++ (z :: r), none⟩ = (acc ++ ss', ⟨r, none⟩) ∧ eqL (eqS m n) ss' ss
  | [], k, acc, us, _, _, hu, hk => by
    obtain rfl : us = [] := by simpa [bits, sgs] using hu
    obtain ⟨k, rfl⟩ : ∃ j, k = j + 1 := ⟨k - 1, by omega⟩
    refine ⟨[], ?_, eqL_nil⟩
    rw [blkLoop]
    simp only [List.nil_append, Option.isSome_none, Bool.false_eq_true, if_false, is_cons, hz, beq_self_eq_true, if_true, next_cons z hr.ne, List.append_nil]
  | s :: ss, k, acc, us, hg, hfit, hu, hk => by
    have hzr : goodL (z :: r) := good_cons hzk (by rw [hz]; simp) hr
    rw [bits_cons, sgs_append] at hu
    obtain ⟨ua, ub, rfl, hua, hub⟩ := List.map_eq_append_iff.1 hu
    have hgb : goodL (ub ++ (z :: r)) := hzr.app (toks_ok hub (bits_sok ss fun x hx => sits_sok m n d x (hg x (by simp [hx]))))
    have hne : notElse (ub ++ (z :: r)) := by
      cases ss with
      | nil =>
        obtain rfl : ub = [] := by simpa [bits, sgs] using hub
        unfold notElse; simp only [List.nil_append, List.headD_cons]; rw [hz]; decide
      | cons x xs =>
        obtain ⟨s0, rest, e, _, h2, _⟩ := sits_head (d := d) (hg x (by simp))
        rw [bits_cons, sgs_append, e] at hub
        obtain ⟨t, ts, rfl, _, ht, _⟩ := tok_cons hub
        unfold notElse; simp only [List.cons_append, List.headD_cons]; rw [ht]; exact h2
    obtain ⟨s', es, qs⟩ := ih s f deep d ua (ub ++ (z :: r)) (hg s (by simp)) (hfit s (by simp)) hua hgb hne hf
    obtain ⟨s0, rest, e0, h125, _⟩ := sits_head (d := d) (hg s (by simp))
    obtain ⟨k, rfl⟩ : ∃ j, k = j + 1 := ⟨k - 1, by omega⟩
    have hlen : ub.length < k := by
      have : 0 < ua.length := by
        rw [e0] at hua
        obtain ⟨t, ts, rfl, _⟩ := tok_cons hua
        simp
      rw [List.length_append] at hk; omega
    obtain ⟨ss', ess, qss⟩ := blk_back ih f deep d z r hz hzk hr hf ss k (acc ++ [s']) ub (fun x hx => hg x (by simp [hx])) (fun x hx => hfit x (by simp [hx])) hub hlen
    refine ⟨s' :: ss', ?_, eqL_cons qs qss⟩
    rw [blkLoop]
    have his : (⟨ua ++ (ub ++ (z :: r)), none⟩ : Rd).is [125] = false := by
      rw [e0] at hua
      obtain ⟨t, ts, rfl, _, ht, _⟩ := tok_cons hua
      rw [List.cons_append, is_cons, ht]
      simpa using h125
    simp only [List.append_assoc, Option.isSome_none, Bool.false_eq_true, if_false, his, es, ess]
    simp
theorem block_back {m n : Nat} (ih : StC m n) (f deep d : Nat) (o z : Tok) (r us : List Tok) (ss : List Stm) (ho : o.text = [123]) (hz : z.text = [125]) (hzk : z.kind ≠ 0) (hr : goodL r) (hf : 41 ≤ deep + f) (hg : ∀ s ∈ ss, gS m n s) (hfit : ∀ s ∈ ss, fitS m n deep s) (hu : us.map sgOf = sgs (bits m n d ss)) :
    ∃ ss', blockOf (stP f) deep ⟨o :: (us ++ (z :: r)), none⟩ = (ss', ⟨r, none⟩) ∧ eqL (eqS m n) ss' ss := by
  obtain ⟨ss', e, q⟩ := blk_back ih f deep d z r hz hzk hr hf ss ((us ++ (z :: r)).length + 1) [] us hg hfit hu (by simp; omega)
  refine ⟨ss', ?_, q⟩
  unfold blockOf
  rw [want_cons (ne_app (by simp)) none ho]
  simpa using e
theorem kind_some {t : Tok} {k : Int} {x : List UInt8} (hk : t.kind = 2) (ht : t.text = x) (h : kindP ⟨2, x, 0, 0⟩ = some k) : kindP t = some k := by
  unfold kindP at h ⊢
  rw [hk, ht]
  exact h
theorem st_succ {m n : Nat} (ih : StC m n) : StC m (n + 1) := by
  intro s f deep d us r hg hfit hu hr he hf
  obtain ⟨hd, hfe, hfb, hfl⟩ := hfit
  obtain ⟨f, rfl⟩ : ∃ g, f = g + 1 := ⟨f - 1, by omega⟩
  have hdeep : ¬ 40 < deep := by omega
  show ∃ s', stmtOf (blockOf (stP f)) deep ⟨us ++ r, none⟩ = _ ∧ _
  have ends_split : ∀ {xs : List Tok} {ss : List Sg}, xs.map sgOf = ss ++ sgs ends → ∃ ys z, xs = ys ++ [z] ∧ ys.map sgOf = ss ∧ z.text = [59] ∧ z.kind = 4 := fun {xs ss} h => by
    obtain ⟨ys, zs, rfl, h1, h2⟩ := List.map_eq_append_iff.1 h
    obtain ⟨z, zs', rfl, hk, ht, _, h3⟩ := tok_cons (show zs.map sgOf = sn [59] :: [] from h2)
    obtain rfl : zs' = [] := by simpa using h3
    exact ⟨ys, z, rfl, h1, ht, hk⟩
  rcases hg with ⟨h, hn, ⟨e, hx, hg⟩, hc, hb, hl⟩ | ⟨h, hn, ⟨e, hx, hg⟩, hc, hb, hl⟩ | ⟨h, hn, ⟨a, b, hx, ha, hb'⟩, hc, hb, hl⟩ | ⟨h, hn, ⟨e, hx, hg⟩, hc, h1, h2⟩ | ⟨h, hn, hx, ⟨c, hc, hc1, hc2⟩, h1, hl⟩ | ⟨h, hn, hx, hc, hb, hl⟩ | ⟨h, hn, hx, hc, hb, hl⟩ | ⟨h, hn, ⟨e, hx, hg⟩, hc, hb, hl⟩ | ⟨h, hn, hx, hc, hb, hl⟩ | ⟨h, hn, ⟨e, hx, hg⟩, hc, hb, hl⟩
  · rw [sits_0 h, eit_sgs (show s.exprs[0]? = some e by rw [hx]; rfl), sgs_append, sgs_append] at hu
    obtain ⟨us, z, rfl, hu, hz, hzk⟩ := ends_split hu
    obtain ⟨t1, us, rfl, k1, x1, _, hu⟩ := tok_cons (show us.map sgOf = kw kLocal :: (wd s.name :: sn [61] :: sgs (eits m e 0)) from hu)
    obtain ⟨t2, us, rfl, k2, x2, _, hu⟩ := tok_cons hu
    obtain ⟨t3, us, rfl, k3, x3, _, hu⟩ := tok_cons hu
    have hzr : goodL (z :: r) := good_cons (by rw [hzk]; decide) (by rw [hz]; simp) hr
    have ek : kindP t1 = some 0 := kind_some k1 x1 (by decide)
    obtain ⟨e', ev, q⟩ := value_back (r := z :: r) ⟨0, bstr t2.text, [], 0, [], [], t1.at_⟩ hg (tight0 hz (by decide)) hu hzr (notOpen_cons hz (by decide)) (hfe e (by rw [hx]; simp))
    refine ⟨⟨0, bstr t2.text, [e'], 0, [], [], t1.at_⟩, ?_, ⟨h.symm, by show bstr t2.text = _; rw [x2]; exact bstr_bys _, hc.symm, by rw [hx]; exact eqL_one q, by rw [hb]; exact eqL_nil, by rw [hl]; exact eqL_nil⟩⟩
    have e1 : t1 :: t2 :: t3 :: us ++ [z] ++ r = t1 :: t2 :: t3 :: (us ++ (z :: r)) := by simp
    rw [e1]
    unfold stmtOf
    simp only [here_cons, ek, if_neg hdeep, next_cons t1 (show t2 :: t3 :: (us ++ (z :: r)) ≠ [] by simp)]
    rw [if_neg (by decide), if_neg (by decide)]
    rw [simple_0 _ _ _ _ rfl]
    simp only [name_cons (show t3 :: (us ++ (z :: r)) ≠ [] by simp) none k2, want_cons (show us ++ (z :: r) ≠ [] by simp) none x3, ev, want_cons hr.ne none hz, List.nil_append]
  · rw [sits_1 h, eit_sgs (show s.exprs[0]? = some e by rw [hx]; rfl), sgs_append, sgs_append] at hu
    obtain ⟨us, z, rfl, hu, hz, hzk⟩ := ends_split hu
    obtain ⟨t1, us, rfl, k1, x1, _, hu⟩ := tok_cons (show us.map sgOf = wd s.name :: (sn [61] :: sgs (eits m e 0)) from hu)
    obtain ⟨t3, us, rfl, k3, x3, _, hu⟩ := tok_cons hu
    have hzr : goodL (z :: r) := good_cons (by rw [hzk]; decide) (by rw [hz]; simp) hr
    have ek : kindP t1 = some 1 := by unfold kindP; rw [if_pos k1]
    obtain ⟨e', ev, q⟩ := value_back (r := z :: r) ⟨1, bstr t1.text, [], 0, [], [], t1.at_⟩ hg (tight0 hz (by decide)) hu hzr (notOpen_cons hz (by decide)) (hfe e (by rw [hx]; simp))
    refine ⟨⟨1, bstr t1.text, [e'], 0, [], [], t1.at_⟩, ?_, ⟨h.symm, by show bstr t1.text = _; rw [x1]; exact bstr_bys _, hc.symm, by rw [hx]; exact eqL_one q, by rw [hb]; exact eqL_nil, by rw [hl]; exact eqL_nil⟩⟩
    have e1 : t1 :: t3 :: us ++ [z] ++ r = t1 :: t3 :: (us ++ (z :: r)) := by simp
    rw [e1]
    unfold stmtOf
    simp only [here_cons, ek, if_neg hdeep, next_cons t1 (show t3 :: (us ++ (z :: r)) ≠ [] by simp)]
    rw [if_neg (by decide), if_neg (by decide)]
    rw [simple_1 _ _ _ _ rfl (by rw [is_cons, x3]; decide)]
    simp only [want_cons (show us ++ (z :: r) ≠ [] by simp) none x3, ev, want_cons hr.ne none hz, List.nil_append]
  · rw [sits_2 h, eit_sgs (show s.exprs[0]? = some a by rw [hx]; rfl), eit_sgs (show s.exprs[1]? = some b by rw [hx]; rfl), sgs_append, sgs_append, sgs_append, sgs_append] at hu
    obtain ⟨us, z, rfl, hu, hz, hzk⟩ := ends_split hu
    have hu' : us.map sgOf = wd s.name :: sn [91] :: (sgs (eits m a 0) ++ (sn [93] :: sn [61] :: sgs (eits m b 0))) := by simpa [sgs, iS, iG] using hu
    obtain ⟨t1, us, rfl, k1, x1, _, hu⟩ := tok_cons hu'
    obtain ⟨t2, us, rfl, k2, x2, _, hu⟩ := tok_cons hu
    obtain ⟨ua, us, rfl, hua, hu⟩ := List.map_eq_append_iff.1 hu
    obtain ⟨t3, us, rfl, k3, x3, _, hu⟩ := tok_cons hu
    obtain ⟨t4, us, rfl, k4, x4, _, hu⟩ := tok_cons hu
    have hzr : goodL (z :: r) := good_cons (by rw [hzk]; decide) (by rw [hz]; simp) hr
    have hub : goodL (us ++ (z :: r)) := hzr.app (toks_ok hu (eits_sok m b 0 hb'))
    have h34 : goodL (t3 :: t4 :: (us ++ (z :: r))) := good_cons (by rw [k3]; decide) (by rw [x3]; simp [sn]) (good_cons (by rw [k4]; decide) (by rw [x4]; simp [sn]) hub)
    have ek : kindP t1 = some 1 := by unfold kindP; rw [if_pos k1]
    obtain ⟨a', ea, qa⟩ := value_back (r := t3 :: t4 :: (us ++ (z :: r))) ⟨2, bstr t1.text, [], 0, [], [], t1.at_⟩ ha (tight0 x3 (by decide)) hua h34 (notOpen_cons x3 (by decide)) (hfe a (by rw [hx]; simp))
    obtain ⟨b', eb, qb⟩ := value_back (r := z :: r) ⟨2, bstr t1.text, [a'], 0, [], [], t1.at_⟩ hb' (tight0 hz (by decide)) hu hzr (notOpen_cons hz (by decide)) (hfe b (by rw [hx]; simp))
    refine ⟨⟨2, bstr t1.text, [a', b'], 0, [], [], t1.at_⟩, ?_, ⟨h.symm, by show bstr t1.text = _; rw [x1]; exact bstr_bys _, hc.symm, by rw [hx]; exact eqL_cons qa (eqL_one qb), by rw [hb]; exact eqL_nil, by rw [hl]; exact eqL_nil⟩⟩
    have e1 : t1 :: t2 :: (ua ++ t3 :: t4 :: us) ++ [z] ++ r = t1 :: t2 :: (ua ++ (t3 :: t4 :: (us ++ (z :: r)))) := by simp
    rw [e1]
    unfold stmtOf
    simp only [here_cons, ek, if_neg hdeep, next_cons t1 (show t2 :: (ua ++ (t3 :: t4 :: (us ++ (z :: r)))) ≠ [] by simp)]
    rw [if_neg (by decide), if_neg (by decide)]
    rw [simple_2 _ _ _ _ rfl (by rw [is_cons, x2]; decide)]
    simp only [next_cons t2 (show ua ++ (t3 :: t4 :: (us ++ (z :: r))) ≠ [] by simp), ea, want_cons (show t4 :: (us ++ (z :: r)) ≠ [] by simp) none x3, want_cons (show us ++ (z :: r) ≠ [] by simp) none x4, List.nil_append, eb, want_cons hr.ne none hz, List.cons_append]
  · rw [sits_3 h, eit_sgs (show s.exprs[0]? = some e by rw [hx]; rfl)] at hu
    have hu' : us.map sgOf = kw kIf :: sn [40] :: (sgs (eits m e 0) ++ (sn [41] :: sn [123] :: (sgs (bits m n (d + 1) s.body) ++ (sgs (if s.els.length = 0 then [] else [iG (tabs d), iS (sn [125]), iG [32], iS (kw kElse), iG [32], iS (sn [123]), iG [10]] ++ bits m n (d + 1) s.els) ++ [sn [125]])))) := by
      rw [hu]; simp only [sgs_append]; simp [sgs, iS, iG]
    clear hu
    obtain ⟨t1, us, rfl, k1, x1, _, hu⟩ := tok_cons hu'
    obtain ⟨t2, us, rfl, k2, x2, _, hu⟩ := tok_cons hu
    obtain ⟨ua, us, rfl, hua, hu⟩ := List.map_eq_append_iff.1 hu
    obtain ⟨t3, us, rfl, k3, x3, _, hu⟩ := tok_cons hu
    obtain ⟨t4, us, rfl, k4, x4, _, hu⟩ := tok_cons hu
    obtain ⟨ub, us, rfl, hub, hu⟩ := List.map_eq_append_iff.1 hu
    obtain ⟨ul, us, rfl, hul, hu⟩ := List.map_eq_append_iff.1 hu
    obtain ⟨z, us, rfl, hzk, hz, _, hu⟩ := tok_cons hu
    obtain rfl : us = [] := by simpa using hu
    have ek : kindP t1 = some 3 := kind_some k1 x1 (by decide)
    have hzr : goodL (z :: r) := good_cons (by rw [hzk]; decide) (by rw [hz]; simp [sn]) hr
    by_cases h0 : s.els.length = 0
    · have hel : s.els = [] := List.length_eq_zero_iff.1 h0
      rw [if_pos h0] at hul
      obtain rfl : ul = [] := by simpa [sgs] using hul
      have hb4 : goodL (t4 :: (ub ++ (z :: r))) := good_cons (by rw [k4]; decide) (by rw [x4]; simp [sn]) (hzr.app (toks_ok hub (bits_sok _ fun x hx => sits_sok m n _ x (h1 x hx))))
      have h3 : goodL (t3 :: t4 :: (ub ++ (z :: r))) := good_cons (by rw [k3]; decide) (by rw [x3]; simp [sn]) hb4
      obtain ⟨e', ev, q⟩ := value_back (r := t3 :: t4 :: (ub ++ (z :: r))) ⟨3, ⟨#[]⟩, [], 0, [], [], t1.at_⟩ hg (tight0 x3 (by decide)) hua h3 (notOpen_cons x3 (by decide)) (hfe e (by rw [hx]; simp))
      obtain ⟨bs, eb, qb⟩ := block_back ih f (deep + 1) (d + 1) t4 z r ub s.body x4 hz (by rw [hzk]; decide) hr (by omega) h1 hfb hub
      refine ⟨⟨3, ⟨#[]⟩, [e'], 0, bs, [], t1.at_⟩, ?_, ⟨h.symm, hn.symm, hc.symm, by rw [hx]; exact eqL_one q, qb, by rw [hel]; exact eqL_nil⟩⟩
      have e1 : t1 :: t2 :: (ua ++ t3 :: t4 :: (ub ++ ([] ++ [z]))) ++ r = t1 :: t2 :: (ua ++ (t3 :: t4 :: (ub ++ (z :: r)))) := by simp
      rw [e1]
      unfold stmtOf
      simp only [here_cons, ek, if_neg hdeep, next_cons t1 (show t2 :: (ua ++ (t3 :: t4 :: (ub ++ (z :: r)))) ≠ [] by simp), if_true]
      unfold choiceOf
      simp only [want_cons (show ua ++ (t3 :: t4 :: (ub ++ (z :: r))) ≠ [] by simp) none x2, ev, want_cons (show t4 :: (ub ++ (z :: r)) ≠ [] by simp) none x3, eb]
      rw [if_neg (by
        have := he
        unfold notElse at this
        simpa [Rd.is, Rd.here] using this)]
      simp
    · rw [if_neg h0] at hul
      have hul' : ul.map sgOf = sn [125] :: kw kElse :: sn [123] :: sgs (bits m n (d + 1) s.els) := by rw [hul]; simp only [sgs_append]; simp [sgs, iS, iG]
      obtain ⟨y1, ul, rfl, ky1, xy1, _, hul⟩ := tok_cons hul'
      obtain ⟨y2, ul, rfl, ky2, xy2, _, hul⟩ := tok_cons hul
      obtain ⟨y3, ul, rfl, ky3, xy3, _, hul⟩ := tok_cons hul
      have hl3 : goodL (y3 :: (ul ++ (z :: r))) := good_cons (by rw [ky3]; decide) (by rw [xy3]; simp [sn]) (hzr.app (toks_ok hul (bits_sok _ fun x hx => sits_sok m n _ x (h2 x hx))))
      have hl2 : goodL (y2 :: y3 :: (ul ++ (z :: r))) := good_cons (by rw [ky2]; decide) (by rw [xy2]; simp [kw, kElse]) hl3
      have hl1 : goodL (y1 :: y2 :: y3 :: (ul ++ (z :: r))) := good_cons (by rw [ky1]; decide) (by rw [xy1]; simp [sn]) hl2
      have hb4 : goodL (t4 :: (ub ++ (y1 :: y2 :: y3 :: (ul ++ (z :: r))))) := good_cons (by rw [k4]; decide) (by rw [x4]; simp [sn]) (hl1.app (toks_ok hub (bits_sok _ fun x hx => sits_sok m n _ x (h1 x hx))))
      have h3 : goodL (t3 :: t4 :: (ub ++ (y1 :: y2 :: y3 :: (ul ++ (z :: r))))) := good_cons (by rw [k3]; decide) (by rw [x3]; simp [sn]) hb4
      obtain ⟨e', ev, q⟩ := value_back (r := t3 :: t4 :: (ub ++ (y1 :: y2 :: y3 :: (ul ++ (z :: r))))) ⟨3, ⟨#[]⟩, [], 0, [], [], t1.at_⟩ hg (tight0 x3 (by decide)) hua h3 (notOpen_cons x3 (by decide)) (hfe e (by rw [hx]; simp))
      obtain ⟨bs, eb, qb⟩ := block_back ih f (deep + 1) (d + 1) t4 y1 (y2 :: y3 :: (ul ++ (z :: r))) ub s.body x4 xy1 (by rw [ky1]; decide) hl2 (by omega) h1 hfb hub
      obtain ⟨ls, el, ql⟩ := block_back ih f (deep + 1) (d + 1) y3 z r ul s.els xy3 hz (by rw [hzk]; decide) hr (by omega) h2 hfl hul
      refine ⟨⟨3, ⟨#[]⟩, [e'], 0, bs, ls, t1.at_⟩, ?_, ⟨h.symm, hn.symm, hc.symm, by rw [hx]; exact eqL_one q, qb, ql⟩⟩
      have e1 : t1 :: t2 :: (ua ++ t3 :: t4 :: (ub ++ (y1 :: y2 :: y3 :: ul ++ [z]))) ++ r = t1 :: t2 :: (ua ++ (t3 :: t4 :: (ub ++ (y1 :: y2 :: y3 :: (ul ++ (z :: r)))))) := by simp
      rw [e1]
      unfold stmtOf
      simp only [here_cons, ek, if_neg hdeep, next_cons t1 (show t2 :: (ua ++ (t3 :: t4 :: (ub ++ (y1 :: y2 :: y3 :: (ul ++ (z :: r)))))) ≠ [] by simp), if_true]
      unfold choiceOf
      simp only [want_cons (show ua ++ (t3 :: t4 :: (ub ++ (y1 :: y2 :: y3 :: (ul ++ (z :: r))))) ≠ [] by simp) none x2, ev, want_cons (show t4 :: (ub ++ (y1 :: y2 :: y3 :: (ul ++ (z :: r)))) ≠ [] by simp) none x3, eb, is_cons]
      rw [if_pos (by rw [xy2]; decide)]
      simp only [next_cons y2 (show y3 :: (ul ++ (z :: r)) ≠ [] by simp), el, List.nil_append]
  · rw [sits_4 h] at hu
    have hu' : us.map sgOf = kw kLoop :: wd s.name :: dg s.count.toNat :: sn [123] :: (sgs (bits m n (d + 1) s.body) ++ [sn [125]]) := by
      rw [hu]; simp only [sgs_append]; simp [sgs, iS, iG]
    clear hu
    obtain ⟨t1, us, rfl, k1, x1, _, hu⟩ := tok_cons hu'
    obtain ⟨t2, us, rfl, k2, x2, _, hu⟩ := tok_cons hu
    obtain ⟨t3, us, rfl, k3, x3, v3, hu⟩ := tok_cons hu
    obtain ⟨t4, us, rfl, k4, x4, _, hu⟩ := tok_cons hu
    obtain ⟨ub, us, rfl, hub, hu⟩ := List.map_eq_append_iff.1 hu
    obtain ⟨z, us, rfl, hzk, hz, _, hu⟩ := tok_cons hu
    obtain rfl : us = [] := by simpa using hu
    have ek : kindP t1 = some 4 := kind_some k1 x1 (by decide)
    have v3' : t3.value = c := by rw [v3]; show s.count.toNat = c; omega
    obtain ⟨bs, eb, qb⟩ := block_back ih f (deep + 1) (d + 1) t4 z r ub s.body x4 hz (by rw [hzk]; decide) hr (by omega) h1 hfb hub
    refine ⟨⟨4, bstr t2.text, [], (t3.value : Int), bs, [], t1.at_⟩, ?_, ⟨h.symm, by show bstr t2.text = _; rw [x2]; exact bstr_bys _, by show (t3.value : Int) = _; rw [v3', hc], by rw [hx]; exact eqL_nil, qb, by rw [hl]; exact eqL_nil⟩⟩
    have e1 : t1 :: t2 :: t3 :: t4 :: (ub ++ [z]) ++ r = t1 :: t2 :: t3 :: t4 :: (ub ++ (z :: r)) := by simp
    rw [e1]
    unfold stmtOf
    simp only [here_cons, ek, if_neg hdeep, next_cons t1 (show t2 :: t3 :: t4 :: (ub ++ (z :: r)) ≠ [] by simp)]
    rw [if_neg (by decide), if_pos trivial]
    simp only [name_cons (show t3 :: t4 :: (ub ++ (z :: r)) ≠ [] by simp) none k2]
    have hnum : (⟨t3 :: t4 :: (ub ++ (z :: r)), none⟩ : Rd).number 256 = (t3.value, ⟨t4 :: (ub ++ (z :: r)), none⟩) := by
      unfold Rd.number
      rw [here_cons, if_pos k3, if_neg (by rw [v3']; omega), next_cons t3 (by simp)]
    simp only [hnum, eb]
  · rw [sits_5 h, sgs_append] at hu
    obtain ⟨us, z, rfl, hu, hz, hzk⟩ := ends_split hu
    obtain ⟨t1, us, rfl, k1, x1, _, hu⟩ := tok_cons (show us.map sgOf = kw kTake :: (wd s.name :: []) from hu)
    obtain ⟨t2, us, rfl, k2, x2, _, hu⟩ := tok_cons hu
    obtain rfl : us = [] := by simpa using hu
    have ek : kindP t1 = some 5 := kind_some k1 x1 (by decide)
    refine ⟨⟨5, bstr t2.text, [], 0, [], [], t1.at_⟩, ?_, ⟨h.symm, by show bstr t2.text = _; rw [x2]; exact bstr_bys _, hc.symm, by rw [hx]; exact eqL_nil, by rw [hb]; exact eqL_nil, by rw [hl]; exact eqL_nil⟩⟩
    have e1 : [t1, t2] ++ [z] ++ r = t1 :: t2 :: (z :: r) := by simp
    rw [e1]
    unfold stmtOf
    simp only [here_cons, ek, if_neg hdeep, next_cons t1 (show t2 :: (z :: r) ≠ [] by simp)]
    rw [if_neg (by decide), if_neg (by decide)]
    rw [simple_5 _ _ _ _ rfl]
    simp only [name_cons (show (z :: r) ≠ [] by simp) none k2, want_cons hr.ne none hz]
  · rw [sits_6 h, sgs_append] at hu
    obtain ⟨us, z, rfl, hu, hz, hzk⟩ := ends_split hu
    obtain ⟨t1, us, rfl, k1, x1, _, hu⟩ := tok_cons (show us.map sgOf = kw kGive :: (wd s.name :: []) from hu)
    obtain ⟨t2, us, rfl, k2, x2, _, hu⟩ := tok_cons hu
    obtain rfl : us = [] := by simpa using hu
    have ek : kindP t1 = some 6 := kind_some k1 x1 (by decide)
    refine ⟨⟨6, bstr t2.text, [], 0, [], [], t1.at_⟩, ?_, ⟨h.symm, by show bstr t2.text = _; rw [x2]; exact bstr_bys _, hc.symm, by rw [hx]; exact eqL_nil, by rw [hb]; exact eqL_nil, by rw [hl]; exact eqL_nil⟩⟩
    have e1 : [t1, t2] ++ [z] ++ r = t1 :: t2 :: (z :: r) := by simp
    rw [e1]
    unfold stmtOf
    simp only [here_cons, ek, if_neg hdeep, next_cons t1 (show t2 :: (z :: r) ≠ [] by simp)]
    rw [if_neg (by decide), if_neg (by decide)]
    rw [simple_6 _ _ _ _ rfl]
    simp only [name_cons (show (z :: r) ≠ [] by simp) none k2, want_cons hr.ne none hz]
  · rw [sits_7 h, eit_sgs (show s.exprs[0]? = some e by rw [hx]; rfl), sgs_append, sgs_append] at hu
    obtain ⟨us, z, rfl, hu, hz, hzk⟩ := ends_split hu
    obtain ⟨t1, us, rfl, k1, x1, _, hu⟩ := tok_cons (show us.map sgOf = kw kAdd :: (wd s.name :: sgs (eits m e 0)) from hu)
    obtain ⟨t2, us, rfl, k2, x2, _, hu⟩ := tok_cons hu
    have hzr : goodL (z :: r) := good_cons (by rw [hzk]; decide) (by rw [hz]; simp) hr
    have ek : kindP t1 = some 7 := kind_some k1 x1 (by decide)
    obtain ⟨e', ev, q⟩ := value_back (r := z :: r) ⟨7, bstr t2.text, [], 0, [], [], t1.at_⟩ hg (tight0 hz (by decide)) hu hzr (notOpen_cons hz (by decide)) (hfe e (by rw [hx]; simp))
    refine ⟨⟨7, bstr t2.text, [e'], 0, [], [], t1.at_⟩, ?_, ⟨h.symm, by show bstr t2.text = _; rw [x2]; exact bstr_bys _, hc.symm, by rw [hx]; exact eqL_one q, by rw [hb]; exact eqL_nil, by rw [hl]; exact eqL_nil⟩⟩
    have e1 : t1 :: t2 :: us ++ [z] ++ r = t1 :: t2 :: (us ++ (z :: r)) := by simp
    rw [e1]
    unfold stmtOf
    simp only [here_cons, ek, if_neg hdeep, next_cons t1 (show t2 :: (us ++ (z :: r)) ≠ [] by simp)]
    rw [if_neg (by decide), if_neg (by decide)]
    rw [simple_7 _ _ _ _ rfl]
    simp only [name_cons (show us ++ (z :: r) ≠ [] by simp) none k2, ev, want_cons hr.ne none hz, List.nil_append]
  · rw [sits_8 h, sgs_append] at hu
    obtain ⟨us, z, rfl, hu, hz, hzk⟩ := ends_split hu
    obtain ⟨t1, us, rfl, k1, x1, _, hu⟩ := tok_cons (show us.map sgOf = kw kFence :: [] from hu)
    obtain rfl : us = [] := by simpa using hu
    have ek : kindP t1 = some 8 := kind_some k1 x1 (by decide)
    refine ⟨⟨8, ⟨#[]⟩, [], 0, [], [], t1.at_⟩, ?_, ⟨h.symm, hn.symm, hc.symm, by rw [hx]; exact eqL_nil, by rw [hb]; exact eqL_nil, by rw [hl]; exact eqL_nil⟩⟩
    have e1 : [t1] ++ [z] ++ r = t1 :: (z :: r) := by simp
    rw [e1]
    unfold stmtOf
    simp only [here_cons, ek, if_neg hdeep, next_cons t1 (show (z :: r) ≠ [] by simp)]
    rw [if_neg (by decide), if_neg (by decide)]
    rw [simple_8 _ _ _ _ rfl]
    simp only [want_cons hr.ne none hz]
  · rw [sits_9 h, eit_sgs (show s.exprs[0]? = some e by rw [hx]; rfl), sgs_append, sgs_append] at hu
    obtain ⟨us, z, rfl, hu, hz, hzk⟩ := ends_split hu
    obtain ⟨t1, us, rfl, k1, x1, _, hu⟩ := tok_cons (show us.map sgOf = kw kOutput :: sgs (eits m e 0) from hu)
    have hzr : goodL (z :: r) := good_cons (by rw [hzk]; decide) (by rw [hz]; simp) hr
    have ek : kindP t1 = some 9 := kind_some k1 x1 (by decide)
    obtain ⟨e', ev, q⟩ := value_back (r := z :: r) ⟨9, ⟨#[]⟩, [], 0, [], [], t1.at_⟩ hg (tight0 hz (by decide)) hu hzr (notOpen_cons hz (by decide)) (hfe e (by rw [hx]; simp))
    refine ⟨⟨9, ⟨#[]⟩, [e'], 0, [], [], t1.at_⟩, ?_, ⟨h.symm, hn.symm, hc.symm, by rw [hx]; exact eqL_one q, by rw [hb]; exact eqL_nil, by rw [hl]; exact eqL_nil⟩⟩
    have e1 : t1 :: us ++ [z] ++ r = t1 :: (us ++ (z :: r)) := by simp
    rw [e1]
    unfold stmtOf
    simp only [here_cons, ek, if_neg hdeep, next_cons t1 (show (us ++ (z :: r)) ≠ [] by simp)]
    rw [if_neg (by decide), if_neg (by decide)]
    rw [simple_9 _ _ _ _ rfl]
    simp only [ev, want_cons hr.ne none hz, List.nil_append]
theorem st_back (m : Nat) : ∀ n, StC m n
  | 0 => fun _ _ _ _ _ _ h => h.elim
  | n + 1 => st_succ (st_back m n)
end Go.Proofs.YtfginegegaokbaaGreatDoor.Pr
