/- Declarations, threads and whole programs are read back of their signs. Plain. -/
import Derived.Test.YtfginegegaokbaaGreatDoorPProgBack
namespace Go.Proofs.YtfginegegaokbaaGreatDoor.Pr
open Go.Lib (decDigits itoa)
open Lx (Tok)
set_option linter.unusedVariables false
set_option linter.unusedSimpArgs false

/-- A declaration that has a text which is read. -/
def gD (d : Dcl) : Prop := isName d.name ∧ ((d.lock = true ∧ d.label = 0 ∧ d.size = 0 ∧ d.by_ = ⟨#[]⟩) ∨ (d.lock = false ∧ (d.label = 0 ∨ d.label = 1) ∧ (∃ k : Nat, d.size = k ∧ k ≤ 64) ∧ (d.by_ = ⟨#[]⟩ ∨ isName d.by_)))
def labK (d : Dcl) : List UInt8 := if d.label = 0 then kPublic else kSecret
def sizeI (d : Dcl) : List It := if 0 < d.size then [iS (sn [91]), iS (dg d.size.toNat), iS (sn [93])] else []
def byI (d : Dcl) : List It := if d.by_.size = 0 then [] else [iG [32], iS (kw kBy), iG [32], iS (wd d.by_)]
def dits (d : Dcl) : List It :=
  if d.lock = true then [iS (kw kLock), iG [32], iS (wd d.name)] ++ ends
  else [iS (kw (labK d)), iG [32], iS (wd d.name)] ++ (sizeI d ++ (byI d ++ ends))
def tits (m n : Nat) (ss : List Stm) : List It := [iS (kw kThread), iG [32], iS (sn [123]), iG [10]] ++ (bits m n 1 ss ++ [iS (sn [125]), iG [10]])
def pits (m n : Nat) (p : Prg) : List It := (p.decls.map dits).flatten ++ (p.threads.map (tits m n)).flatten

theorem name_pos {s : ByteArray} (h : isName s) : s.size ≠ 0 := by
  obtain ⟨⟨⟨c, r, e, _⟩, _⟩, _⟩ := h
  rw [← bys_length, e]; simp
theorem dits_flat (d : Dcl) (h : gD d) : flat (dits d) = dtext d := by
  obtain ⟨hn, ⟨hl, _⟩ | ⟨hl, hlab, ⟨k, hk, hk2⟩, hb⟩⟩ := h
  · unfold dits dtext
    rw [if_pos hl, if_pos hl]
    simp [flat_append, flat_s, flat_g, flat_nil, kw, wd, sn, sLock, kLock, lineT, ends, tabs]
  · unfold dits dtext
    rw [if_neg (by rw [hl]; decide), if_neg (by rw [hl]; decide)]
    have e1 : flat (sizeI d) = if 0 < d.size then [91] ++ itoa d.size ++ [93] else [] := by
      unfold sizeI
      split
      · have : itoa d.size = decDigits d.size.toNat := by unfold itoa; rw [if_neg (by omega)]
        simp [flat_s, flat_nil, sn, dg, this]
      · rfl
    have e2 : flat (byI d) = if d.by_.size = 0 then [] else sBy ++ bys d.by_ := by
      unfold byI
      split
      · rfl
      · simp [flat_s, flat_g, flat_nil, kw, wd, kBy, sBy]
    have e3 : flat [iS (kw (labK d)), iG [32], iS (wd d.name)] = (if d.label = 0 then sPublic else sSecret) ++ bys d.name := by
      unfold labK
      split <;> simp [flat_s, flat_g, flat_nil, kw, wd, kPublic, kSecret, sPublic, sSecret]
    simp only [flat_append, e1, e2, e3]
    simp [flat_s, flat_g, flat_nil, ends, sn]
theorem tits_flat (m n : Nat) (ss : List Stm) (h : ∀ s ∈ ss, gS m n s) : flat (tits m n ss) = ttext m n ss := by
  unfold tits ttext
  have := flat_bits m n 1 ss fun x hx => sits_flat m n 1 x (h x hx)
  simp only [flat_append, this]
  simp [flat_s, flat_g, flat_nil, kw, sn, kThread, sThread, lineT, tabs]
/-- A program that has a text which is read. -/
structure gP (m n : Nat) (p : Prg) : Prop where
  d : ∀ d ∈ p.decls, gD d
  dl : p.decls.length ≤ 64
  s : ∀ ss ∈ p.threads, ∀ s ∈ ss, gS m n s
  f : ∀ ss ∈ p.threads, ∀ s ∈ ss, fitS m n 1 s
  t1 : 1 ≤ p.threads.length
  t2 : p.threads.length ≤ 16
theorem flat_map {α : Type} (f : α → List It) (g : α → List UInt8) : ∀ (l : List α), (∀ x ∈ l, flat (f x) = g x) → flat (l.map f).flatten = (l.map g).flatten
  | [], _ => rfl
  | x :: l, h => by
    simp only [List.map_cons, List.flatten_cons, flat_append]
    rw [h x (by simp), flat_map f g l fun y hy => h y (by simp [hy])]
theorem pits_flat (m n : Nat) (p : Prg) (h : gP m n p) : flat (pits m n p) = ptext m n p := by
  unfold pits ptext
  rw [flat_append, flat_map dits dtext p.decls fun d hd => dits_flat d (h.d d hd), flat_map (tits m n) (ttext m n) p.threads fun ss hs => tits_flat m n ss (h.s ss hs)]

/-! its signs are read -/
theorem okF_map {α : Type} (f : α → List It) : ∀ (l : List α) (r : List UInt8), (∀ x ∈ l, ∀ r, okF (f x) r) → okF (l.map f).flatten r
  | [], _, _ => trivial
  | x :: l, r, h => by
    simp only [List.map_cons, List.flatten_cons]
    exact okF_append _ _ _ (h x (by simp) _) (okF_map f l r fun y hy => h y (by simp [hy]))
theorem dits_ok (d : Dcl) (l : List UInt8) (h : gD d) : okF (dits d) l := by
  obtain ⟨hn, ⟨hl, _⟩ | ⟨hl, hlab, ⟨k, hk, hk2⟩, hb⟩⟩ := h
  · unfold dits
    rw [if_pos hl]
    exact okF_append _ _ _ (ok_kw (by decide) (by decide) (by decide) rfl (okF_g gap_blank (ok_wd hn rfl trivial))) (ok_ends l)
  · unfold dits
    rw [if_neg (by rw [hl]; decide)]
    have s2 : soft (flat (byI d ++ ends) ++ l) = true := by
      unfold byI
      split
      · rfl
      · rfl
    have s1 : soft (flat (sizeI d ++ (byI d ++ ends)) ++ l) = true := by
      unfold sizeI
      split
      · rfl
      · exact s2
    have o3 : okF (byI d ++ ends) l := by
      unfold byI
      split
      · exact ok_ends l
      · rename_i hz
        rcases hb with hb | hb
        · rw [hb] at hz; exact absurd rfl hz
        · exact okF_append _ _ _ (okF_g gap_blank (ok_kw (by decide) (by decide) (by decide) rfl (okF_g gap_blank (ok_wd hb rfl trivial)))) (ok_ends l)
    have o2 : okF (sizeI d ++ (byI d ++ ends)) l := by
      unfold sizeI
      split
      · exact okF_append _ _ _ (ok_one (by decide) (by decide) (okF_s (reads_dg (by omega) rfl) (ok_one (by decide) (by decide) trivial))) o3
      · exact o3
    have hk : okF [iS (kw (labK d)), iG [32], iS (wd d.name)] (flat (sizeI d ++ (byI d ++ ends)) ++ l) := by
      unfold labK
      split
      · exact ok_kw (by decide) (by decide) (by decide) rfl (okF_g gap_blank (ok_wd hn s1 trivial))
      · exact ok_kw (by decide) (by decide) (by decide) rfl (okF_g gap_blank (ok_wd hn s1 trivial))
    exact okF_append _ _ _ hk o2
theorem tits_ok (m n : Nat) (ss : List Stm) (l : List UInt8) (h : ∀ s ∈ ss, gS m n s) : okF (tits m n ss) l := by
  unfold tits
  exact okF_append _ _ _ (ok_kw (by decide) (by decide) (by decide) rfl (okF_g gap_blank (ok_one (by decide) (by decide) (okF_g gap_line trivial)))) (okF_append _ _ _ (bits_ok ss _ fun x hx l => sits_ok m n 1 x l (h x hx)) (ok_one (by decide) (by decide) (okF_g gap_line trivial)))
theorem pits_ok (m n : Nat) (p : Prg) (h : gP m n p) : okF (pits m n p) [] :=
  okF_append _ _ _ (okF_map dits _ _ fun d hd r => dits_ok d r (h.d d hd)) (okF_map (tits m n) _ _ fun ss hs r => tits_ok m n ss r (h.s ss hs))

/-! they are signs -/
theorem allOK_map {α : Type} (f : α → List It) : ∀ (l : List α), (∀ x ∈ l, allOK (sgs (f x))) → allOK (sgs (l.map f).flatten)
  | [], _ => allOK_nil
  | x :: l, h => by
    simp only [List.map_cons, List.flatten_cons, sgs_append]
    exact allOK_append (h x (by simp)) (allOK_map f l fun y hy => h y (by simp [hy]))
theorem dits_sok (d : Dcl) (h : gD d) : allOK (sgs (dits d)) := by
  obtain ⟨hn, ⟨hl, _⟩ | ⟨hl, hlab, ⟨k, hk, hk2⟩, hb⟩⟩ := h
  · unfold dits
    rw [if_pos hl, sgs_append]
    exact allOK_append (allOK_cons (kw_ok (by decide)) (allOK_cons (wd_ok hn) allOK_nil)) ends_sok
  · unfold dits
    rw [if_neg (by rw [hl]; decide)]
    simp only [sgs_append]
    refine allOK_append (allOK_cons (kw_ok (by unfold labK; split <;> decide)) (allOK_cons (wd_ok hn) allOK_nil)) (allOK_append ?_ (allOK_append ?_ ends_sok))
    · unfold sizeI
      split
      · exact allOK_cons (sn_ok (by simp)) (allOK_cons (dg_ok _) (allOK_cons (sn_ok (by simp)) allOK_nil))
      · exact allOK_nil
    · unfold byI
      split
      · exact allOK_nil
      · rename_i hz
        rcases hb with hb | hb
        · rw [hb] at hz; exact absurd rfl hz
        · exact allOK_cons (kw_ok (by decide)) (allOK_cons (wd_ok hb) allOK_nil)
theorem tits_sok (m n : Nat) (ss : List Stm) (h : ∀ s ∈ ss, gS m n s) : allOK (sgs (tits m n ss)) := by
  unfold tits
  simp only [sgs_append]
  exact allOK_append (allOK_cons (kw_ok (by decide)) (allOK_cons (sn_ok (by simp)) allOK_nil)) (allOK_append (bits_sok ss fun x hx => sits_sok m n 1 x (h x hx)) (allOK_cons (sn_ok (by simp)) allOK_nil))

/-! declarations are read back -/
/-- The same declaration but for where it stands. -/
def eqD (d e : Dcl) : Prop := d.lock = e.lock ∧ d.label = e.label ∧ d.name = e.name ∧ d.size = e.size ∧ d.by_ = e.by_
theorem dits_head {d : Dcl} : ∃ x ss, sgs (dits d) = kw x :: ss ∧ (x = kLock ∨ x = kPublic ∨ x = kSecret) := by
  unfold dits
  split
  · exact ⟨kLock, _, rfl, .inl rfl⟩
  · refine ⟨labK d, _, rfl, ?_⟩
    unfold labK
    split
    · exact .inr (.inl rfl)
    · exact .inr (.inr rfl)
theorem empty_size {s : ByteArray} (h : s = ⟨#[]⟩ ∨ isName s) (hz : s.size = 0) : s = ⟨#[]⟩ := by
  rcases h with h | h
  · exact h
  · exact absurd hz (name_pos h)
theorem cells_back (d0 d : Dcl) (hn : isName d.name) (hb : d.by_ = ⟨#[]⟩ ∨ isName d.by_) (k : Nat) (hk : d.size = k) (hk2 : k ≤ 64) (t : Tok) (us : List Tok) (z : Tok) (r : List Tok) (ht : t.kind = 1) (htx : t.text = bys d.name) (hu : us.map sgOf = sgs (sizeI d) ++ sgs (byI d)) (hz : z.text = [59]) (h0 : d0.by_ = ⟨#[]⟩) :
    cellsP d0 ⟨t :: (us ++ (z :: r)), none⟩ = ({ d0 with name := d.name, size := d.size, by_ := d.by_ }, ⟨z :: r, none⟩) := by
  unfold cellsP
  obtain ⟨u1, u2, rfl, h1, h2⟩ := List.map_eq_append_iff.1 hu
  have hname : bstr (bys d.name) = d.name := bstr_bys _
  have tail : ∀ (x : Int), x = d.size → (if (⟨u2 ++ (z :: r), none⟩ : Rd).is kBy then (let b := (⟨u2 ++ (z :: r), none⟩ : Rd).next.name; ({ d0 with name := bstr t.text, size := x, by_ := bstr b.1 }, b.2)) else ({ d0 with name := bstr t.text, size := x }, ⟨u2 ++ (z :: r), none⟩)) = (({ d0 with name := d.name, size := d.size, by_ := d.by_ } : Dcl), (⟨z :: r, none⟩ : Rd)) := fun x hx => by
    unfold byI at h2
    split at h2
    · rename_i hz0
      obtain rfl : u2 = [] := by simpa [sgs] using h2
      rw [List.nil_append, is_cons, hz, if_neg (by decide), htx, hname, hx, empty_size hb hz0, ← h0]
    · obtain ⟨b1, us', rfl, kb1, xb1, _, h3⟩ := tok_cons (show u2.map sgOf = kw kBy :: wd d.by_ :: [] from h2)
      obtain ⟨b2, us'', rfl, kb2, xb2, _, h4⟩ := tok_cons h3
      obtain rfl : us'' = [] := by simpa using h4
      rw [show [b1, b2] ++ (z :: r) = b1 :: b2 :: (z :: r) from rfl, is_cons, xb1, if_pos (by decide), next_cons b1 (by simp), name_cons (by simp) none kb2, htx, hname, hx, xb2]
      rfl
  rw [name_cons (ne_app (by simp)) none ht]
  simp only
  unfold sizeI at h1
  split at h1
  · rename_i hp
    obtain ⟨a1, us', rfl, ka1, xa1, _, h3⟩ := tok_cons (show u1.map sgOf = sn [91] :: dg d.size.toNat :: sn [93] :: [] from h1)
    obtain ⟨a2, us', rfl, ka2, xa2, va2, h3⟩ := tok_cons h3
    obtain ⟨a3, us', rfl, ka3, xa3, _, h3⟩ := tok_cons h3
    obtain rfl : us' = [] := by simpa using h3
    have e1 : [a1, a2, a3] ++ u2 ++ (z :: r) = a1 :: a2 :: a3 :: (u2 ++ (z :: r)) := by simp
    have hv : a2.value = d.size.toNat := va2
    have hnum : (⟨a2 :: a3 :: (u2 ++ (z :: r)), none⟩ : Rd).number 64 = (a2.value, ⟨a3 :: (u2 ++ (z :: r)), none⟩) := by
      unfold Rd.number
      rw [here_cons, if_pos ka2, if_neg (by rw [hv]; omega), next_cons a2 (by simp)]
    rw [e1]
    simp only [is_cons, xa1, beq_self_eq_true, if_true, next_cons a1 (show a2 :: a3 :: (u2 ++ (z :: r)) ≠ [] by simp), hnum, want_cons (ne_app (us := u2) (show z :: r ≠ [] by simp)) none xa3]
    exact tail _ (by rw [hv]; omega)
  · rename_i hp
    obtain rfl : u1 = [] := by simpa [sgs] using h1
    have hno : (⟨u2 ++ (z :: r), none⟩ : Rd).is [91] = false := by
      unfold byI at h2
      split at h2
      · obtain rfl : u2 = [] := by simpa [sgs] using h2
        rw [List.nil_append, is_cons, hz]; decide
      · obtain ⟨b1, us', rfl, kb1, xb1, _, h3⟩ := tok_cons (show u2.map sgOf = kw kBy :: wd d.by_ :: [] from h2)
        rw [List.cons_append, is_cons, xb1]; decide
    simp only [List.nil_append, hno, Bool.false_eq_true, if_false]
    exact tail 0 (by omega)
theorem ends_split {xs : List Tok} {ss : List Sg} (h : xs.map sgOf = ss ++ sgs ends) : ∃ ys z, xs = ys ++ [z] ∧ ys.map sgOf = ss ∧ z.text = [59] ∧ z.kind = 4 := by
  obtain ⟨ys, zs, rfl, h1, h2⟩ := List.map_eq_append_iff.1 h
  obtain ⟨z, zs', rfl, hk, ht, _, h3⟩ := tok_cons (show zs.map sgOf = sn [59] :: [] from h2)
  obtain rfl : zs' = [] := by simpa using h3
  exact ⟨ys, z, rfl, h1, ht, hk⟩
theorem decl_back (d : Dcl) (us r : List Tok) (h : gD d) (hu : us.map sgOf = sgs (dits d)) (hr : goodL r) : ∃ d', declP ⟨us ++ r, none⟩ = (d', ⟨r, none⟩) ∧ eqD d' d := by
  obtain ⟨hn, ⟨hl, h1, h2, h3⟩ | ⟨hl, hlab, ⟨k, hk, hk2⟩, hb⟩⟩ := h
  · unfold dits at hu
    rw [if_pos hl, sgs_append] at hu
    obtain ⟨us, z, rfl, hu, hz, hzk⟩ := ends_split hu
    obtain ⟨t1, us, rfl, k1, x1, _, hu⟩ := tok_cons (show us.map sgOf = kw kLock :: (wd d.name :: []) from hu)
    obtain ⟨t2, us, rfl, k2, x2, _, hu⟩ := tok_cons hu
    obtain rfl : us = [] := by simpa using hu
    refine ⟨⟨true, 0, bstr t2.text, 0, ⟨#[]⟩, t1.at_⟩, ?_, ⟨hl.symm, h1.symm, by show bstr t2.text = _; rw [x2]; exact bstr_bys _, h2.symm, h3.symm⟩⟩
    have e1 : [t1, t2] ++ [z] ++ r = t1 :: t2 :: (z :: r) := by simp
    rw [e1]
    unfold declP
    simp only [here_cons, is_cons, x1, beq_self_eq_true, if_true, next_cons t1 (show t2 :: (z :: r) ≠ [] by simp), name_cons (show (z :: r) ≠ [] by simp) none k2, want_cons hr.ne none hz]
  · unfold dits at hu
    rw [if_neg (by rw [hl]; decide)] at hu
    have hu' : us.map sgOf = (kw (labK d) :: wd d.name :: (sgs (sizeI d) ++ sgs (byI d))) ++ sgs ends := by
      rw [hu]; simp only [sgs_append]; simp [sgs, iS, iG]
    clear hu
    obtain ⟨us, z, rfl, hu, hz, hzk⟩ := ends_split hu'
    obtain ⟨t1, us, rfl, k1, x1, _, hu⟩ := tok_cons hu
    obtain ⟨t2, us, rfl, k2, x2, _, hu⟩ := tok_cons hu
    have e1 : t1 :: t2 :: us ++ [z] ++ r = t1 :: t2 :: (us ++ (z :: r)) := by simp
    rw [e1]
    refine ⟨⟨false, d.label, d.name, d.size, d.by_, t1.at_⟩, ?_, ⟨hl.symm, rfl, rfl, rfl, rfl⟩⟩
    unfold declP
    simp only [here_cons, is_cons, x1, next_cons t1 (show t2 :: (us ++ (z :: r)) ≠ [] by simp)]
    rcases hlab with hlab | hlab
    · have eK : labK d = kPublic := by unfold labK; rw [if_pos hlab]
      rw [eK, if_neg (by decide), if_pos (by decide), cells_back _ d hn hb k hk hk2 t2 us z r k2 x2 hu hz rfl]
      simp only [want_cons hr.ne none hz]
      rw [hlab]
    · have eK : labK d = kSecret := by unfold labK; rw [if_neg (by omega)]
      rw [eK, if_neg (by decide), if_neg (by decide), if_pos (by decide), cells_back _ d hn hb k hk hk2 t2 us z r k2 x2 hu hz rfl]
      simp only [want_cons hr.ne none hz]
      rw [hlab]
theorem declLoop_back (r : List Tok) (hr : goodL r) (hth : (r.headD (endT 0)).text = kThread) : ∀ (ds : List Dcl) (k : Nat) (acc : List Dcl) (us : List Tok), (∀ d ∈ ds, gD d) → us.map sgOf = sgs (ds.map dits).flatten → acc.length + ds.length ≤ 64 → ds.length < k →
    ∃ ds', declLoop k acc ⟨us ++ r, none⟩ = (acc ++ ds', ⟨r, none⟩) ∧ eqL eqD ds' ds
  | [], k, acc, us, _, hu, _, hk => by
    obtain rfl : us = [] := by simpa [sgs] using hu
    obtain ⟨k, rfl⟩ : ∃ j, k = j + 1 := ⟨k - 1, by simp at hk; omega⟩
    refine ⟨[], ?_, eqL_nil⟩
    rw [declLoop]
    have his : (⟨r, none⟩ : Rd).is kThread = true := by unfold Rd.is Rd.here; rw [hth]; decide
    simp only [List.nil_append, Option.isSome_none, Bool.false_eq_true, if_false, his, if_true, List.append_nil]
  | d :: ds, k, acc, us, hg, hu, hl, hk => by
    simp only [List.map_cons, List.flatten_cons, sgs_append] at hu
    obtain ⟨ua, ub, rfl, hua, hub⟩ := List.map_eq_append_iff.1 hu
    have hgb : goodL (ub ++ r) := hr.app (toks_ok hub (allOK_map dits ds fun x hx => dits_sok x (hg x (by simp [hx]))))
    obtain ⟨d', ed, qd⟩ := decl_back d ua (ub ++ r) (hg d (by simp)) hua hgb
    simp only [List.length_cons] at hl hk
    obtain ⟨k, rfl⟩ : ∃ j, k = j + 1 := ⟨k - 1, by omega⟩
    obtain ⟨ds', eds, qds⟩ := declLoop_back r hr hth ds k (acc ++ [d']) ub (fun x hx => hg x (by simp [hx])) hub (by simp; omega) (by omega)
    refine ⟨d' :: ds', ?_, eqL_cons qd qds⟩
    have his : (⟨ua ++ (ub ++ r), none⟩ : Rd).is kThread = false := by
      obtain ⟨x, ss, e0, hx⟩ := dits_head (d := d)
      rw [e0] at hua
      obtain ⟨t, ts, rfl, _, ht, _⟩ := tok_cons hua
      rw [List.cons_append, is_cons, ht]
      rcases hx with rfl | rfl | rfl <;> decide
    rw [declLoop]
    rw [List.append_assoc]
    simp only [Option.isSome_none, Bool.false_eq_true, if_false, his, if_neg (show ¬ acc.length = 64 by omega), ed, eds]
    simp

/-! threads are read back -/
theorem thr_back (m n : Nat) (ss : List Stm) (us r : List Tok) (hg : ∀ s ∈ ss, gS m n s) (hf : ∀ s ∈ ss, fitS m n 1 s) (hu : us.map sgOf = sgs (tits m n ss)) (hr : goodL r) :
    ∃ ss', blockOf (stP 40) 1 ((⟨us ++ r, none⟩ : Rd).want kThread) = (ss', ⟨r, none⟩) ∧ eqL (eqS m n) ss' ss := by
  unfold tits at hu
  have hu' : us.map sgOf = kw kThread :: sn [123] :: (sgs (bits m n 1 ss) ++ [sn [125]]) := by
    rw [hu]; simp only [sgs_append]; simp [sgs, iS, iG]
  clear hu
  obtain ⟨t1, us, rfl, k1, x1, _, hu⟩ := tok_cons hu'
  obtain ⟨t2, us, rfl, k2, x2, _, hu⟩ := tok_cons hu
  obtain ⟨ub, us, rfl, hub, hu⟩ := List.map_eq_append_iff.1 hu
  obtain ⟨z, us, rfl, hzk, hz, _, hu⟩ := tok_cons hu
  obtain rfl : us = [] := by simpa using hu
  obtain ⟨bs, eb, qb⟩ := block_back (st_back m n) 40 1 1 t2 z r ub ss x2 hz (by rw [hzk]; decide) hr (by omega) hg hf hub
  refine ⟨bs, ?_, qb⟩
  have e1 : t1 :: t2 :: (ub ++ [z]) ++ r = t1 :: t2 :: (ub ++ (z :: r)) := by simp
  rw [e1, want_cons (by simp) none x1, eb]
theorem end_good (e : Nat) : goodL [endT e] := ⟨[], e, rfl, by simp⟩
theorem thrLoop_back (m n e : Nat) : ∀ (ts : List (List Stm)) (k : Nat) (acc : List (List Stm)) (us : List Tok), (∀ ss ∈ ts, ∀ s ∈ ss, gS m n s) → (∀ ss ∈ ts, ∀ s ∈ ss, fitS m n 1 s) → us.map sgOf = sgs (ts.map (tits m n)).flatten → acc.length + ts.length ≤ 16 → ts.length < k →
    ∃ ts', thrLoop k acc ⟨us ++ [endT e], none⟩ = (acc ++ ts', ⟨[endT e], none⟩) ∧ eqL (eqL (eqS m n)) ts' ts
  | [], k, acc, us, _, _, hu, _, hk => by
    obtain rfl : us = [] := by simpa [sgs] using hu
    obtain ⟨k, rfl⟩ : ∃ j, k = j + 1 := ⟨k - 1, by simp at hk; omega⟩
    refine ⟨[], ?_, eqL_nil⟩
    rw [thrLoop]
    simp only [List.nil_append, Option.isSome_none, Bool.false_eq_true, if_false, here_cons, if_pos (show (endT e).kind = 0 from rfl), List.append_nil]
  | ss :: ts, k, acc, us, hg, hf, hu, hl, hk => by
    simp only [List.map_cons, List.flatten_cons, sgs_append] at hu
    obtain ⟨ua, ub, rfl, hua, hub⟩ := List.map_eq_append_iff.1 hu
    have hgb : goodL (ub ++ [endT e]) := (end_good e).app (toks_ok hub (allOK_map (tits m n) ts fun x hx => tits_sok m n x (hg x (by simp [hx]))))
    obtain ⟨s', es, qs⟩ := thr_back m n ss ua (ub ++ [endT e]) (hg ss (by simp)) (hf ss (by simp)) hua hgb
    simp only [List.length_cons] at hl hk
    obtain ⟨k, rfl⟩ : ∃ j, k = j + 1 := ⟨k - 1, by omega⟩
    obtain ⟨ts', ets, qts⟩ := thrLoop_back m n e ts k (acc ++ [s']) ub (fun x hx => hg x (by simp [hx])) (fun x hx => hf x (by simp [hx])) hub (by simp; omega) (by omega)
    refine ⟨s' :: ts', ?_, eqL_cons qs qts⟩
    have hkind : ¬ (⟨ua ++ (ub ++ [endT e]), none⟩ : Rd).here.kind = 0 := by
      unfold tits at hua
      obtain ⟨t, us', rfl, hk', _⟩ := tok_cons (show ua.map sgOf = kw kThread :: _ from hua)
      rw [List.cons_append, here_cons, hk']; decide
    rw [thrLoop]
    rw [List.append_assoc]
    simp only [Option.isSome_none, Bool.false_eq_true, if_false, if_neg hkind, if_neg (show ¬ acc.length = 16 by omega), es, ets]
    simp

/-- The same program but for where its parts stand. -/
def eqP (m n : Nat) (p q : Prg) : Prop := eqL eqD p.decls q.decls ∧ eqL (eqL (eqS m n)) p.threads q.threads
/-- Tokens of a program's signs are read as that program. -/
theorem toks_back (m n : Nat) (p : Prg) (h : gP m n p) (us : List Tok) (e : Nat) (hu : us.map sgOf = sgs (pits m n p)) : ∃ q, progP (us ++ [endT e]) = .ok q ∧ eqP m n q p := by
  unfold pits at hu
  rw [sgs_append] at hu
  obtain ⟨ua, ub, rfl, hua, hub⟩ := List.map_eq_append_iff.1 hu
  have hgb : goodL (ub ++ [endT e]) := (end_good e).app (toks_ok hub (allOK_map (tits m n) _ fun x hx => tits_sok m n x (h.s x hx)))
  have hth : ((ub ++ [endT e]).headD (endT 0)).text = kThread := by
    have h1 := h.t1
    cases ht : p.threads with
    | nil => rw [ht] at h1; simp at h1
    | cons ss ts =>
      rw [ht] at hub
      simp only [List.map_cons, List.flatten_cons, sgs_append] at hub
      obtain ⟨uc, ud, rfl, huc, _⟩ := List.map_eq_append_iff.1 hub
      unfold tits at huc
      obtain ⟨t, us', rfl, _, hx, _⟩ := tok_cons (show uc.map sgOf = kw kThread :: _ from huc)
      simpa using hx
  obtain ⟨ds', ed, qd⟩ := declLoop_back (ub ++ [endT e]) hgb hth p.decls 65 [] ua h.d hua (by simpa using h.dl) (by have := h.dl; omega)
  obtain ⟨ts', et, qt⟩ := thrLoop_back m n e p.threads 17 [] ub h.s h.f hub (by simpa using h.t2) (by have := h.t2; omega)
  refine ⟨⟨ds', ts'⟩, ?_, qd, qt⟩
  unfold progP declsP threadsP
  rw [List.append_assoc, ed]
  simp only [et, List.nil_append]
/-- A text that is made of a program's signs and gaps is read as that program. -/
theorem items_back (m n : Nat) (p : Prg) (h : gP m n p) (is : List It) (ho : okF is []) (hs : sgs is = sgs (pits m n p)) (hl : (flat is).length ≤ 65536) : ∃ q, parseP (flat is) = .ok q ∧ eqP m n q p := by
  obtain ⟨q, e, hq⟩ := toks_back m n p h (toksAt 0 is) (flat is).length (by rw [toksAt_sgs, hs])
  refine ⟨q, ?_, hq⟩
  unfold parseP
  rw [cut_items is ho hl]
  exact e
/-- A program's text is read as that program. -/
theorem text_back (m n : Nat) (p : Prg) (h : gP m n p) (hl : (ptext m n p).length ≤ 65536) : ∃ q, parseP (ptext m n p) = .ok q ∧ eqP m n q p := by
  rw [← pits_flat m n p h] at hl ⊢
  exact items_back m n p h _ (pits_ok m n p h) rfl hl
end Go.Proofs.YtfginegegaokbaaGreatDoor.Pr
