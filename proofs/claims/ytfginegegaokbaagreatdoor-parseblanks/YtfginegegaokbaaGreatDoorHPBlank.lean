/- The same signs with other gaps between them are the same program. Plain. -/
import Derived.Test.YtfginegegaokbaaGreatDoorHPToks
import Derived.Test.YtfginegegaokbaaGreatDoorGMakeP
namespace Go.Proofs.YtfginegegaokbaaGreatDoor.Pr
open Go.Lib (decDigits itoa)
open Lx (Tok num wordB letterB blankB blanks readTok signN)
set_option linter.unusedVariables false
set_option linter.unusedSimpArgs false

def free (s : Sg) : Prop := ∀ (b : UInt8) (l : List UInt8), (b = 32 ∨ b = 10 ∨ b = 9) → reads s (b :: l)
theorem soft_blank {b : UInt8} (h : b = 32 ∨ b = 10 ∨ b = 9) (l : List UInt8) : soft (b :: l) = true := by rcases h with rfl | rfl | rfl <;> rfl
theorem free_wd {s : ByteArray} (h : isName s) : free (wd s) := fun b l hb => reads_wd h (soft_blank hb l)
theorem free_dg {n : Nat} (h : n < 18446744073709551616) : free (dg n) := fun b l hb => reads_dg h (soft_blank hb l)
def kwB (x : List UInt8) : Bool := (match x with | c :: _ => letterB (num c) | [] => false) && x.all (fun c => wordB (num c)) && Lx.keyB x
theorem free_kw {x : List UInt8} (h : kwB x = true) : free (kw x) := fun b l hb => by
  unfold kwB at h
  simp only [Bool.and_eq_true] at h
  exact reads_kw (wordText_of h.1.1 h.1.2) h.2 (soft_blank hb l)
theorem thin_free {c : UInt8} (h : c = 60 ∨ c = 61) : free (sn [c]) := fun b l hb => by
  have e1 : letterB (num 60) = false ∧ Lx.digitB (num 60) = false ∧ letterB (num 61) = false ∧ Lx.digitB (num 61) = false := by decide
  refine ⟨by simp [sn], ?_, fun k => ?_⟩
  · rcases h with rfl | rfl <;> (apply blanks_zero; decide)
  · have hn : signN (60 :: b :: l) = 1 := by rcases hb with rfl | rfl | rfl <;> (unfold signN; simp [List.isPrefixOf]; decide)
    have hn' : signN (61 :: b :: l) = 1 := by rcases hb with rfl | rfl | rfl <;> (unfold signN; simp [List.isPrefixOf]; decide)
    rcases h with rfl | rfl
    all_goals
      show readTok _ k = _
      simp only [sn, List.cons_append, List.nil_append]
      unfold readTok
      simp only [e1.1, e1.2.1, e1.2.2.1, e1.2.2.2, Bool.false_eq_true, if_false, hn, hn']
      rfl
def snB (x : List UInt8) : Bool := match x with
  | [c] => ((c != 60 && c != 61 && c != 62) && Lx.signList.contains c) || (c == 60 || c == 61)
  | [c, d] => c == d && (c == 60 || c == 61 || c == 62)
  | _ => false
theorem free_sn {x : List UInt8} (h : snB x = true) : free (sn x) := by
  unfold snB at h
  split at h
  · rename_i c
    simp only [Bool.or_eq_true, Bool.and_eq_true, bne_iff_ne, beq_iff_eq] at h
    rcases h with ⟨⟨⟨h1, h2⟩, h3⟩, h4⟩ | h
    · exact fun b l _ => reads_one ⟨h1, h2, h3⟩ h4 _
    · exact thin_free h
  · rename_i c d
    simp only [Bool.or_eq_true, Bool.and_eq_true, beq_iff_eq] at h
    obtain ⟨rfl, h⟩ := h
    exact fun b l _ => reads_two (by rcases h with (h | h) | h <;> simp [h]) _
  · cases h
theorem signL_in (op : Nat) (h : op ≤ 9) : snB (signL op) = true := by
  have : op = 0 ∨ op = 1 ∨ op = 2 ∨ op = 3 ∨ op = 4 ∨ op = 5 ∨ op = 6 ∨ op = 7 ∨ op = 8 ∨ op = 9 := by omega
  rcases this with rfl | rfl | rfl | rfl | rfl | rfl | rfl | rfl | rfl | rfl <;> decide
def allF (ss : List Sg) : Prop := ∀ s ∈ ss, free s
theorem allF_append {a b : List Sg} (ha : allF a) (hb : allF b) : allF (a ++ b) := fun s hs => by
  rcases List.mem_append.1 hs with h | h
  · exact ha s h
  · exact hb s h
theorem allF_cons {s : Sg} {b : List Sg} (ha : free s) (hb : allF b) : allF (s :: b) := fun x hx => by
  rcases List.mem_cons.1 hx with rfl | h
  · exact ha
  · exact hb x h
theorem allF_nil : allF [] := fun s hs => by simp at hs
theorem eits_free : ∀ (n : Nat) (t : Tree) (p : Nat), gT n t → ∀ s ∈ sgs (eits n t p), free s
  | 0, _, _, h => h.elim
  | n + 1, t, p, h => by
    rcases h with ⟨h, _, _, hv, _⟩ | ⟨h, _, hn, _⟩ | ⟨h, _, hn, _, a, hk, ha⟩ | ⟨h, h0, h1, _, _, a, b, hk, ha, hb⟩ | ⟨h, _, _, _, a, hk, ha⟩ | ⟨h, _, _, _, a, b, c, hk, ha, hb, hc⟩
    · rw [eits_0 h]; intro s hs; obtain rfl : s = dg t.value := by simpa [sgs, iS] using hs
      exact free_dg hv
    · rw [eits_1 h]; intro s hs; obtain rfl : s = wd t.name := by simpa [sgs, iS] using hs
      exact free_wd hn
    · rw [eits_2 h hk]
      intro s hs
      simp only [sgs_append, List.mem_append] at hs
      rcases hs with (hs | hs) | hs
      · simp [sgs, iS] at hs; rcases hs with rfl | rfl
        · exact free_wd hn
        · exact free_sn (by decide)
      · exact eits_free n a 0 ha s hs
      · simp [sgs, iS] at hs; subst hs; exact free_sn (by decide)
    · have hop : t.op.toNat ≤ 9 := by omega
      have e : ∀ s ∈ sgs (ebin n t.op a b), free s := fun s hs => by
        unfold ebin at hs
        simp only [sgs_append, List.mem_append] at hs
        rcases hs with (hs | hs) | hs
        · exact eits_free n a _ ha s hs
        · simp [sgs, iS, iG] at hs; subst hs; exact free_sn (signL_in _ hop)
        · exact eits_free n b _ hb s hs
      rw [eits_3 h hk]
      split
      · intro s hs
        simp only [sgs_append, List.mem_append] at hs
        rcases hs with (hs | hs) | hs
        · simp [sgs, iS] at hs; subst hs; exact free_sn (by decide)
        · exact e s hs
        · simp [sgs, iS] at hs; subst hs; exact free_sn (by decide)
      · exact e
    · rw [eits_4 h hk]
      intro s hs
      simp only [sgs_append, List.mem_append] at hs
      rcases hs with hs | hs
      · simp [sgs, iS] at hs; subst hs; exact free_sn (by decide)
      · exact eits_free n a 9 ha s hs
    · rw [eits_5 h hk]
      intro s hs
      simp only [sgs_append, List.mem_append] at hs
      rcases hs with (((((hs | hs) | hs) | hs) | hs) | hs) | hs
      · simp [sgs, iS] at hs; rcases hs with rfl | rfl
        · exact free_kw (by decide)
        · exact free_sn (by decide)
      · exact eits_free n a 0 ha s hs
      · simp [sgs, iS, iG] at hs; subst hs; exact free_sn (by decide)
      · exact eits_free n b 0 hb s hs
      · simp [sgs, iS, iG] at hs; subst hs; exact free_sn (by decide)
      · exact eits_free n c 0 hc s hs
      · simp [sgs, iS] at hs; subst hs; exact free_sn (by decide)

theorem bits_free {m n d : Nat} : ∀ (ss : List Stm), (∀ s ∈ ss, allF (sgs (sits m n d s))) → allF (sgs (bits m n d ss))
  | [], _ => allF_nil
  | s :: ss, h => by rw [bits_cons, sgs_append]; exact allF_append (h s (by simp)) (bits_free ss fun x hx => h x (by simp [hx]))
theorem ends_free : allF (sgs ends) := allF_cons (free_sn (by decide)) allF_nil
theorem sits_free (m : Nat) : ∀ (n d : Nat) (s : Stm), gS m n s → allF (sgs (sits m n d s))
  | 0, _, _, h => h.elim
  | n + 1, d, s, h => by
    have hb : ∀ (d : Nat) (ss : List Stm), (∀ x ∈ ss, gS m n x) → allF (sgs (bits m n d ss)) := fun d ss hs => bits_free ss fun x hx => sits_free m n d x (hs x hx)
    have hclose : allF (sgs [iG (tabs d), iS (sn [125]), iG [10]]) := allF_cons (free_sn (by decide)) allF_nil
    rcases h with ⟨h, hn, ⟨e, he, hg⟩, _⟩ | ⟨h, hn, ⟨e, he, hg⟩, _⟩ | ⟨h, hn, ⟨a, b, he, ha, hb'⟩, _⟩ | ⟨h, _, ⟨e, he, hg⟩, _, h1, h2⟩ | ⟨h, hn, _, ⟨c, hc, _, hc2⟩, h1, _⟩ | ⟨h, hn, _⟩ | ⟨h, hn, _⟩ | ⟨h, hn, ⟨e, he, hg⟩, _⟩ | ⟨h, _⟩ | ⟨h, _, ⟨e, he, hg⟩, _⟩
    · have e0 : eit m s.exprs 0 = eits m e 0 := eit_sgs (by rw [he]; rfl)
      rw [sits_0 h, e0]; simp only [sgs_append]
      exact allF_append (allF_append (allF_cons (free_kw (by decide)) (allF_cons (free_wd hn) (allF_cons (free_sn (by decide)) allF_nil))) (eits_free m e 0 hg)) ends_free
    · have e0 : eit m s.exprs 0 = eits m e 0 := eit_sgs (by rw [he]; rfl)
      rw [sits_1 h, e0]; simp only [sgs_append]
      exact allF_append (allF_append (allF_cons (free_wd hn) (allF_cons (free_sn (by decide)) allF_nil)) (eits_free m e 0 hg)) ends_free
    · have e0 : eit m s.exprs 0 = eits m a 0 := eit_sgs (by rw [he]; rfl)
      have e1 : eit m s.exprs 1 = eits m b 0 := eit_sgs (by rw [he]; rfl)
      rw [sits_2 h, e0, e1]; simp only [sgs_append]
      exact allF_append (allF_append (allF_append (allF_append (allF_cons (free_wd hn) (allF_cons (free_sn (by decide)) allF_nil)) (eits_free m a 0 ha)) (allF_cons (free_sn (by decide)) (allF_cons (free_sn (by decide)) allF_nil))) (eits_free m b 0 hb')) ends_free
    · have e0 : eit m s.exprs 0 = eits m e 0 := eit_sgs (by rw [he]; rfl)
      rw [sits_3 h, e0]; simp only [sgs_append]
      refine allF_append (allF_append (allF_append (allF_append (allF_append (allF_cons (free_kw (by decide)) (allF_cons (free_sn (by decide)) allF_nil)) (eits_free m e 0 hg)) (allF_cons (free_sn (by decide)) (allF_cons (free_sn (by decide)) allF_nil))) (hb _ _ h1)) ?_) hclose
      split
      · exact allF_nil
      · simp only [sgs_append]
        exact allF_append (allF_cons (free_sn (by decide)) (allF_cons (free_kw (by decide)) (allF_cons (free_sn (by decide)) allF_nil))) (hb _ _ h2)
    · rw [sits_4 h]; simp only [sgs_append]
      exact allF_append (allF_append (allF_cons (free_kw (by decide)) (allF_cons (free_wd hn) (allF_cons (free_dg (by omega)) (allF_cons (free_sn (by decide)) allF_nil)))) (hb _ _ h1)) hclose
    · rw [sits_5 h]; simp only [sgs_append]
      exact allF_append (allF_cons (free_kw (by decide)) (allF_cons (free_wd hn) allF_nil)) ends_free
    · rw [sits_6 h]; simp only [sgs_append]
      exact allF_append (allF_cons (free_kw (by decide)) (allF_cons (free_wd hn) allF_nil)) ends_free
    · have e0 : eit m s.exprs 0 = eits m e 0 := eit_sgs (by rw [he]; rfl)
      rw [sits_7 h, e0]; simp only [sgs_append]
      exact allF_append (allF_append (allF_cons (free_kw (by decide)) (allF_cons (free_wd hn) allF_nil)) (eits_free m e 0 hg)) ends_free
    · rw [sits_8 h]; simp only [sgs_append]
      exact allF_append (allF_cons (free_kw (by decide)) allF_nil) ends_free
    · have e0 : eit m s.exprs 0 = eits m e 0 := eit_sgs (by rw [he]; rfl)
      rw [sits_9 h, e0]; simp only [sgs_append]
      exact allF_append (allF_append (allF_cons (free_kw (by decide)) allF_nil) (eits_free m e 0 hg)) ends_free

theorem dits_free (d : Dcl) (h : gD d) : allF (sgs (dits d)) := by
  obtain ⟨hn, ⟨hl, _⟩ | ⟨hl, hlab, ⟨k, hk, hk2⟩, hb⟩⟩ := h
  · unfold dits
    rw [if_pos hl, sgs_append]
    exact allF_append (allF_cons (free_kw (by decide)) (allF_cons (free_wd hn) allF_nil)) ends_free
  · unfold dits
    rw [if_neg (by rw [hl]; decide)]
    simp only [sgs_append]
    refine allF_append (allF_cons (free_kw (by unfold labK; split <;> decide)) (allF_cons (free_wd hn) allF_nil)) (allF_append ?_ (allF_append ?_ ends_free))
    · unfold sizeI
      split
      · exact allF_cons (free_sn (by decide)) (allF_cons (free_dg (by omega)) (allF_cons (free_sn (by decide)) allF_nil))
      · exact allF_nil
    · unfold byI
      split
      · exact allF_nil
      · rename_i hz
        rcases hb with hb | hb
        · rw [hb] at hz; exact absurd rfl hz
        · exact allF_cons (free_kw (by decide)) (allF_cons (free_wd hb) allF_nil)
theorem tits_free (m n : Nat) (ss : List Stm) (h : ∀ s ∈ ss, gS m n s) : allF (sgs (tits m n ss)) := by
  unfold tits
  simp only [sgs_append]
  exact allF_append (allF_cons (free_kw (by decide)) (allF_cons (free_sn (by decide)) allF_nil)) (allF_append (bits_free ss fun x hx => sits_free m n 1 x (h x hx)) (allF_cons (free_sn (by decide)) allF_nil))


theorem allF_map {α : Type} (f : α → List It) : ∀ (l : List α), (∀ x ∈ l, allF (sgs (f x))) → allF (sgs (l.map f).flatten)
  | [], _ => allF_nil
  | x :: l, h => by
    simp only [List.map_cons, List.flatten_cons, sgs_append]
    exact allF_append (h x (by simp)) (allF_map f l fun y hy => h y (by simp [hy]))
theorem pits_free (m n : Nat) (p : Prg) (h : gP m n p) : allF (sgs (pits m n p)) := by
  unfold pits
  rw [sgs_append]
  exact allF_append (allF_map dits _ fun d hd => dits_free d (h.d d hd)) (allF_map (tits m n) _ fun ss hs => tits_free m n ss (h.s ss hs))

/-! other gaps -/
def blankG (k : Nat) : List UInt8 := if k % 4 = 0 then [32] else if k % 4 = 1 then [10] else if k % 4 = 2 then [9, 32, 13] else [32, 35, 32, 120, 32, 59, 32, 123, 10]
def withB (k : Nat) : List Sg → List It
  | [] => [iG (blankG k)]
  | s :: ss => iG (blankG k) :: iS s :: withB (k + 1) ss
theorem withB_sgs : ∀ (ss : List Sg) (k : Nat), sgs (withB k ss) = ss
  | [], k => rfl
  | s :: ss, k => by rw [withB, sgs_g, sgs_s, withB_sgs ss (k + 1)]
theorem blankG_head (k : Nat) : ∃ b l, blankG k = b :: l ∧ (b = 32 ∨ b = 10 ∨ b = 9) := by
  unfold blankG
  (repeat' split) <;> exact ⟨_, _, rfl, by decide⟩
theorem withB_head (ss : List Sg) (k : Nat) : ∃ b l, flat (withB k ss) = b :: l ∧ (b = 32 ∨ b = 10 ∨ b = 9) := by
  obtain ⟨b, l, e, h⟩ := blankG_head k
  cases ss with
  | nil => exact ⟨b, l ++ [], by rw [withB, flat_g, e]; rfl, h⟩
  | cons s ss => exact ⟨b, l ++ flat (iS s :: withB (k + 1) ss), by rw [withB, flat_g, e]; rfl, h⟩
theorem blank_gap (k : Nat) : isGap (blankG k) := by
  unfold blankG
  split
  · exact gap_of (by decide) (by decide)
  split
  · exact gap_of (by decide) (by decide)
  split
  · exact gap_append (a := [9]) (gap_of (by decide) (by decide)) (gap_append (a := [32]) (gap_of (by decide) (by decide)) (gap_of (by decide) (by decide)))
  · intro l
    have hb : blankB (num 32) = true := by decide
    have h32 : num 32 ≠ 35 := by decide
    have h10 : num 32 ≠ 10 := by decide
    have e35 : num 35 = 35 := by decide
    have e10 : num 10 = 10 := by decide
    have x1 : num 120 ≠ 10 := by decide
    have x2 : num 59 ≠ 10 := by decide
    have x3 : num 123 ≠ 10 := by decide
    have y1 : num 120 ≠ 35 := by decide
    have y2 : num 59 ≠ 35 := by decide
    have y3 : num 123 ≠ 35 := by decide
    have z10 : num 10 ≠ 35 := by decide
    have z35 : num 35 ≠ 10 := by decide
    simp [blanks, hb, h32, h10, e35, e10, x1, x2, x3, y1, y2, y3, z10, z35]
    try omega
theorem withB_ok : ∀ (ss : List Sg) (k : Nat), allF ss → okF (withB k ss) []
  | [], k, _ => okF_g (blank_gap k) trivial
  | s :: ss, k, h => by
    obtain ⟨b, l, e, hb⟩ := withB_head ss (k + 1)
    refine okF_g (blank_gap k) (okF_s ?_ (withB_ok ss (k + 1) fun x hx => h x (by simp [hx])))
    rw [e, List.cons_append]
    exact h s (by simp) b _ hb
def sumL (ss : List Sg) : Nat := (ss.map fun s => s.text.length).sum
theorem sumL_flat : ∀ is : List It, sumL (sgs is) ≤ (flat is).length
  | [] => by simp [sumL, sgs, flat]
  | i :: is => by
    have ih := sumL_flat is
    rw [flat_cons, List.length_append]
    cases e : i.sg with
    | none =>
      have : sgs (i :: is) = sgs is := by unfold sgs; rw [List.filterMap_cons, e]
      rw [this]; omega
    | some s =>
      have : sgs (i :: is) = s :: sgs is := by unfold sgs; rw [List.filterMap_cons, e]
      have ht : i.text = s.text := by unfold It.text; rw [e]
      rw [this, ht]
      have : sumL (s :: sgs is) = s.text.length + sumL (sgs is) := by simp [sumL]
      omega
def psi (k : Nat) : Nat := if k % 4 = 0 then 0 else if k % 4 = 1 then 5 else if k % 4 = 2 then 10 else 11
theorem blank_psi (k : Nat) : 2 * (blankG k).length + psi (k + 1) ≤ 7 + psi k := by
  have h : k % 4 = 0 ∨ k % 4 = 1 ∨ k % 4 = 2 ∨ k % 4 = 3 := by omega
  unfold blankG psi
  rcases h with h | h | h | h
  · have : (k + 1) % 4 = 1 := by omega
    simp [h, this]
  · have : (k + 1) % 4 = 2 := by omega
    simp [h, this]
  · have : (k + 1) % 4 = 3 := by omega
    simp [h, this]
  · have : (k + 1) % 4 = 0 := by omega
    simp [h, this]
theorem blank_len (k : Nat) : (blankG k).length ≤ 9 := by unfold blankG; (repeat' split) <;> simp
theorem withB_len : ∀ (ss : List Sg) (k : Nat), 2 * (flat (withB k ss)).length ≤ 2 * sumL ss + 7 * ss.length + psi k + 18
  | [], k => by
    have := blank_len k
    rw [withB, flat_g, flat_nil]; simp [sumL]; omega
  | s :: ss, k => by
    have ih := withB_len ss (k + 1)
    have hp := blank_psi k
    rw [withB, flat_g, flat_s]
    have : sumL (s :: ss) = s.text.length + sumL ss := by simp [sumL]
    simp only [List.length_append, List.length_cons]
    omega
theorem made_blanks (ns : List UInt8) (h : ns.length ≤ 300) (k : Nat) : (flat (withB k (sgs (pits 13 5 (makeM ns))))).length ≤ 65536 ∧ ∃ q, parseP (flat (withB k (sgs (pits 13 5 (makeM ns))))) = .ok q ∧ eqP 13 5 q (makeM ns) := by
  have hg := made_gP ns
  have hT := made_toks 5 ns h
  have hL := made_len 5 ns h
  rw [← pits_flat 13 5 _ hg] at hL
  have hS := sumL_flat (pits 13 5 (makeM ns))
  have hW := withB_len (sgs (pits 13 5 (makeM ns))) k
  have hpsi : psi k ≤ 11 := by unfold psi; (repeat' split) <;> omega
  have hl : (flat (withB k (sgs (pits 13 5 (makeM ns))))).length ≤ 65536 := by omega
  exact ⟨hl, items_back 13 5 _ hg _ (withB_ok _ k (pits_free 13 5 _ hg)) (withB_sgs _ _) hl⟩
end Go.Proofs.YtfginegegaokbaaGreatDoor.Pr
