/- A statement's text as signs and gaps, and that these signs are read as that statement; likewise blocks, declarations, programs. Plain. -/
import Derived.Test.YtfginegegaokbaaGreatDoorPExprBack
namespace Go.Proofs.YtfginegegaokbaaGreatDoor.Pr
open Go.Lib (decDigits itoa)
open Lx (Tok)
set_option linter.unusedVariables false
set_option linter.unusedSimpArgs false

/-- A statement that has a text: so deep; m: how deep its expressions are. -/
def gS (m : Nat) : Nat → Stm → Prop
  | 0, _ => False
  | n + 1, s =>
    (s.kind = 0 ∧ isName s.name ∧ (∃ e, s.exprs = [e] ∧ gT m e) ∧ s.count = 0 ∧ s.body = [] ∧ s.els = []) ∨
    (s.kind = 1 ∧ isName s.name ∧ (∃ e, s.exprs = [e] ∧ gT m e) ∧ s.count = 0 ∧ s.body = [] ∧ s.els = []) ∨
    (s.kind = 2 ∧ isName s.name ∧ (∃ a b, s.exprs = [a, b] ∧ gT m a ∧ gT m b) ∧ s.count = 0 ∧ s.body = [] ∧ s.els = []) ∨
    (s.kind = 3 ∧ s.name = ⟨#[]⟩ ∧ (∃ e, s.exprs = [e] ∧ gT m e) ∧ s.count = 0 ∧ (∀ x ∈ s.body, gS m n x) ∧ ∀ x ∈ s.els, gS m n x) ∨
    (s.kind = 4 ∧ isName s.name ∧ s.exprs = [] ∧ (∃ c : Nat, s.count = c ∧ 1 ≤ c ∧ c ≤ 256) ∧ (∀ x ∈ s.body, gS m n x) ∧ s.els = []) ∨
    (s.kind = 5 ∧ isName s.name ∧ s.exprs = [] ∧ s.count = 0 ∧ s.body = [] ∧ s.els = []) ∨
    (s.kind = 6 ∧ isName s.name ∧ s.exprs = [] ∧ s.count = 0 ∧ s.body = [] ∧ s.els = []) ∨
    (s.kind = 7 ∧ isName s.name ∧ (∃ e, s.exprs = [e] ∧ gT m e) ∧ s.count = 0 ∧ s.body = [] ∧ s.els = []) ∨
    (s.kind = 8 ∧ s.name = ⟨#[]⟩ ∧ s.exprs = [] ∧ s.count = 0 ∧ s.body = [] ∧ s.els = []) ∨
    (s.kind = 9 ∧ s.name = ⟨#[]⟩ ∧ (∃ e, s.exprs = [e] ∧ gT m e) ∧ s.count = 0 ∧ s.body = [] ∧ s.els = [])
/-- It goes no deeper than is allowed. -/
def fitS (m : Nat) : Nat → Nat → Stm → Prop
  | 0, _, _ => False
  | n + 1, deep, s => deep ≤ 40 ∧ (∀ e ∈ s.exprs, deep + 1 + dpE m e 0 ≤ 40) ∧ (∀ x ∈ s.body, fitS m n (deep + 1) x) ∧ ∀ x ∈ s.els, fitS m n (deep + 1) x

def ends : List It := [iS (sn [59]), iG [10]]
def eit (m : Nat) (es : List Tree) (i : Nat) : List It := match es[i]? with | some e => eits m e 0 | none => []
/-- A statement's signs and gaps. -/
def sits (m : Nat) : Nat → Nat → Stm → List It
  | 0, _, _ => []
  | n + 1, d, s =>
    let blk : Nat → List Stm → List It := fun d ss => (ss.map fun x => sits m n d x).flatten
    if s.kind = 0 then [iG (tabs d), iS (kw kLocal), iG [32], iS (wd s.name), iG [32], iS (sn [61]), iG [32]] ++ eit m s.exprs 0 ++ ends
    else if s.kind = 1 then [iG (tabs d), iS (wd s.name), iG [32], iS (sn [61]), iG [32]] ++ eit m s.exprs 0 ++ ends
    else if s.kind = 2 then [iG (tabs d), iS (wd s.name), iS (sn [91])] ++ eit m s.exprs 0 ++ [iS (sn [93]), iG [32], iS (sn [61]), iG [32]] ++ eit m s.exprs 1 ++ ends
    else if s.kind = 3 then [iG (tabs d), iS (kw kIf), iG [32], iS (sn [40])] ++ eit m s.exprs 0 ++ [iS (sn [41]), iG [32], iS (sn [123]), iG [10]] ++ blk (d + 1) s.body ++
      (if s.els.length = 0 then [] else [iG (tabs d), iS (sn [125]), iG [32], iS (kw kElse), iG [32], iS (sn [123]), iG [10]] ++ blk (d + 1) s.els) ++ [iG (tabs d), iS (sn [125]), iG [10]]
    else if s.kind = 4 then [iG (tabs d), iS (kw kLoop), iG [32], iS (wd s.name), iG [32], iS (dg s.count.toNat), iG [32], iS (sn [123]), iG [10]] ++ blk (d + 1) s.body ++ [iG (tabs d), iS (sn [125]), iG [10]]
    else if s.kind = 5 then [iG (tabs d), iS (kw kTake), iG [32], iS (wd s.name)] ++ ends
    else if s.kind = 6 then [iG (tabs d), iS (kw kGive), iG [32], iS (wd s.name)] ++ ends
    else if s.kind = 7 then [iG (tabs d), iS (kw kAdd), iG [32], iS (wd s.name), iG [32]] ++ eit m s.exprs 0 ++ ends
    else if s.kind = 8 then [iG (tabs d), iS (kw kFence)] ++ ends
    else [iG (tabs d), iS (kw kOutput), iG [32]] ++ eit m s.exprs 0 ++ ends
def bits (m n d : Nat) (ss : List Stm) : List It := (ss.map fun x => sits m n d x).flatten
theorem sits_0 {m n d : Nat} {s : Stm} (h : s.kind = 0) : sits m (n + 1) d s = [iG (tabs d), iS (kw kLocal), iG [32], iS (wd s.name), iG [32], iS (sn [61]), iG [32]] ++ eit m s.exprs 0 ++ ends := by unfold sits; simp only [h]; rfl
theorem sits_1 {m n d : Nat} {s : Stm} (h : s.kind = 1) : sits m (n + 1) d s = [iG (tabs d), iS (wd s.name), iG [32], iS (sn [61]), iG [32]] ++ eit m s.exprs 0 ++ ends := by unfold sits; simp only [h]; rfl
theorem sits_2 {m n d : Nat} {s : Stm} (h : s.kind = 2) : sits m (n + 1) d s = [iG (tabs d), iS (wd s.name), iS (sn [91])] ++ eit m s.exprs 0 ++ [iS (sn [93]), iG [32], iS (sn [61]), iG [32]] ++ eit m s.exprs 1 ++ ends := by unfold sits; simp only [h]; rfl
theorem sits_3 {m n d : Nat} {s : Stm} (h : s.kind = 3) : sits m (n + 1) d s = [iG (tabs d), iS (kw kIf), iG [32], iS (sn [40])] ++ eit m s.exprs 0 ++ [iS (sn [41]), iG [32], iS (sn [123]), iG [10]] ++ bits m n (d + 1) s.body ++ (if s.els.length = 0 then [] else [iG (tabs d), iS (sn [125]), iG [32], iS (kw kElse), iG [32], iS (sn [123]), iG [10]] ++ bits m n (d + 1) s.els) ++ [iG (tabs d), iS (sn [125]), iG [10]] := by unfold sits; simp only [h]; rfl
theorem sits_4 {m n d : Nat} {s : Stm} (h : s.kind = 4) : sits m (n + 1) d s = [iG (tabs d), iS (kw kLoop), iG [32], iS (wd s.name), iG [32], iS (dg s.count.toNat), iG [32], iS (sn [123]), iG [10]] ++ bits m n (d + 1) s.body ++ [iG (tabs d), iS (sn [125]), iG [10]] := by unfold sits; simp only [h]; rfl
theorem sits_5 {m n d : Nat} {s : Stm} (h : s.kind = 5) : sits m (n + 1) d s = [iG (tabs d), iS (kw kTake), iG [32], iS (wd s.name)] ++ ends := by unfold sits; simp only [h]; rfl
theorem sits_6 {m n d : Nat} {s : Stm} (h : s.kind = 6) : sits m (n + 1) d s = [iG (tabs d), iS (kw kGive), iG [32], iS (wd s.name)] ++ ends := by unfold sits; simp only [h]; rfl
theorem sits_7 {m n d : Nat} {s : Stm} (h : s.kind = 7) : sits m (n + 1) d s = [iG (tabs d), iS (kw kAdd), iG [32], iS (wd s.name), iG [32]] ++ eit m s.exprs 0 ++ ends := by unfold sits; simp only [h]; rfl
theorem sits_8 {m n d : Nat} {s : Stm} (h : s.kind = 8) : sits m (n + 1) d s = [iG (tabs d), iS (kw kFence)] ++ ends := by unfold sits; simp only [h]; rfl
theorem sits_9 {m n d : Nat} {s : Stm} (h : s.kind = 9) : sits m (n + 1) d s = [iG (tabs d), iS (kw kOutput), iG [32]] ++ eit m s.exprs 0 ++ ends := by unfold sits; simp only [h]; rfl
theorem bits_cons (m n d : Nat) (s : Stm) (ss : List Stm) : bits m n d (s :: ss) = sits m n d s ++ bits m n d ss := by simp [bits]
theorem flat_bits (m n d : Nat) : ∀ ss : List Stm, (∀ s ∈ ss, flat (sits m n d s) = stext m n d s) → flat (bits m n d ss) = btext m n d ss
  | [], _ => rfl
  | s :: ss, h => by
    rw [bits_cons, flat_append, h s (by simp), flat_bits m n d ss (fun x hx => h x (by simp [hx]))]
    simp [btext]
theorem eit_flat {m : Nat} {es : List Tree} {i : Nat} {e : Tree} (h : es[i]? = some e) (hg : gT m e) : flat (eit m es i) = epart m es i 0 := by
  unfold eit; rw [h, epart_some h]; exact eits_flat m e 0 hg
theorem flat_s (s : Sg) (is : List It) : flat (iS s :: is) = s.text ++ flat is := flat_cons _ _
theorem flat_g (g : List UInt8) (is : List It) : flat (iG g :: is) = g ++ flat is := flat_cons _ _
theorem sits_flat (m : Nat) : ∀ (n d : Nat) (s : Stm), gS m n s → flat (sits m n d s) = stext m n d s
  | 0, _, _, h => h.elim
  | n + 1, d, s, h => by
    have hb : ∀ (d : Nat) (ss : List Stm), (∀ x ∈ ss, gS m n x) → flat (bits m n d ss) = btext m n d ss := fun d ss hs => flat_bits m n d ss fun x hx => sits_flat m n d x (hs x hx)
    rcases h with ⟨h, _, ⟨e, he, hg⟩, _⟩ | ⟨h, _, ⟨e, he, hg⟩, _⟩ | ⟨h, _, ⟨a, b, he, ha, hb'⟩, _⟩ | ⟨h, _, ⟨e, he, hg⟩, _, h1, h2⟩ | ⟨h, _, _, ⟨c, hc, _⟩, h1, _⟩ | ⟨h, _⟩ | ⟨h, _⟩ | ⟨h, _, ⟨e, he, hg⟩, _⟩ | ⟨h, _⟩ | ⟨h, _, ⟨e, he, hg⟩, _⟩
    · have := eit_flat (m := m) (es := s.exprs) (i := 0) (by rw [he]; rfl) hg
      rw [sits_0 h, stext_0 m n d s h]
      simp only [flat_append, this]
      simp [flat_s, flat_g, flat_nil, valueT, kw, wd, sn, kLocal, sLocal, sIs, ends]
    · have := eit_flat (m := m) (es := s.exprs) (i := 0) (by rw [he]; rfl) hg
      rw [sits_1 h, stext_1 m n d s h]
      simp only [flat_append, this]
      simp [flat_s, flat_g, flat_nil, valueT, kw, wd, sn, sIs, ends]
    · have e0 := eit_flat (m := m) (es := s.exprs) (i := 0) (by rw [he]; rfl) ha
      have e1 := eit_flat (m := m) (es := s.exprs) (i := 1) (by rw [he]; rfl) hb'
      rw [sits_2 h, stext_2 m n d s h]
      simp only [flat_append, e0, e1]
      simp [flat_s, flat_g, flat_nil, cellText, kw, wd, sn, sIs, ends]
    · have := eit_flat (m := m) (es := s.exprs) (i := 0) (by rw [he]; rfl) hg
      rw [sits_3 h, stext_3 m n d s h]
      unfold choiceT
      have e3 : flat (if s.els.length = 0 then [] else [iG (tabs d), iS (sn [125]), iG [32], iS (kw kElse), iG [32], iS (sn [123]), iG [10]] ++ bits m n (d + 1) s.els) = if s.els.length = 0 then [] else lineT d sElse ++ btext m n (d + 1) s.els := by
        split
        · rfl
        · rw [flat_append, hb _ _ h2]; simp [flat_s, flat_g, flat_nil, kw, sn, lineT, sElse, kElse]
      simp only [flat_append, this, hb _ _ h1, e3]
      simp [flat_s, flat_g, flat_nil, kw, wd, sn, sIf, kIf, sThen, lineT]
    · rw [sits_4 h, stext_4 m n d s h]
      simp only [flat_append, hb _ _ h1]
      have : itoa s.count = decDigits s.count.toNat := by unfold itoa; rw [if_neg (by omega)]
      simp [flat_s, flat_g, flat_nil, kw, wd, sn, dg, sLoop, kLoop, lineT, this]
    · rw [stext_5 m n d s h, sits_5 h]; simp [flat_append, flat_s, flat_g, flat_nil, kw, wd, sn, sTake, kTake, lineT, ends]
    · rw [stext_6 m n d s h, sits_6 h]; simp [flat_append, flat_s, flat_g, flat_nil, kw, wd, sn, sGive, kGive, lineT, ends]
    · have := eit_flat (m := m) (es := s.exprs) (i := 0) (by rw [he]; rfl) hg
      rw [sits_7 h, stext_7 m n d s h]
      simp only [flat_append, this]
      simp [flat_s, flat_g, flat_nil, valueT, kw, wd, sn, kAdd, sAdd, ends]
    · rw [stext_8 m n d s h, sits_8 h]; simp [flat_append, flat_s, flat_g, flat_nil, kw, wd, sn, sFence, kFence, lineT, ends]
    · have := eit_flat (m := m) (es := s.exprs) (i := 0) (by rw [he]; rfl) hg
      rw [sits_9 h, stext_9 m n d s (by rw [h]; decide) (by rw [h]; decide) (by rw [h]; decide) (by rw [h]; decide) (by rw [h]; decide) (by rw [h]; decide) (by rw [h]; decide) (by rw [h]; decide) (by rw [h]; decide)]
      simp only [flat_append, this]
      simp [flat_s, flat_g, flat_nil, valueT, kw, wd, sn, kOutput, sOutput, ends]

/-! its signs are read -/
theorem gap_tabs (d : Nat) : isGap (tabs d) := by
  induction d with
  | zero => exact gap_nil
  | succ d ih =>
    have e : tabs (d + 1) = [9] ++ tabs d := rfl
    rw [e]; exact gap_append (gap_of (by decide) (by decide)) ih
theorem gap_line : isGap [10] := gap_of (by decide) (by decide)
theorem ok_ends (l : List UInt8) : okF ends l := okF_s (reads_one (by decide) (by decide) _) (okF_g gap_line trivial)
theorem ok_kw {x : List UInt8} (h : (match x with | c :: _ => Lx.letterB (Lx.num c) | [] => false) = true) (h2 : x.all (fun c => Lx.wordB (Lx.num c)) = true) (hk : Lx.keyB x = true) {is : List It} {l : List UInt8} (hs : soft (flat is ++ l) = true) (hi : okF is l) : okF (iS (kw x) :: is) l :=
  okF_s (reads_kw (wordText_of h h2) hk hs) hi
theorem ok_wd {s : ByteArray} (h : isName s) {is : List It} {l : List UInt8} (hs : soft (flat is ++ l) = true) (hi : okF is l) : okF (iS (wd s) :: is) l := okF_s (reads_wd h hs) hi
theorem ok_one {c : UInt8} (h : c ≠ 60 ∧ c ≠ 61 ∧ c ≠ 62) (hs : Lx.signList.contains c = true) {is : List It} {l : List UInt8} (hi : okF is l) : okF (iS (sn [c]) :: is) l := okF_s (reads_one h hs _) hi
theorem ok_is {is : List It} {l : List UInt8} (hi : okF is l) : okF (iS (sn [61]) :: iG [32] :: is) l := okF_s (reads_thin (by decide) _) (okF_g gap_blank hi)
theorem eit_ok {m : Nat} {es : List Tree} {i : Nat} {e : Tree} (h : es[i]? = some e) (hg : gT m e) {l : List UInt8} (hs : soft l = true) : okF (eit m es i) l := by unfold eit; rw [h]; exact eits_ok m e 0 l hg hs
theorem bits_ok {m n d : Nat} : ∀ (ss : List Stm) (l : List UInt8), (∀ s ∈ ss, ∀ l, okF (sits m n d s) l) → okF (bits m n d ss) l
  | [], _, _ => trivial
  | s :: ss, l, h => by rw [bits_cons]; exact okF_append _ _ _ (h s (by simp) _) (bits_ok ss l fun x hx => h x (by simp [hx]))
theorem sits_ok (m : Nat) : ∀ (n d : Nat) (s : Stm) (l : List UInt8), gS m n s → okF (sits m n d s) l
  | 0, _, _, _, h => h.elim
  | n + 1, d, s, l, h => by
    have hb : ∀ (d : Nat) (ss : List Stm) (l : List UInt8), (∀ x ∈ ss, gS m n x) → okF (bits m n d ss) l := fun d ss l hs => bits_ok ss l fun x hx l => sits_ok m n d x l (hs x hx)
    have ht := gap_tabs d
    have hclose : ∀ l, okF [iG (tabs d), iS (sn [125]), iG [10]] l := fun l => okF_g ht (ok_one (by decide) (by decide) (okF_g gap_line trivial))
    rcases h with ⟨h, hn, ⟨e, he, hg⟩, _⟩ | ⟨h, hn, ⟨e, he, hg⟩, _⟩ | ⟨h, hn, ⟨a, b, he, ha, hb'⟩, _⟩ | ⟨h, _, ⟨e, he, hg⟩, _, h1, h2⟩ | ⟨h, hn, _, ⟨c, hc, _, hc2⟩, h1, _⟩ | ⟨h, hn, _⟩ | ⟨h, hn, _⟩ | ⟨h, hn, ⟨e, he, hg⟩, _⟩ | ⟨h, _⟩ | ⟨h, _, ⟨e, he, hg⟩, _⟩
    · have e0 : ∀ {l}, soft l = true → okF (eit m s.exprs 0) l := fun hl => eit_ok (by rw [he]; rfl) hg hl
      rw [sits_0 h]
      exact okF_append _ _ _ (okF_append _ _ _ (okF_g ht (ok_kw (by decide) (by decide) (by decide) rfl (okF_g gap_blank (ok_wd hn rfl (okF_g gap_blank (ok_is trivial)))))) (e0 rfl)) (ok_ends l)
    · have e0 : ∀ {l}, soft l = true → okF (eit m s.exprs 0) l := fun hl => eit_ok (by rw [he]; rfl) hg hl
      rw [sits_1 h]
      exact okF_append _ _ _ (okF_append _ _ _ (okF_g ht (ok_wd hn rfl (okF_g gap_blank (ok_is trivial)))) (e0 rfl)) (ok_ends l)
    · have e0 : ∀ {l}, soft l = true → okF (eit m s.exprs 0) l := fun hl => eit_ok (by rw [he]; rfl) ha hl
      have e1 : ∀ {l}, soft l = true → okF (eit m s.exprs 1) l := fun hl => eit_ok (by rw [he]; rfl) hb' hl
      rw [sits_2 h]
      exact okF_append _ _ _ (okF_append _ _ _ (okF_append _ _ _ (okF_append _ _ _ (okF_g ht (ok_wd hn rfl (ok_one (by decide) (by decide) trivial))) (e0 rfl)) (ok_one (by decide) (by decide) (okF_g gap_blank (ok_is trivial)))) (e1 rfl)) (ok_ends l)
    · have e0 : ∀ {l}, soft l = true → okF (eit m s.exprs 0) l := fun hl => eit_ok (by rw [he]; rfl) hg hl
      rw [sits_3 h]
      refine okF_append _ _ _ (okF_append _ _ _ (okF_append _ _ _ (okF_append _ _ _ (okF_append _ _ _ (okF_g ht (ok_kw (by decide) (by decide) (by decide) rfl (okF_g gap_blank (ok_one (by decide) (by decide) trivial)))) (e0 rfl)) (ok_one (by decide) (by decide) (okF_g gap_blank (ok_one (by decide) (by decide) (okF_g gap_line trivial))))) (hb _ _ _ h1)) ?_) (hclose l)
      split
      · trivial
      · exact okF_append _ _ _ (okF_g ht (ok_one (by decide) (by decide) (okF_g gap_blank (ok_kw (by decide) (by decide) (by decide) rfl (okF_g gap_blank (ok_one (by decide) (by decide) (okF_g gap_line trivial))))))) (hb _ _ _ h2)
    · rw [sits_4 h]
      exact okF_append _ _ _ (okF_append _ _ _ (okF_g ht (ok_kw (by decide) (by decide) (by decide) rfl (okF_g gap_blank (ok_wd hn rfl (okF_g gap_blank (okF_s (reads_dg (by omega) rfl) (okF_g gap_blank (ok_one (by decide) (by decide) (okF_g gap_line trivial))))))))) (hb _ _ _ h1)) (hclose l)
    · rw [sits_5 h]
      exact okF_append _ _ _ (okF_g ht (ok_kw (by decide) (by decide) (by decide) rfl (okF_g gap_blank (ok_wd hn rfl trivial)))) (ok_ends l)
    · rw [sits_6 h]
      exact okF_append _ _ _ (okF_g ht (ok_kw (by decide) (by decide) (by decide) rfl (okF_g gap_blank (ok_wd hn rfl trivial)))) (ok_ends l)
    · have e0 : ∀ {l}, soft l = true → okF (eit m s.exprs 0) l := fun hl => eit_ok (by rw [he]; rfl) hg hl
      rw [sits_7 h]
      exact okF_append _ _ _ (okF_append _ _ _ (okF_g ht (ok_kw (by decide) (by decide) (by decide) rfl (okF_g gap_blank (ok_wd hn rfl (okF_g gap_blank trivial))))) (e0 rfl)) (ok_ends l)
    · rw [sits_8 h]
      exact okF_append _ _ _ (okF_g ht (ok_kw (by decide) (by decide) (by decide) rfl trivial)) (ok_ends l)
    · have e0 : ∀ {l}, soft l = true → okF (eit m s.exprs 0) l := fun hl => eit_ok (by rw [he]; rfl) hg hl
      rw [sits_9 h]
      exact okF_append _ _ _ (okF_append _ _ _ (okF_g ht (ok_kw (by decide) (by decide) (by decide) rfl (okF_g gap_blank trivial))) (e0 rfl)) (ok_ends l)
end Go.Proofs.YtfginegegaokbaaGreatDoor.Pr
