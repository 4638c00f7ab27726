/- Own texts laid together: PCount, PCount2, PSame, PBroken. Conditions: as each theorem says. -/
import Derived.Test.YtfginegegaokbaaGreatDoorGPPlainB
import Derived.Test.YtfginegegaokbaaGreatDoorGPProgA
import Derived.Test.YtfginegegaokbaaGreatDoorGSameA
import Derived.Test.YtfginegegaokbaaGreatDoorGPBackAll
import Derived.Test.YtfginegegaokbaaGreatDoorGWMadeA
set_option linter.unusedVariables false
set_option linter.unusedSimpArgs false
namespace Go.Proofs.YtfginegegaokbaaGreatDoor.Pr
open Go.Lib (decDigits itoa)
open Lx (Tok)
def npB (k : Nat) (x : List UInt8) : Nat := if k = 0 \/ x = [40] \/ x = [41] then 0 else 1
def np (t : Tok) : Nat := npB t.kind t.text
def Nt (ts : List Tok) : Nat := (ts.map np).sum
theorem Nt_cons (t : Tok) (ts : List Tok) : Nt (t :: ts) = np t + Nt ts := by simp [Nt]
theorem Nt_append (a b : List Tok) : Nt (a ++ b) = Nt a + Nt b := by simp [Nt]
def GN (r : Rd) : Prop := GG r /\ ∀ t ∈ r.ts, t.kind = 3 -> t.text ≠ [40] /\ t.text ≠ [41]
theorem GN.on {r r' : Rd} (h : GN r) (hs : r.suf r') (ht : r.to r') : GN r' := ⟨h.1.on hs ht, fun t m => h.2 t (by obtain ⟨us, e⟩ := hs; rw [e]; simp [m])⟩
theorem GN.here {r : Rd} (h : GN r) : r.here.kind = 3 -> r.here.text ≠ [40] /\ r.here.text ≠ [41] := h.2 _ (by rw [h.1.1.cons]; simp)
theorem nt_next {r : Rd} (hg : GN r) (hk : r.here.kind ≠ 0) : Nt r.ts = np r.here + Nt r.next.ts := by
  rcases good_cases hg.1.1 with ⟨k, _, e⟩ | ⟨_, _, _, _, h2, h3⟩
  · exact absurd (by rw [e]; rfl) hk
  · have e : Nt r.ts = Nt (r.here :: r.ts.drop 1) := congrArg Nt hg.1.1.cons
    rw [e, Nt_cons, h2]
theorem np_one {t : Tok} (hk : t.kind ≠ 0) (h1 : t.text ≠ [40]) (h2 : t.text ≠ [41]) : np t = 1 := by unfold np npB; rw [if_neg (by simp [hk, h1, h2])]
theorem np_text {r : Rd} (hg : GN r) {s : List UInt8} (ht : r.here.text = s) (h0 : s ≠ []) (h1 : s ≠ [40]) (h2 : s ≠ [41]) : Nt r.ts = 1 + Nt r.next.ts := by
  have hk := text_kind hg.1 (by rw [ht]; exact h0)
  rw [nt_next hg hk, np_one hk (by rw [ht]; exact h1) (by rw [ht]; exact h2)]
theorem np_paren {r : Rd} (hg : GN r) (ht : r.here.text = [40] \/ r.here.text = [41]) : Nt r.ts = Nt r.next.ts := by
  have hk := text_kind hg.1 (by rcases ht with h | h <;> (rw [h]; simp))
  rw [nt_next hg hk]
  have : np r.here = 0 := by unfold np npB; rw [if_pos (.inr ht)]
  omega
theorem nt_want {r : Rd} (hg : GN r) {s : List UInt8} (h0 : s ≠ []) (h1 : s ≠ [40]) (h2 : s ≠ [41]) (he : (r.want s).err = none) : Nt r.ts = 1 + Nt (r.want s).ts := by
  obtain ⟨h, e⟩ := want_is he
  rw [e]; exact np_text hg (is_text h) h0 h1 h2
theorem nt_wantp {r : Rd} (hg : GN r) {s : List UInt8} (hs : s = [40] \/ s = [41]) (he : (r.want s).err = none) : Nt r.ts = Nt (r.want s).ts := by
  obtain ⟨h, e⟩ := want_is he
  rw [e]; exact np_paren hg (by rw [is_text h]; exact hs)
theorem np_name {r : Rd} (hg : GN r) (h : r.here.kind = 1) : Nt r.ts = 1 + Nt r.next.ts := by
  have hn : isName (bstr r.here.text) := hg.1.here.1 h
  have hk : r.here.kind ≠ 0 := by rw [h]; decide
  rw [nt_next hg hk, np_one hk (word_ne (s := bstr r.here.text) hn (x := [40]) (by decide)) (word_ne (s := bstr r.here.text) hn (x := [41]) (by decide))]

def cE : Nat -> Tree -> Nat
  | 0, _ => 0
  | n + 1, t =>
    let pt : Nat -> Nat := fun i => match t.kids[i]? with | some k => cE n k | none => 0
    if t.kind = 2 then 3 + pt 0
    else if t.kind = 3 then 1 + pt 0 + pt 1
    else if t.kind = 4 then 1 + pt 0
    else if t.kind = 5 then 3 + pt 0 + pt 1 + pt 2
    else 1
theorem c_0 {n : Nat} {t : Tree} (h : t.kind = 0 \/ t.kind = 1) : cE (n + 1) t = 1 := by rcases h with h | h <;> simp [cE, h]
theorem c_2 {n : Nat} {t a : Tree} (h : t.kind = 2) (hk : t.kids = [a]) : cE (n + 1) t = 3 + cE n a := by simp [cE, h, hk]
theorem c_3 {n : Nat} {t a b : Tree} (h : t.kind = 3) (hk : t.kids = [a, b]) : cE (n + 1) t = 1 + cE n a + cE n b := by simp [cE, h, hk]
theorem c_4 {n : Nat} {t a : Tree} (h : t.kind = 4) (hk : t.kids = [a]) : cE (n + 1) t = 1 + cE n a := by simp [cE, h, hk]
theorem c_5 {n : Nat} {t a b c : Tree} (h : t.kind = 5) (hk : t.kids = [a, b, c]) : cE (n + 1) t = 3 + cE n a + cE n b + cE n c := by simp [cE, h, hk]
def OkN (t : Tree) (r r' : Rd) : Prop := ∃ n, n + r'.ts.length <= r.ts.length /\ ∀ m, n <= m -> Nt r.ts = cE m t + Nt r'.ts
def ExN (ex : ExP) : Prop := ∀ tight deep r, GN r -> (ex tight deep r).2.err = none -> OkN (ex tight deep r).1 r (ex tight deep r).2
def UnN (un : Nat -> Rd -> Tree × Rd) : Prop := ∀ deep r, GN r -> (un deep r).2.err = none -> OkN (un deep r).1 r (un deep r).2
theorem un_n {ex : ExP} {un : Nat -> Rd -> Tree × Rd} (hE : ToE ex) (hU : ∀ d r, Rd.to r (un d r).2) (sE : SfE ex) (sU : ∀ d r, Rd.suf r (un d r).2) (h : ExN ex) (hu : UnN un) : UnN (unaryOf ex un) := by
  intro deep r hg he
  unfold unaryOf at he ⊢
  by_cases hb : beginsB r.here = false
  · rw [if_pos hb] at he; exact (fail_no he).elim
  rw [if_neg hb] at he ⊢
  by_cases hd : 40 < deep
  · rw [if_pos hd] at he; exact (fail_no he).elim
  rw [if_neg hd] at he ⊢
  have hk0 : r.here.kind ≠ 0 := by
    rcases good_cases hg.1.1 with ⟨j, _, e⟩ | ⟨h, _⟩
    · exfalso; apply hb; rw [e]; rfl
    · exact h
  have E1 := (eats_next hg.1 hk0).1
  have g1 : GN r.next := hg.on (sf_next r) (to_next r)
  by_cases h1 : r.here.text = [126]
  · rw [if_pos h1] at he ⊢
    obtain ⟨n, hn, c⟩ := hu (deep + 1) r.next g1 he
    have N1 := np_text hg h1 (by simp) (by simp) (by simp)
    refine ⟨n + 1, by dsimp only; omega, fun m hm => ?_⟩
    obtain ⟨m, rfl, hm'⟩ := succ_of hm
    rw [c_4 (a := (un (deep + 1) r.next).1) rfl rfl]
    have := c m hm'
    dsimp only
    omega
  rw [if_neg h1] at he ⊢
  by_cases h2 : r.here.text = kPick
  · rw [if_pos h2] at he ⊢
    unfold threeOf at he ⊢
    dsimp only at he ⊢
    have e6 := err_back (to_want [41] _) he
    have e5 := err_back (hE 0 (deep + 1) _) e6
    have e4 := err_back (to_want [44] _) e5
    have e3 := err_back (hE 0 (deep + 1) _) e4
    have e2 := err_back (to_want [44] _) e3
    have e1 := err_back (hE 0 (deep + 1) _) e2
    have N1 := np_text hg h2 (by decide) (by decide) (by decide)
    have N2 := nt_wantp g1 (.inl rfl) e1
    have L2 := (eats_want g1.1 (by simp) e1).1
    have g2 := g1.on (sf_want [40] _) (to_want [40] _)
    obtain ⟨na, ea, ca⟩ := h 0 (deep + 1) _ g2 e2
    have g3 := g2.on (sE 0 (deep + 1) _) (hE 0 (deep + 1) _)
    have N3 := nt_want g3 (by simp) (by simp) (by simp) e3
    have L3 := (eats_want g3.1 (by simp) e3).1
    have g4 := g3.on (sf_want [44] _) (to_want [44] _)
    obtain ⟨nb, eb, cb⟩ := h 0 (deep + 1) _ g4 e4
    have g5 := g4.on (sE 0 (deep + 1) _) (hE 0 (deep + 1) _)
    have N4 := nt_want g5 (by simp) (by simp) (by simp) e5
    have L4 := (eats_want g5.1 (by simp) e5).1
    have g6 := g5.on (sf_want [44] _) (to_want [44] _)
    obtain ⟨nc, ec, cc⟩ := h 0 (deep + 1) _ g6 e6
    have g7 := g6.on (sE 0 (deep + 1) _) (hE 0 (deep + 1) _)
    have N5 := nt_wantp g7 (.inr rfl) he
    have L5 := (eats_want g7.1 (by simp) he).1
    refine ⟨na + nb + nc + 1, by omega, fun m hm => ?_⟩
    obtain ⟨m, rfl, hm'⟩ := succ_of hm
    rw [c_5 rfl rfl]
    have := ca m (by omega)
    have := cb m (by omega)
    have := cc m (by omega)
    omega
  rw [if_neg h2] at he ⊢
  by_cases h3 : r.here.text = [40]
  · rw [if_pos h3] at he ⊢
    dsimp only at he ⊢
    have e1 := err_back (to_want [41] _) he
    obtain ⟨n, ea, c⟩ := h 0 (deep + 1) r.next g1 e1
    have g2 := g1.on (sE 0 (deep + 1) _) (hE 0 (deep + 1) _)
    have N1 := np_paren hg (.inl h3)
    have N2 := nt_wantp g2 (.inr rfl) he
    have L2 := (eats_want g2.1 (by simp) he).1
    exact ⟨n, by omega, fun m hm => by have := c m hm; omega⟩
  rw [if_neg h3] at he ⊢
  by_cases h4 : r.here.kind = 3
  · rw [if_pos h4] at he ⊢
    have N1 := nt_next hg hk0
    have : np r.here = 1 := np_one hk0 h3 (hg.here h4).2
    refine ⟨1, by dsimp only; omega, fun m hm => ?_⟩
    obtain ⟨m, rfl, hm'⟩ := succ_of hm
    rw [c_0 (.inl rfl)]
    dsimp only
    omega
  rw [if_neg h4] at he ⊢
  have h5 : r.here.kind = 1 := by
    have hb' : beginsB r.here = true := by simpa using hb
    unfold beginsB at hb'
    simp only [Bool.or_eq_true, beq_iff_eq] at hb'
    rcases hb' with (((h | h) | h) | h) | h
    · exact h
    · exact absurd h h4
    · exact absurd h h1
    · exact absurd h h3
    · exact absurd h h2
  have N1 := np_name hg h5
  unfold namedOf at he ⊢
  by_cases h6 : r.next.is [91] = true
  · rw [if_pos h6] at he ⊢
    dsimp only at he ⊢
    have ht := is_text h6
    have N2 := np_text g1 ht (by simp) (by simp) (by simp)
    have L2 := (eats_next g1.1 (text_kind g1.1 (by rw [ht]; simp))).1
    have g2 := g1.on (sf_next _) (to_next _)
    have e1 := err_back (to_want [93] _) he
    obtain ⟨n, ea, c⟩ := h 0 (deep + 1) r.next.next g2 e1
    have g3 := g2.on (sE 0 (deep + 1) _) (hE 0 (deep + 1) _)
    have N3 := nt_want g3 (by simp) (by simp) (by simp) he
    have L3 := (eats_want g3.1 (by simp) he).1
    refine ⟨n + 1, by omega, fun m hm => ?_⟩
    obtain ⟨m, rfl, hm'⟩ := succ_of hm
    rw [c_2 rfl rfl]
    have := c m hm'
    omega
  · rw [if_neg h6] at he ⊢
    refine ⟨1, by dsimp only; omega, fun m hm => ?_⟩
    obtain ⟨m, rfl, hm'⟩ := succ_of hm
    rw [c_0 (.inr rfl)]
    dsimp only
    omega
theorem loop_n {ex : ExP} (hE : ToE ex) (sE : SfE ex) (h : ExN ex) (tight deep : Nat) (r0 : Rd) : ∀ (k : Nat) (left : Tree) (r : Rd), OkN left r0 r -> GN r -> (loopOf ex tight deep k left r).2.err = none -> OkN (loopOf ex tight deep k left r).1 r0 (loopOf ex tight deep k left r).2
  | 0, left, r, hl, _, _ => hl
  | k + 1, left, r, hl, hg, he => by
    unfold loopOf at he ⊢
    by_cases hs : tightN (opOf r.here.text) <= tight
    · rw [if_pos hs] at he ⊢
      exact hl
    rw [if_neg hs] at he ⊢
    dsimp only at he ⊢
    have hop : ∀ x, opOf x = -1 -> r.here.text ≠ x := fun x hx e => hs (by rw [e, hx, show tightN (-1) = 0 from rfl]; exact Nat.zero_le _)
    have N1 := np_text hg rfl (hop [] rfl) (hop [40] (by decide)) (hop [41] (by decide))
    have L1 := (eats_next hg.1 (text_kind hg.1 (hop [] rfl))).1
    have g1 := hg.on (sf_next r) (to_next r)
    have e1 := err_back (to_loop hE tight deep k _ _) he
    obtain ⟨n2, ea2, c2⟩ := h (tightN (opOf r.here.text)) (deep + 1) r.next g1 e1
    have gq := g1.on (sE (tightN (opOf r.here.text)) (deep + 1) _) (hE (tightN (opOf r.here.text)) (deep + 1) _)
    obtain ⟨n1, ea1, c1⟩ := hl
    refine loop_n hE sE h tight deep r0 k _ _ ?_ gq he
    refine ⟨n1 + n2 + 1, by omega, fun m hm => ?_⟩
    obtain ⟨m, rfl, hm'⟩ := succ_of hm
    rw [c_3 (a := left) (b := (ex (tightN (opOf r.here.text)) (deep + 1) r.next).1) rfl rfl]
    have := c1 m (by omega)
    have := c2 m (by omega)
    omega
theorem pair_n : ∀ f, ExN (exprP f) /\ UnN (unaryP f)
  | 0 => ⟨fun t d r _ he => by
      have he' : (failU r).2.err = none := he
      unfold failU at he'
      simp only at he'
      split at he' <;> exact (fail_no he').elim, fun d r _ he => by
      have he' : (failU r).2.err = none := he
      unfold failU at he'
      simp only at he'
      split at he' <;> exact (fail_no he').elim⟩
  | f + 1 => by
    obtain ⟨h1, h2⟩ := pair_n f
    have tE := (to_pair f).1
    have tU := (to_pair f).2
    have sE := (sf_pair f).1
    have sU := (sf_pair f).2
    have hu : UnN (unaryP (f + 1)) := by rw [unaryP_succ]; exact un_n tE tU sE sU h1 h2
    have tU1 := (to_pair (f + 1)).2
    have sU1 := (sf_pair (f + 1)).2
    refine ⟨fun tight deep r hg he => ?_, hu⟩
    rw [exprP_succ] at he ⊢
    unfold exprOf at he ⊢
    have e1 := err_back (to_loop tE tight deep _ _ _) he
    have g1 := hg.on (sU1 deep r) (tU1 deep r)
    exact loop_n tE sE h1 tight deep r _ _ _ (hu deep r hg e1) g1 he

def cI (m : Nat) (es : List Tree) (i : Nat) : Nat := match es[i]? with | some e => cE m e | none => 0
def cS (m : Nat) : Nat -> Stm -> Nat
  | 0, _ => 0
  | n + 1, s =>
    let blk : List Stm -> Nat := fun ss => (ss.map fun x => cS m n x).sum
    if s.kind = 0 then 4 + cI m s.exprs 0
    else if s.kind = 1 then 3 + cI m s.exprs 0
    else if s.kind = 2 then 5 + cI m s.exprs 0 + cI m s.exprs 1
    else if s.kind = 3 then 3 + cI m s.exprs 0 + blk s.body + (if s.els.length = 0 then 0 else 3 + blk s.els)
    else if s.kind = 4 then 5 + blk s.body
    else if s.kind = 5 then 3
    else if s.kind = 6 then 3
    else if s.kind = 7 then 3 + cI m s.exprs 0
    else if s.kind = 8 then 2
    else 2 + cI m s.exprs 0
def cB (m n : Nat) (ss : List Stm) : Nat := (ss.map fun x => cS m n x).sum
theorem cB_cons (m n : Nat) (s : Stm) (ss : List Stm) : cB m n (s :: ss) = cS m n s + cB m n ss := by simp [cB]
theorem nt_name2 {r : Rd} (hg : GN r) (he : r.name.2.err = none) : Nt r.ts = 1 + Nt r.name.2.ts /\ GN r.name.2 := by
  have g2 := hg.on (sf_name r) (to_name r)
  unfold Rd.name at he ⊢
  by_cases h : r.here.kind = 1
  · rw [if_pos h]; exact ⟨np_name hg h, by have := g2; unfold Rd.name at this; rw [if_pos h] at this; exact this⟩
  · rw [if_neg h] at he; exact (fail_no he).elim
theorem nt_number {r : Rd} {most : Nat} (hg : GN r) (he : (r.number most).2.err = none) : Nt r.ts = 1 + Nt (r.number most).2.ts := by
  unfold Rd.number at he ⊢
  by_cases h : r.here.kind = 3
  · rw [if_pos h] at he ⊢
    have hk : r.here.kind ≠ 0 := by rw [h]; decide
    by_cases h2 : r.here.value < 1 \/ most < r.here.value
    · rw [if_pos h2] at he; exact (fail_no he).elim
    · rw [if_neg h2] at he ⊢
      rw [nt_next hg hk, np_one hk (hg.here h).1 (hg.here h).2]
  · rw [if_neg h] at he; exact (fail_no he).elim

theorem value_n {M : Nat} (hM : 65537 <= M) {deep : Nat} {s : Stm} {r : Rd} (hg : GN r) (hl : r.ts.length <= 65537) (he : (valueP deep s r).2.err = none) :
    ∃ e, (valueP deep s r).1 = { s with exprs := s.exprs ++ [e] } /\ Nt r.ts = cE M e + Nt (valueP deep s r).2.ts /\ GN (valueP deep s r).2 /\ (valueP deep s r).2.ts.length <= r.ts.length := by
  obtain ⟨n, hn, c⟩ := (pair_n (40 - deep)).1 0 (deep + 1) r hg he
  exact ⟨_, rfl, c M (by omega), hg.on (sf_value deep s r) (to_value deep s r), (to_value deep s r).2.1 hg.1.1⟩
def StN (M f : Nat) (st : Nat -> Rd -> Stm × Rd) : Prop := ∀ d r, GN r -> r.ts.length <= 65537 -> (st d r).2.err = none -> ∃ k, ∀ j, f <= j -> Nt r.ts = cS M j (st d r).1 + 3 * k + Nt (st d r).2.ts
def BlN (M f : Nat) (bl : BlP) : Prop := ∀ d r, GN r -> r.ts.length <= 65537 -> (bl d r).2.err = none -> ∃ k, ∀ j, f <= j -> Nt r.ts = 2 + cB M j (bl d r).1 + 3 * k + Nt (bl d r).2.ts
theorem len_to {r r' : Rd} (hg : GN r) (h : r.to r') (hl : r.ts.length <= 65537) : r'.ts.length <= 65537 := Nat.le_trans (h.2.1 hg.1.1) hl
theorem blk_n {M f : Nat} {st : Nat -> Rd -> Stm × Rd} (tS : ∀ d r, Rd.to r (st d r).2) (sS : ∀ d r, Rd.suf r (st d r).2) (h : StN M f st) (hlt : ∀ d r, GN r -> (st d r).2.err = none -> (st d r).2.ts.length + 1 <= r.ts.length) (d : Nat) : ∀ (k : Nat) (ss : List Stm) (r : Rd), GN r -> r.ts.length <= 65537 -> r.ts.length < k -> (blkLoop st d k ss r).2.err = none ->
    ∃ ss' j, (blkLoop st d k ss r).1 = ss ++ ss' /\ ∀ i, f <= i -> Nt r.ts = 1 + cB M i ss' + 3 * j + Nt (blkLoop st d k ss r).2.ts
  | 0, ss, r, _, _, hk, _ => by omega
  | k + 1, ss, r, hg, hl, hk, he => by
    rw [blkLoop] at he ⊢
    by_cases h1 : r.err.isSome = true
    · rw [if_pos h1] at he
      rw [he] at h1; cases h1
    rw [if_neg h1] at he ⊢
    by_cases h2 : r.is [125] = true
    · rw [if_pos h2] at he ⊢
      have N := np_text hg (is_text h2) (by simp) (by simp) (by simp)
      exact ⟨[], 0, by simp, fun i _ => by simp [cB]; omega⟩
    rw [if_neg h2] at he ⊢
    have e1 := err_back (to_blk tS d k _ _) he
    obtain ⟨j1, c1⟩ := h d r hg hl e1
    have gq := hg.on (sS d r) (tS d r)
    have hlen := hlt d r hg e1
    obtain ⟨ss', j2, h3, c2⟩ := blk_n tS sS h hlt d k (ss ++ [(st d r).1]) (st d r).2 gq (by omega) (by omega) he
    exact ⟨(st d r).1 :: ss', j1 + j2, by rw [h3, List.append_assoc]; rfl, fun i hi => by have := c1 i hi; have := c2 i hi; rw [cB_cons]; omega⟩
theorem block_n {M f : Nat} {st : Nat -> Rd -> Stm × Rd} (tS : ∀ d r, Rd.to r (st d r).2) (sS : ∀ d r, Rd.suf r (st d r).2) (h : StN M f st) (hlt : ∀ d r, GN r -> (st d r).2.err = none -> (st d r).2.ts.length + 1 <= r.ts.length) : BlN M f (blockOf st) := by
  intro d r hg hl he
  have he' : (blkLoop st d ((r.want [123]).ts.length + 1) [] (r.want [123])).2.err = none := he
  have e1 := err_back (to_blk tS d _ _ _) he'
  have N := nt_want hg (by simp) (by simp) (by simp) e1
  have g1 := hg.on (sf_want [123] r) (to_want [123] r)
  have l1 := len_to hg (to_want [123] r) hl
  obtain ⟨ss', j, h1, c⟩ := blk_n tS sS h hlt d _ [] (r.want [123]) g1 l1 (by omega) he'
  have e : (blockOf st d r).1 = ss' := by unfold blockOf; rw [h1]; rfl
  have e2 : (blockOf st d r).2 = (blkLoop st d ((r.want [123]).ts.length + 1) [] (r.want [123])).2 := rfl
  rw [e, e2]
  exact ⟨j, fun i hi => by have := c i hi; omega⟩
theorem stmt_less {bl : BlP} (tB : ToB bl) (d : Nat) (r : Rd) (hg : GN r) (he : (stmtOf bl d r).2.err = none) : (stmtOf bl d r).2.ts.length + 1 <= r.ts.length := by
  unfold stmtOf at he ⊢
  cases hk : kindP r.here with
  | none => rw [hk] at he; exact (fail_no he).elim
  | some k =>
    rw [hk] at he
    simp only at he ⊢
    by_cases hd : 40 < d
    · rw [if_pos hd] at he; exact (fail_no he).elim
    rw [if_neg hd] at he ⊢
    have L := (eats_next hg.1 (kind_here hk hg.1.1)).1
    have g1 := hg.1.1.next
    by_cases h3 : k = 3
    · rw [if_pos h3] at he ⊢
      have := (to_choice tB d ⟨k, ⟨#[]⟩, [], 0, [], [], r.here.at_⟩ r.next).2.1 g1
      omega
    rw [if_neg h3] at he ⊢
    by_cases h4 : k = 4
    · rw [if_pos h4] at he ⊢
      dsimp only at he ⊢
      have := (((to_name r.next).trans (to_number 256 _)).trans (tB (d + 1) _)).2.1 g1
      omega
    rw [if_neg h4] at he ⊢
    dsimp only at he ⊢
    have := ((to_simple r.here d ⟨k, ⟨#[]⟩, [], 0, [], [], r.here.at_⟩ r.next).trans (to_want [59] _)).2.1 g1
    omega
theorem stP_less : ∀ (f d : Nat) (r : Rd), GN r -> (stP f d r).2.err = none -> (stP f d r).2.ts.length + 1 <= r.ts.length
  | 0, d, r, _, he => by
    have he' : (if (kindP r.here).isNone then r.fail 2 else r.fail 6).err = none := he
    split at he' <;> exact (fail_no he').elim
  | f + 1, d, r, hg, he => stmt_less (to_block (to_st f)) d r hg he
theorem cI_one {m : Nat} {e : Tree} {es : List Tree} : cI m (e :: es) 0 = cE m e := rfl
theorem cI_two {m : Nat} {a e : Tree} : cI m [a, e] 1 = cE m e := rfl
theorem stmt_n {M f : Nat} (hM : 65537 <= M) {bl : BlP} (tB : ToB bl) (sB : SfB bl) (h : BlN M f bl) : StN M (f + 1) (stmtOf bl) := by
  intro d r hg hl he
  unfold stmtOf at he ⊢
  cases hk : kindP r.here with
  | none => rw [hk] at he; exact (fail_no he).elim
  | some k =>
    rw [hk] at he
    simp only at he ⊢
    by_cases hd : 40 < d
    · rw [if_pos hd] at he; exact (fail_no he).elim
    rw [if_neg hd] at he ⊢
    have hk0 := kind_here hk hg.1.1
    have g1 : GN r.next := hg.on (sf_next r) (to_next r)
    have l1 : r.next.ts.length <= 65537 := len_to hg (to_next r) hl
    by_cases h3 : k = 3
    · subst h3
      rw [if_pos rfl] at he ⊢
      have htx : r.here.text = kIf := by
        rcases kind_is hk with h | h | h | h | h | h | h | h | h
        · exact absurd h.1 (by decide)
        · exact absurd h.1 (by decide)
        · exact h.2
        all_goals exact absurd h.1 (by decide)
      have N1 := np_text hg htx (by decide) (by decide) (by decide)
      unfold choiceOf at he ⊢
      dsimp only at he ⊢
      generalize hw : r.next.want [40] = w1 at he ⊢
      generalize hq : valueP d ⟨3, ⟨#[]⟩, [], 0, [], [], r.here.at_⟩ w1 = q at he ⊢
      generalize hw2 : q.2.want [41] = w2 at he ⊢
      generalize hb : bl (d + 1) w2 = b at he ⊢
      have main : b.2.err = none -> ∃ e j, q.1 = ⟨3, ⟨#[]⟩, [e], 0, [], [], r.here.at_⟩ /\ (∀ i, f <= i -> Nt r.ts = 3 + cE M e + cB M i b.1 + 3 * j + Nt b.2.ts) /\ GN b.2 /\ b.2.ts.length <= 65537 := fun eb => by
        have tb : w2.to b.2 := by rw [<- hb]; exact tB (d + 1) w2
        have sb : w2.suf b.2 := by rw [<- hb]; exact sB (d + 1) w2
        have e3 := err_back tb eb
        rw [<- hw2] at e3
        have e2 := err_back (to_want [41] q.2) e3
        rw [<- hq] at e2
        have e1 := err_back (to_value d _ w1) e2
        rw [<- hw] at e1
        have N2 := nt_wantp g1 (.inl rfl) e1
        rw [hw] at N2
        have g2 : GN w1 := by rw [<- hw]; exact g1.on (sf_want _ _) (to_want _ _)
        have l2 : w1.ts.length <= 65537 := by rw [<- hw]; exact len_to g1 (to_want [40] _) l1
        obtain ⟨e, hv, N3, g3, l3⟩ := value_n hM g2 l2 e2
        rw [hq] at hv N3 g3 l3
        have N4 := nt_wantp g3 (.inr rfl) e3
        rw [hw2] at N4
        have g4 : GN w2 := by rw [<- hw2]; exact g3.on (sf_want _ _) (to_want _ _)
        have l4 : w2.ts.length <= 65537 := by rw [<- hw2]; exact len_to g3 (to_want [41] _) (by omega)
        obtain ⟨j, N5⟩ := h (d + 1) w2 g4 l4 (by rw [hb]; exact eb)
        rw [hb] at N5
        exact ⟨e, j, hv, fun i hi => by have := N5 i hi; omega, g4.on sb tb, len_to g4 tb l4⟩
      by_cases hels : b.2.is kElse = true
      · rw [if_pos hels] at he ⊢
        dsimp only at he ⊢
        generalize hz : bl (d + 1) b.2.next = z at he ⊢
        have tz : b.2.next.to z.2 := by rw [<- hz]; exact tB (d + 1) _
        have eb : b.2.err = none := by have := err_back tz he; exact this
        obtain ⟨e, j, hq1, N, gbb, lb⟩ := main eb
        have N6 := np_text gbb (is_text hels) (by decide) (by decide) (by decide)
        have g7 := gbb.on (sf_next _) (to_next _)
        obtain ⟨j2, N7⟩ := h (d + 1) b.2.next g7 (len_to gbb (to_next _) lb) (by rw [hz]; exact he)
        rw [hz] at N7
        rw [hq1]
        by_cases hz0 : z.1.length = 0
        · have hz1 : z.1 = [] := List.eq_nil_of_length_eq_zero hz0
          refine ⟨j + j2 + 1, fun i hi => ?_⟩
          obtain ⟨i, rfl, hi'⟩ := succ_of hi
          have N := N i hi'
          have N7 := N7 i hi'
          have e0 : cS M (i + 1) ⟨3, ⟨#[]⟩, [e], 0, b.1, z.1, r.here.at_⟩ = 3 + cE M e + cB M i b.1 := by simp [cS, cB, hz1, cI]
          have e1 : cB M i z.1 = 0 := by rw [hz1]; rfl
          simp only
          rw [e0]
          omega
        · refine ⟨j + j2, fun i hi => ?_⟩
          obtain ⟨i, rfl, hi'⟩ := succ_of hi
          have N := N i hi'
          have N7 := N7 i hi'
          have e0 : cS M (i + 1) ⟨3, ⟨#[]⟩, [e], 0, b.1, z.1, r.here.at_⟩ = 3 + cE M e + cB M i b.1 + (3 + cB M i z.1) := by
            have hz1 : ¬ z.1 = [] := fun e => hz0 (by rw [e]; rfl)
            simp [cS, cB, hz1, cI]
          simp only
          rw [e0]
          omega
      · rw [if_neg hels] at he ⊢
        obtain ⟨e, j, hq1, N, gbb, lb⟩ := main he
        rw [hq1]
        refine ⟨j, fun i hi => ?_⟩
        obtain ⟨i, rfl, hi'⟩ := succ_of hi
        have N := N i hi'
        have e0 : cS M (i + 1) ⟨3, ⟨#[]⟩, [e], 0, b.1, [], r.here.at_⟩ = 3 + cE M e + cB M i b.1 := by simp [cS, cB, cI]
        simp only
        rw [e0]
        omega
    rw [if_neg h3] at he ⊢
    by_cases h4 : k = 4
    · subst h4
      rw [if_pos rfl] at he ⊢
      have htx : r.here.text = kLoop := by
        rcases kind_is hk with h | h | h | h | h | h | h | h | h
        · exact absurd h.1 (by decide)
        · exact absurd h.1 (by decide)
        · exact absurd h.1 (by decide)
        · exact h.2
        all_goals exact absurd h.1 (by decide)
      have N1 := np_text hg htx (by decide) (by decide) (by decide)
      dsimp only at he ⊢
      have e2 := err_back (tB (d + 1) _) he
      have e1 := err_back (to_number 256 _) e2
      obtain ⟨N2, g2⟩ := nt_name2 g1 e1
      have l2 := len_to g1 (to_name _) l1
      have N3 := nt_number g2 e2
      have g3 := g2.on (sf_number 256 _) (to_number 256 _)
      obtain ⟨j, N4⟩ := h (d + 1) _ g3 (len_to g2 (to_number 256 _) l2) he
      refine ⟨j, fun i hi => ?_⟩
      obtain ⟨i, rfl, hi'⟩ := succ_of hi
      have N4 := N4 i hi'
      have e0 : ∀ (x : ByteArray) (c a : Int) (bs : List Stm), cS M (i + 1) ⟨4, x, [], c, bs, [], a⟩ = 5 + cB M i bs := fun _ _ _ _ => by simp [cS, cB]
      rw [e0]
      omega
    rw [if_neg h4] at he ⊢
    dsimp only at he ⊢
    have ew := err_back (to_want [59] _) he
    have gS1 : ∀ s, GN (simpleP r.here d s r.next).2 := fun s => g1.on (sf_simple _ _ _ _) (to_simple _ _ _ _)
    have N9 := nt_want (gS1 _) (by simp) (by simp) (by simp) he
    refine ⟨0, fun i hi => ?_⟩
    obtain ⟨i, rfl, hi'⟩ := succ_of hi
    rcases kind_is hk with ⟨rfl, hx⟩ | ⟨rfl, hx⟩ | ⟨rfl, hx⟩ | ⟨rfl, hx⟩ | ⟨rfl, hx⟩ | ⟨rfl, hx⟩ | ⟨rfl, hx⟩ | ⟨rfl, hx⟩ | ⟨rfl, hx⟩
    · have N1 := np_name hg hx
      by_cases hbr : r.next.is [91] = true
      · rw [simple_2 _ _ _ _ rfl hbr] at ew N9 ⊢
        generalize hX : valueP d { (⟨1, ⟨#[]⟩, [], 0, [], [], r.here.at_⟩ : Stm) with kind := 2, name := bstr r.here.text } r.next.next = X at ew N9 ⊢
        generalize hY : (X.2.want [93]).want [61] = Y at ew N9 ⊢
        generalize hZ : valueP d X.1 Y = Z at ew N9 ⊢
        have e5 : Y.err = none := err_back (to_value d X.1 Y) (by rw [hZ]; exact ew)
        have e4 := err_back (to_want [61] (X.2.want [93])) (by rw [hY]; exact e5)
        have e3 := err_back (to_want [93] X.2) e4
        have N2 := np_text g1 (is_text hbr) (by simp) (by simp) (by simp)
        have g2 := g1.on (sf_next _) (to_next _)
        have l2 := len_to g1 (to_next _) l1
        obtain ⟨a, hv, N3, g3, l3⟩ := value_n hM (s := { (⟨1, ⟨#[]⟩, [], 0, [], [], r.here.at_⟩ : Stm) with kind := 2, name := bstr r.here.text }) g2 l2 (by rw [hX]; exact e3)
        rw [hX] at hv N3 g3 l3
        have N4 := nt_want g3 (by simp) (by simp) (by simp) e4
        have g4 := g3.on (sf_want [93] _) (to_want [93] _)
        have l4 := len_to g3 (to_want [93] _) (by omega)
        have N5 := nt_want g4 (by simp) (by simp) (by simp) (show ((X.2.want [93]).want [61]).err = none by rw [hY]; exact e5)
        have g5 := g4.on (sf_want [61] _) (to_want [61] _)
        have l5 := len_to g4 (to_want [61] _) l4
        rw [hY] at N5 g5 l5
        obtain ⟨c, hv2, N6, g6, l6⟩ := value_n hM (s := X.1) g5 l5 (by rw [hZ]; exact ew)
        rw [hZ] at hv2 N6
        have ee : Z.1 = ⟨2, bstr r.here.text, [a, c], 0, [], [], r.here.at_⟩ := by rw [hv2, hv]; rfl
        have e0 : cS M (i + 1) ⟨2, bstr r.here.text, [a, c], 0, [], [], r.here.at_⟩ = 5 + cE M a + cE M c := by simp [cS, cI]
        rw [ee, e0]
        omega
      · rw [simple_1 _ _ _ _ rfl (by simpa using hbr)] at ew N9 ⊢
        generalize hX : valueP d { (⟨1, ⟨#[]⟩, [], 0, [], [], r.here.at_⟩ : Stm) with name := bstr r.here.text } (r.next.want [61]) = X at ew N9 ⊢
        have e2 : (r.next.want [61]).err = none := err_back (to_value d { (⟨1, ⟨#[]⟩, [], 0, [], [], r.here.at_⟩ : Stm) with name := bstr r.here.text } (r.next.want [61])) (by rw [hX]; exact ew)
        have N2 := nt_want g1 (by simp) (by simp) (by simp) e2
        have g2 := g1.on (sf_want [61] _) (to_want [61] _)
        obtain ⟨a, hv, N3, g3, l3⟩ := value_n hM (s := { (⟨1, ⟨#[]⟩, [], 0, [], [], r.here.at_⟩ : Stm) with name := bstr r.here.text }) g2 (len_to g1 (to_want [61] _) l1) (by rw [hX]; exact ew)
        rw [hX] at hv N3
        have e0 : cS M (i + 1) ⟨1, bstr r.here.text, [a], 0, [], [], r.here.at_⟩ = 3 + cE M a := by simp [cS, cI]
        have ec := (congrArg (cS M (i + 1)) hv).trans e0
        rw [ec]
        omega
    · rw [simple_0 _ _ _ _ rfl] at ew N9 ⊢
      have N1 := np_text hg hx (by decide) (by decide) (by decide)
      generalize hX : valueP d { (⟨0, ⟨#[]⟩, [], 0, [], [], r.here.at_⟩ : Stm) with name := bstr r.next.name.1 } (r.next.name.2.want [61]) = X at ew N9 ⊢
      have e2 : (r.next.name.2.want [61]).err = none := err_back (to_value d { (⟨0, ⟨#[]⟩, [], 0, [], [], r.here.at_⟩ : Stm) with name := bstr r.next.name.1 } (r.next.name.2.want [61])) (by rw [hX]; exact ew)
      have e1 := err_back (to_want [61] _) e2
      obtain ⟨N2, g2⟩ := nt_name2 g1 e1
      have l2 := len_to g1 (to_name _) l1
      have N3 := nt_want g2 (by simp) (by simp) (by simp) e2
      have g3 := g2.on (sf_want [61] _) (to_want [61] _)
      obtain ⟨a, hv, N4, g4, l4⟩ := value_n hM (s := { (⟨0, ⟨#[]⟩, [], 0, [], [], r.here.at_⟩ : Stm) with name := bstr r.next.name.1 }) g3 (len_to g2 (to_want [61] _) l2) (by rw [hX]; exact ew)
      rw [hX] at hv N4
      have e0 : ∀ x, cS M (i + 1) ⟨0, x, [a], 0, [], [], r.here.at_⟩ = 4 + cE M a := fun _ => by simp [cS, cI]
      have ec := (congrArg (cS M (i + 1)) hv).trans (e0 _)
      rw [ec]
      omega
    · exact absurd rfl h3
    · exact absurd rfl h4
    · rw [simple_5 _ _ _ _ rfl] at ew N9 ⊢
      have N1 := np_text hg hx (by decide) (by decide) (by decide)
      obtain ⟨N2, g2⟩ := nt_name2 g1 ew
      have e0 : ∀ x, cS M (i + 1) ⟨5, x, [], 0, [], [], r.here.at_⟩ = 3 := fun _ => by simp [cS]
      simp only at N9 ⊢
      rw [e0]
      omega
    · rw [simple_6 _ _ _ _ rfl] at ew N9 ⊢
      have N1 := np_text hg hx (by decide) (by decide) (by decide)
      obtain ⟨N2, g2⟩ := nt_name2 g1 ew
      have e0 : ∀ x, cS M (i + 1) ⟨6, x, [], 0, [], [], r.here.at_⟩ = 3 := fun _ => by simp [cS]
      simp only at N9 ⊢
      rw [e0]
      omega
    · rw [simple_7 _ _ _ _ rfl] at ew N9 ⊢
      have N1 := np_text hg hx (by decide) (by decide) (by decide)
      generalize hX : valueP d { (⟨7, ⟨#[]⟩, [], 0, [], [], r.here.at_⟩ : Stm) with name := bstr r.next.name.1 } r.next.name.2 = X at ew N9 ⊢
      have e2 : r.next.name.2.err = none := err_back (to_value d { (⟨7, ⟨#[]⟩, [], 0, [], [], r.here.at_⟩ : Stm) with name := bstr r.next.name.1 } r.next.name.2) (by rw [hX]; exact ew)
      obtain ⟨N2, g2⟩ := nt_name2 g1 e2
      obtain ⟨a, hv, N3, g3, l3⟩ := value_n hM (s := { (⟨7, ⟨#[]⟩, [], 0, [], [], r.here.at_⟩ : Stm) with name := bstr r.next.name.1 }) g2 (len_to g1 (to_name _) l1) (by rw [hX]; exact ew)
      rw [hX] at hv N3
      have e0 : ∀ x, cS M (i + 1) ⟨7, x, [a], 0, [], [], r.here.at_⟩ = 3 + cE M a := fun _ => by simp [cS, cI]
      have ec := (congrArg (cS M (i + 1)) hv).trans (e0 _)
      rw [ec]
      omega
    · rw [simple_8 _ _ _ _ rfl] at ew N9 ⊢
      have N1 := np_text hg hx (by decide) (by decide) (by decide)
      have e0 : cS M (i + 1) ⟨8, ⟨#[]⟩, [], 0, [], [], r.here.at_⟩ = 2 := by simp [cS]
      rw [e0]
      simp only at N9 ⊢
      omega
    · rw [simple_9 _ _ _ _ rfl] at ew N9 ⊢
      have N1 := np_text hg hx (by decide) (by decide) (by decide)
      generalize hX : valueP d (⟨9, ⟨#[]⟩, [], 0, [], [], r.here.at_⟩ : Stm) r.next = X at ew N9 ⊢
      obtain ⟨a, hv, N3, g3, l3⟩ := value_n hM (s := (⟨9, ⟨#[]⟩, [], 0, [], [], r.here.at_⟩ : Stm)) g1 l1 (by rw [hX]; exact ew)
      rw [hX] at hv N3
      have e0 : cS M (i + 1) ⟨9, ⟨#[]⟩, [a], 0, [], [], r.here.at_⟩ = 2 + cE M a := by simp [cS, cI]
      have ec := (congrArg (cS M (i + 1)) hv).trans e0
      rw [ec]
      omega
theorem stP_n {M : Nat} (hM : 65537 <= M) : ∀ f, StN M f (stP f)
  | 0 => fun d r _ _ he => by
    have he' : (if (kindP r.here).isNone then r.fail 2 else r.fail 6).err = none := he
    split at he' <;> exact (fail_no he').elim
  | f + 1 => stmt_n hM (to_block (to_st f)) (sf_block (sf_st f)) (block_n (to_st f) (sf_st f) (stP_n hM f) (fun d r hg he => stP_less f d r hg he))
def cBy (d : Dcl) : Nat := if d.by_.size = 0 then 0 else 2
def cSz (d : Dcl) : Nat := if 0 < d.size then 3 else 0
def cD (d : Dcl) : Nat := if d.lock = true then 3 else 3 + cSz d + cBy d
theorem by_n {d1 : Dcl} {r2 : Rd} (hg : r2.err = none -> GN r2) (hby : d1.by_ = ⟨#[]⟩) (X : Dcl × Rd) (hX : X = if r2.is kBy then ({ d1 with by_ := bstr r2.next.name.1 }, r2.next.name.2) else (d1, r2)) (he : X.2.err = none) :
    r2.err = none /\ Nt r2.ts = cBy X.1 + Nt X.2.ts /\ X.1.lock = d1.lock /\ X.1.size = d1.size := by
  by_cases h : r2.is kBy = true
  · rw [if_pos h] at hX
    subst hX
    have e1 := err_back (to_name r2.next) he
    have e0 : r2.err = none := e1
    have g := hg e0
    have N1 := np_text g (is_text h) (by decide) (by decide) (by decide)
    have g1 := g.on (sf_next _) (to_next _)
    obtain ⟨N2, _⟩ := nt_name2 g1 he
    obtain ⟨_, _, _, hp⟩ := eats_name g1.1 he
    refine ⟨e0, ?_, rfl, rfl⟩
    have hs : (bstr r2.next.name.1).size = r2.next.name.1.length := bstr_size _
    have : cBy { d1 with by_ := bstr r2.next.name.1 } = 2 := by unfold cBy; simp only; rw [if_neg (by rw [hs]; omega)]
    simp only
    rw [this]
    omega
  · rw [if_neg h] at hX
    subst hX
    refine ⟨he, ?_, rfl, rfl⟩
    have : cBy d1 = 0 := by unfold cBy; rw [hby]; rfl
    simp only
    omega
theorem cells_n {d0 : Dcl} {r : Rd} (hg : GN r) (hby : d0.by_ = ⟨#[]⟩) (he : (cellsP d0 r).2.err = none) :
    Nt r.ts = 1 + cSz (cellsP d0 r).1 + cBy (cellsP d0 r).1 + Nt (cellsP d0 r).2.ts /\ (cellsP d0 r).1.lock = d0.lock := by
  generalize hX : cellsP d0 r = X at he ⊢
  unfold cellsP at hX
  dsimp only at hX
  by_cases h : r.name.2.is [91] = true
  · rw [if_pos h] at hX
    dsimp only at hX
    have ht := is_text h
    have hgz : ((r.name.2.next.number 64).2.want [93]).err = none -> Nt r.ts = 4 + Nt ((r.name.2.next.number 64).2.want [93]).ts /\ 1 <= (r.name.2.next.number 64).1 /\ GN ((r.name.2.next.number 64).2.want [93]) := fun e3 => by
      have e2 := err_back (to_want [93] _) e3
      have e1 := err_back (to_number 64 _) e2
      have e0 : r.name.2.err = none := e1
      obtain ⟨N0, g0⟩ := nt_name2 hg e0
      have N1 := np_text g0 ht (by simp) (by simp) (by simp)
      have g1 := g0.on (sf_next _) (to_next _)
      have N2 := nt_number g1 e2
      obtain ⟨hc, _, _⟩ := eats_number g1.1 e2
      have g2 := g1.on (sf_number 64 _) (to_number 64 _)
      have N3 := nt_want g2 (by simp) (by simp) (by simp) e3
      exact ⟨by omega, hc.1, g2.on (sf_want _ _) (to_want _ _)⟩
    obtain ⟨e3, N4, x1, x4⟩ := by_n (d1 := { d0 with name := bstr r.name.1, size := ((r.name.2.next.number 64).1 : Int) }) (r2 := (r.name.2.next.number 64).2.want [93]) (fun e => (hgz e).2.2) hby X hX.symm he
    obtain ⟨N, hc, _⟩ := hgz e3
    have : cSz X.1 = 3 := by unfold cSz; rw [x4]; simp only; rw [if_pos (by omega)]
    exact ⟨by omega, x1⟩
  · rw [if_neg h] at hX
    dsimp only at hX
    obtain ⟨e3, N4, x1, x4⟩ := by_n (d1 := { d0 with name := bstr r.name.1, size := 0 }) (r2 := r.name.2) (fun e => (nt_name2 hg e).2) hby X hX.symm he
    obtain ⟨N0, g0⟩ := nt_name2 hg e3
    have : cSz X.1 = 0 := by unfold cSz; rw [x4]; rfl
    exact ⟨by omega, x1⟩
theorem declP_n {r : Rd} (hg : GN r) (he : (declP r).2.err = none) : Nt r.ts = cD (declP r).1 + Nt (declP r).2.ts := by
  unfold declP at he ⊢
  by_cases h1 : r.is kLock = true
  · simp only [h1, if_true] at he ⊢
    have N1 := np_text hg (is_text h1) (by decide) (by decide) (by decide)
    have e1 := err_back (to_want [59] _) he
    have g1 := hg.on (sf_next _) (to_next _)
    obtain ⟨N2, g2⟩ := nt_name2 g1 e1
    have N3 := nt_want g2 (by simp) (by simp) (by simp) he
    have : ∀ (a : Int) (b : ByteArray) (c : Int) (d : ByteArray) (e : Int), cD ⟨true, a, b, c, d, e⟩ = 3 := fun _ _ _ _ _ => rfl
    rw [this]
    omega
  · simp only [h1, if_false, Bool.false_eq_true] at he ⊢
    have two : ∀ (d0 : Dcl) (x : List UInt8), d0.by_ = ⟨#[]⟩ -> d0.lock = false -> r.here.text = x -> x ≠ [] -> x ≠ [40] -> x ≠ [41] -> ((cellsP d0 r.next).2.want [59]).err = none -> Nt r.ts = cD (cellsP d0 r.next).1 + Nt ((cellsP d0 r.next).2.want [59]).ts := fun d0 x hby hl ht a b c he => by
      have N1 := np_text hg ht a b c
      have g1 := hg.on (sf_next _) (to_next _)
      have e1 := err_back (to_want [59] _) he
      obtain ⟨N2, hl2⟩ := cells_n g1 hby e1
      have N3 := nt_want (g1.on (sf_cells d0 _) (to_cells d0 _)) (by simp) (by simp) (by simp) he
      have : cD (cellsP d0 r.next).1 = 3 + cSz (cellsP d0 r.next).1 + cBy (cellsP d0 r.next).1 := by unfold cD; rw [if_neg (by rw [hl2, hl]; decide)]
      omega
    by_cases h2 : r.is kPublic = true
    · simp only [h2, if_true] at he ⊢
      exact two _ _ rfl rfl (is_text h2) (by decide) (by decide) (by decide) he
    · simp only [h2, if_false, Bool.false_eq_true] at he ⊢
      by_cases h3 : r.is kSecret = true
      · simp only [h3, if_true] at he ⊢
        exact two _ _ rfl rfl (is_text h3) (by decide) (by decide) (by decide) he
      · simp only [h3, if_false, Bool.false_eq_true] at he ⊢
        exact (fail_no (err_back (to_want [59] _) he)).elim
theorem declLoop_n : ∀ (k : Nat) (ds : List Dcl) (r : Rd), GN r -> (declLoop k ds r).2.err = none ->
    ∃ ds', (declLoop k ds r).1 = ds ++ ds' /\ Nt r.ts = (ds'.map cD).sum + Nt (declLoop k ds r).2.ts
  | 0, ds, r, _, _ => ⟨[], by simp [declLoop], by simp [declLoop]⟩
  | k + 1, ds, r, hg, he => by
    rw [declLoop] at he ⊢
    by_cases hs : r.err.isSome = true
    · rw [if_pos hs] at he
      rw [he] at hs; cases hs
    rw [if_neg hs] at he ⊢
    by_cases ht : r.is kThread = true
    · rw [if_pos ht] at he ⊢
      exact ⟨[], by simp, by simp⟩
    rw [if_neg ht] at he ⊢
    by_cases h64 : ds.length = 64
    · rw [if_pos h64] at he; exact (fail_no he).elim
    rw [if_neg h64] at he ⊢
    have e1 := err_back (decls_to k _ _) he
    have N1 := declP_n hg e1
    obtain ⟨ds', x1, N2⟩ := declLoop_n k (ds ++ [(declP r).1]) (declP r).2 (hg.on (sf_decl _) (to_decl _)) he
    exact ⟨(declP r).1 :: ds', by rw [x1, List.append_assoc]; rfl, by simp only [List.map_cons, List.sum_cons]; omega⟩
theorem thr_n {M : Nat} (hM : 65537 <= M) : ∀ (k : Nat) (ts : List (List Stm)) (r : Rd), GN r -> r.ts.length <= 65537 -> ts.length <= 16 -> 16 < ts.length + k -> (thrLoop k ts r).2.err = none ->
    ∃ ts' j, (thrLoop k ts r).1 = ts ++ ts' /\ Nt r.ts = (ts'.map fun ss => 3 + cB M 41 ss).sum + 3 * j
  | 0, ts, r, _, _, h1, h2, _ => by omega
  | k + 1, ts, r, hg, hl, h1, h2, he => by
    rw [thrLoop] at he ⊢
    by_cases hs : r.err.isSome = true
    · rw [if_pos hs] at he
      rw [he] at hs; cases hs
    rw [if_neg hs] at he ⊢
    by_cases h0 : r.here.kind = 0
    · rw [if_pos h0] at he ⊢
      refine ⟨[], 0, by simp, ?_⟩
      rcases good_cases hg.1.1 with ⟨j, e, _⟩ | ⟨h, _⟩
      · rw [e]; simp [Nt, np, npB, endT]
      · exact absurd h0 h
    rw [if_neg h0] at he ⊢
    by_cases h16 : ts.length = 16
    · rw [if_pos h16] at he; exact (fail_no he).elim
    rw [if_neg h16] at he ⊢
    dsimp only at he ⊢
    have e2 := err_back (thr_to k _ _) he
    have e1 := err_back (to_block (to_st 40) 1 _) e2
    have N1 := nt_want hg (by decide) (by decide) (by decide) e1
    have g1 := hg.on (sf_want kThread _) (to_want kThread _)
    have l1 := len_to hg (to_want kThread _) hl
    obtain ⟨j1, N2⟩ := block_n (to_st 40) (sf_st 40) (stP_n hM 40) (fun d r hg he => stP_less 40 d r hg he) 1 (r.want kThread) g1 l1 e2
    have N2 := N2 41 (by omega)
    have g2 := g1.on (sf_block (sf_st 40) 1 (r.want kThread)) (to_block (to_st 40) 1 (r.want kThread))
    have l2 := len_to g1 (to_block (to_st 40) 1 (r.want kThread)) l1
    obtain ⟨ts', j2, x1, N4⟩ := thr_n hM k (ts ++ [(blockOf (stP 40) 1 (r.want kThread)).1]) _ g2 l2 (by simp; omega) (by simp; omega) he
    refine ⟨(blockOf (stP 40) 1 (r.want kThread)).1 :: ts', j1 + j2, by rw [x1, List.append_assoc]; rfl, ?_⟩
    simp only [List.map_cons, List.sum_cons]
    omega
def cP (M n : Nat) (p : Prg) : Nat := (p.decls.map cD).sum + (p.threads.map fun ss => 3 + cB M n ss).sum
theorem prog_n {M : Nat} (hM : 65537 <= M) {ts : List Tok} {q : Prg} (hg : GN ⟨ts, none⟩) (hl : ts.length <= 65537) (h : progP ts = .ok q) : ∃ j, Nt ts = cP M 41 q + 3 * j := by
  unfold progP at h
  simp only at h
  split at h
  · cases h
  · rename_i he
    cases h
    have e1 := err_back (thr_to 17 [] (declsP ⟨ts, none⟩).2) he
    obtain ⟨ds', x1, N1⟩ := declLoop_n 65 [] ⟨ts, none⟩ hg e1
    have t1 : Rd.to ⟨ts, none⟩ (declsP ⟨ts, none⟩).2 := decls_to 65 [] _
    have g1 : GN (declsP ⟨ts, none⟩).2 := hg.on (decls_suf 65 [] _) t1
    obtain ⟨ts', j, y1, N2⟩ := thr_n hM 17 [] (declsP ⟨ts, none⟩).2 g1 (len_to hg t1 hl) (by simp) (by simp) he
    have a1 : (declsP ⟨ts, none⟩).1 = ds' := x1
    have a2 : (threadsP (declsP ⟨ts, none⟩).2).1 = ts' := y1
    refine ⟨j, ?_⟩
    show Nt ts = ((declsP ⟨ts, none⟩).1.map cD).sum + ((threadsP (declsP ⟨ts, none⟩).2).1.map fun ss => 3 + cB M 41 ss).sum + 3 * j
    rw [a1, a2]
    have N1' : Nt ts = (ds'.map cD).sum + Nt (declsP ⟨ts, none⟩).2.ts := N1
    omega

theorem listEq_at {α : Type} {f : α -> α -> Bool} : ∀ {a b : List α}, listEq f a b = true -> ∀ i : Nat, (a[i]? = none /\ b[i]? = none) \/ ∃ x y, a[i]? = some x /\ b[i]? = some y /\ f x y = true
  | [], [], _, i => .inl (by simp)
  | x :: a, y :: b, h, i => by
    simp only [listEq, Bool.and_eq_true] at h
    cases i with
    | zero => exact .inr ⟨x, y, by simp, by simp, h.1⟩
    | succ i => simpa using listEq_at h.2 i
  | [], _ :: _, h, _ => by simp [listEq] at h
  | _ :: _, [], h, _ => by simp [listEq] at h
theorem listEq_sum {α : Type} {f : α -> α -> Bool} {g : α -> Nat} (hg : ∀ x y, f x y = true -> g x = g y) : ∀ {a b : List α}, listEq f a b = true -> (a.map g).sum = (b.map g).sum
  | [], [], _ => rfl
  | x :: a, y :: b, h => by
    simp only [listEq, Bool.and_eq_true] at h
    simp only [List.map_cons, List.sum_cons]
    rw [hg x y h.1, listEq_sum hg h.2]
  | [], _ :: _, h => by simp [listEq] at h
  | _ :: _, [], h => by simp [listEq] at h
theorem cE_succ (m : Nat) (t : Tree) : cE (m + 1) t = if t.kind = 2 then 3 + cI m t.kids 0 else if t.kind = 3 then 1 + cI m t.kids 0 + cI m t.kids 1 else if t.kind = 4 then 1 + cI m t.kids 0 else if t.kind = 5 then 3 + cI m t.kids 0 + cI m t.kids 1 + cI m t.kids 2 else 1 := rfl
theorem cE_eq : ∀ (m : Nat) (s t : Tree), teq m s t = true -> cE m s = cE m t
  | 0, _, _, h => by simp [teq] at h
  | m + 1, s, t, h => by
    simp only [teq, Bool.and_eq_true, decide_eq_true_eq] at h
    obtain ⟨⟨⟨⟨h1, _⟩, _⟩, _⟩, h5⟩ := h
    have hk : ∀ i : Nat, cI m s.kids i = cI m t.kids i := fun i => by
      unfold cI
      rcases listEq_at h5 i with ⟨a, b⟩ | ⟨x, y, a, b, c⟩
      · rw [a, b]
      · rw [a, b]; exact cE_eq m x y c
    rw [cE_succ, cE_succ, h1, hk, hk, hk]
theorem cS_eq (m : Nat) : ∀ (n : Nat) (s t : Stm), seqS m n s t = true -> cS m n s = cS m n t
  | 0, _, _, h => by simp [seqS] at h
  | n + 1, s, t, h => by
    simp only [seqS, Bool.and_eq_true, decide_eq_true_eq] at h
    obtain ⟨⟨⟨⟨⟨h1, _⟩, _⟩, h4⟩, h5⟩, h6⟩ := h
    have hk : ∀ i : Nat, cI m s.exprs i = cI m t.exprs i := fun i => by
      unfold cI
      rcases listEq_at h4 i with ⟨a, b⟩ | ⟨x, y, a, b, c⟩
      · rw [a, b]
      · rw [a, b]; exact cE_eq m x y c
    have hb := listEq_sum (g := fun x => cS m n x) (fun x y h => cS_eq m n x y h) h5
    have he := listEq_sum (g := fun x => cS m n x) (fun x y h => cS_eq m n x y h) h6
    have hl := listEq_len h6
    unfold cS
    simp only [h1, hk, hb, he, hl]
theorem cD_eq (d e : Dcl) (h : deqD d e = true) : cD d = cD e := by
  simp only [deqD, Bool.and_eq_true, decide_eq_true_eq] at h
  obtain ⟨⟨⟨⟨h1, _⟩, _⟩, h4⟩, h5⟩ := h
  unfold cD cSz cBy
  rw [h1, h4, h5]
theorem cP_eq {m n : Nat} {p q : Prg} (h : peqP m n p q = true) : cP m n p = cP m n q := by
  simp only [peqP, Bool.and_eq_true] at h
  unfold cP
  rw [listEq_sum cD_eq h.1, listEq_sum (g := fun ss => 3 + cB m n ss) (fun x y h => by
    have := listEq_sum (g := fun x => cS m n x) (fun x y h => cS_eq m n x y h) (show listEq (seqS m n) x y = true from h)
    unfold cB; omega) h.2]
end Go.Proofs.YtfginegegaokbaaGreatDoor.Pr
namespace Go.Proofs.YtfginegegaokbaaGreatDoor.Pr
theorem listEq_of {α : Type} {f : α -> α -> Bool} {R : α -> α -> Prop} (h : ∀ x y, R x y -> f y x = true) {a b : List α} (hl : eqL R a b) : listEq f b a = true :=
  listEq_true hl.1.symm fun i x y hx hy => h y x (hl.2 i y x hy hx)
theorem teq_of : ∀ (n m : Nat) (s t : Tree), n <= m -> eqT n s t -> teq m t s = true
  | 0, _, _, _, _, h => h.elim
  | n + 1, m, s, t, hm, ⟨h1, h2, h3, h4, h5, h6⟩ => by
    obtain ⟨m, rfl⟩ : ∃ k, m = k + 1 := ⟨m - 1, by omega⟩
    have := listEq_of (f := teq m) (R := eqT n) (fun x y h => teq_of n m x y (by omega) h) (a := s.kids) (b := t.kids) ⟨h5, h6⟩
    simp [teq, h1, h2, h3, h4, this]
theorem seqS_of {k m : Nat} (hk : k <= m) : ∀ (n j : Nat) (s t : Stm), n <= j -> eqS k n s t -> seqS m j t s = true
  | 0, _, _, _, _, h => h.elim
  | n + 1, j, s, t, hj, ⟨h1, h2, h3, h4, h5, h6⟩ => by
    obtain ⟨j, rfl⟩ : ∃ i, j = i + 1 := ⟨j - 1, by omega⟩
    have a := listEq_of (f := teq m) (R := eqT k) (fun x y h => teq_of k m x y hk h) h4
    have b := listEq_of (f := seqS m j) (R := eqS k n) (fun x y h => seqS_of hk n j x y (by omega) h) h5
    have c := listEq_of (f := seqS m j) (R := eqS k n) (fun x y h => seqS_of hk n j x y (by omega) h) h6
    simp [seqS, h1, h2, h3, a, b, c]
theorem peqP_of {k n m j : Nat} (hk : k <= m) (hn : n <= j) {q p : Prg} (h : eqP k n q p) : peqP m j p q = true := by
  have a := listEq_of (f := deqD) (R := eqD) (fun x y ⟨h1, h2, h3, h4, h5⟩ => by simp [deqD, h1, h2, h3, h4, h5]) h.1
  have b := listEq_of (f := beqB m j) (R := eqL (eqS k n)) (fun x y h => listEq_of (f := seqS m j) (R := eqS k n) (fun x y h => seqS_of hk n j x y hn h) h) h.2
  simp [peqP, a, b]
end Go.Proofs.YtfginegegaokbaaGreatDoor.Pr
namespace Go.Proofs.YtfginegegaokbaaGreatDoor.Pr
open Go.Lib (decDigits itoa)
open Lx (Tok num)
theorem readTok_par {l : List UInt8} {k : Nat} {t : Tok} (h : Lx.readTok l k = some t) : t.kind = 3 -> t.text ≠ [40] /\ t.text ≠ [41] := by
  unfold Lx.readTok at h
  match l, h with
  | c :: r, h =>
    simp only at h
    split at h
    · cases h
      intro hk
      simp only at hk
      split at hk <;> cases hk
    · split at h
      · rename_i hc
        unfold Lx.digitTok at h
        split at h
        · cases h
        · split at h
          · cases h
            intro _
            simp only
            rw [Lx.lead_yes hc, List.take_succ_cons]
            refine ⟨fun e => ?_, fun e => ?_⟩
            · have e0 : c = 40 := (List.cons.inj e).1
              rw [e0] at hc; revert hc; decide
            · have e0 : c = 41 := (List.cons.inj e).1
              rw [e0] at hc; revert hc; decide
          · cases h
      · split at h
        · cases h
        · cases h
          intro hk; cases hk
theorem goTok_par : ∀ (f : Nat) (l : List UInt8) (k : Nat) (ts : List Tok), Lx.goTok f l k = .ok ts -> ∀ t ∈ ts, t.kind = 3 -> t.text ≠ [40] /\ t.text ≠ [41]
  | 0, l, k, ts, h => by cases h
  | f + 1, l, k, ts, h => by
    unfold Lx.goTok at h
    cases l with
    | nil =>
      simp only [Except.ok.injEq] at h
      subst h
      intro t ht
      simp only [List.mem_singleton] at ht
      subst ht
      intro hk; cases hk
    | cons c r =>
      simp only at h
      cases hr : Lx.readTok (c :: r) k with
      | none => rw [hr] at h; cases h
      | some t =>
        rw [hr] at h
        obtain ⟨us, h1, rfl⟩ := pre_ok h
        intro x hx
        rcases List.mem_cons.1 hx with rfl | hx
        · exact readTok_par hr
        · exact goTok_par f _ _ us h1 x hx
theorem cut_GN {l : List UInt8} {ts : List Tok} (h : Lx.cutAll l = .ok ts) : GN ⟨ts, none⟩ /\ ts.length <= 65537 := by
  have hok := cut_toks_ok h
  refine ⟨⟨⟨(cut_good h).1, fun t ht => (hok.1 t ht).1⟩, ?_⟩, (Lx.cutAll_len h).1⟩
  unfold Lx.cutAll Lx.cutTok at h
  split at h
  · cases h
  · exact goTok_par _ _ _ ts h

def withS : List Sg -> List It
  | [] => [iG [32]]
  | s :: ss => iG [32] :: iS s :: withS ss
theorem withS_sgs : ∀ ss : List Sg, sgs (withS ss) = ss
  | [] => rfl
  | s :: ss => by rw [withS, sgs_g, sgs_s, withS_sgs ss]
theorem withS_head (ss : List Sg) : ∃ l, flat (withS ss) = 32 :: l := by
  cases ss with
  | nil => exact ⟨[], rfl⟩
  | cons s ss => exact ⟨flat (iS s :: withS ss), by rw [withS, flat_g]; rfl⟩
theorem withS_ok : ∀ ss : List Sg, allF ss -> okF (withS ss) []
  | [], _ => okF_g gap_blank trivial
  | s :: ss, h => by
    obtain ⟨l, e⟩ := withS_head ss
    refine okF_g gap_blank (okF_s ?_ (withS_ok ss fun x hx => h x (by simp [hx])))
    rw [e, List.cons_append]
    exact h s (by simp) 32 _ (.inl rfl)
def bkT (at_ : Nat) (odd : Bool) (x : List UInt8) : Nat -> List Tok -> List UInt8
  | _, [] => []
  | k, t :: ts => (if k = at_ /\ odd = true then [32] ++ x else []) ++ (if k = at_ /\ odd = false then [] else [32] ++ t.text) ++ bkT at_ odd x (k + 1) ts
def modS (odd : Bool) (sg : Sg) : Nat -> List Sg -> List Sg
  | _, [] => []
  | 0, s :: ss => if odd = true then sg :: s :: ss else ss
  | i + 1, s :: ss => s :: modS odd sg i ss
theorem bk_past (at_ : Nat) (odd : Bool) (x : List UInt8) (e : Nat) : ∀ (us : List Tok) (k : Nat), at_ < k -> bkT at_ odd x k (us ++ [endT e]) = flat (withS (us.map sgOf))
  | [], k, h => by
    rw [List.nil_append, bkT, if_neg (by omega), if_neg (by omega)]
    simp [bkT, endT, withS, flat_g, flat_nil]
  | t :: us, k, h => by
    rw [List.cons_append, bkT, bk_past at_ odd x e us (k + 1) (by omega), if_neg (by omega), if_neg (by omega), List.map_cons, withS, flat_g, flat_s]
    simp [sgOf]
theorem bk_flat (at_ : Nat) (odd : Bool) (sg : Sg) (e : Nat) : ∀ (us : List Tok) (k : Nat), k <= at_ -> at_ < k + us.length -> bkT at_ odd sg.text k (us ++ [endT e]) = flat (withS (modS odd sg (at_ - k) (us.map sgOf)))
  | [], k, h1, h2 => by simp at h2; omega
  | t :: us, k, h1, h2 => by
    rw [List.cons_append, bkT, List.map_cons]
    by_cases hk : k = at_
    · subst hk
      rw [Nat.sub_self, modS, bk_past k odd sg.text e us (k + 1) (by omega)]
      cases odd with
      | true => simp [withS, flat_g, flat_s, sgOf]
      | false => simp
    · have hi : at_ - k = (at_ - (k + 1)) + 1 := by omega
      rw [hi, modS, bk_flat at_ odd sg e us (k + 1) (by omega) (by simp at h2; omega), if_neg (by omega), if_neg (by omega), withS, flat_g, flat_s]
      simp [sgOf]
def NS (ss : List Sg) : Nat := (ss.map fun s => npB s.kind s.text).sum
theorem Nt_NS (ts : List Tok) : Nt ts = NS (ts.map sgOf) := by
  unfold Nt NS
  rw [List.map_map]; rfl
theorem NS_cons (s : Sg) (ss : List Sg) : NS (s :: ss) = npB s.kind s.text + NS ss := by simp [NS]
theorem mod_odd (sg : Sg) : ∀ (ss : List Sg) (i : Nat), i < ss.length -> NS (modS true sg i ss) = npB sg.kind sg.text + NS ss
  | [], i, h => by simp at h
  | s :: ss, 0, _ => by rw [modS, if_pos rfl, NS_cons]
  | s :: ss, i + 1, h => by rw [modS, NS_cons, mod_odd sg ss i (by simpa using h), NS_cons]; omega
theorem mod_even (sg : Sg) : ∀ (ss : List Sg) (i : Nat) (x : Sg), ss[i]? = some x -> NS ss = npB x.kind x.text + NS (modS false sg i ss)
  | [], i, x, h => by simp at h
  | s :: ss, 0, x, h => by
    simp only [List.getElem?_cons_zero, Option.some.injEq] at h
    subst h
    rw [modS, NS_cons]; simp
  | s :: ss, i + 1, x, h => by
    have := mod_even sg ss i x (by simpa using h)
    rw [modS, NS_cons, NS_cons]; omega
theorem mod_free {sg : Sg} (hs : free sg) (odd : Bool) : ∀ (ss : List Sg) (i : Nat), allF ss -> allF (modS odd sg i ss)
  | [], i, _ => by cases i <;> exact allF_nil
  | s :: ss, 0, h => by
    rw [modS]
    split
    · exact allF_cons hs h
    · exact fun x hx => h x (by simp [hx])
  | s :: ss, i + 1, h => by
    rw [modS]
    exact allF_cons (h s (by simp)) (mod_free hs odd ss i fun x hx => h x (by simp [hx]))
theorem broken_plain {M : Nat} (hM : 65537 <= M) (ns : List UInt8) (h : ns.length <= 300) : ∃ us e, Lx.cutAll (ptext 13 5 (makeM ns)) = .ok (us ++ [endT e]) /\ 1 <= us.length /\
    ∀ (at_ : Nat) (odd : Bool) (sg : Sg), at_ < us.length -> free sg -> npB sg.kind sg.text = 1 -> ∀ q, parseP (bkT at_ odd sg.text 0 (us ++ [endT e])) = .ok q -> peqP M 41 (makeM ns) q = true ->
      odd = false /\ ∃ t, us[at_]? = some t /\ (t.text = [40] \/ t.text = [41]) := by
  have hgP := made_gP ns
  have hlen := made_len 5 ns h
  obtain ⟨q0, hq0, heq0⟩ := text_back 13 5 _ hgP (by omega)
  have hf := pits_flat 13 5 _ hgP
  have hc := cut_items _ (pits_ok 13 5 _ hgP) (by rw [hf]; omega)
  rw [hf] at hc
  have hp0 : progP (toksAt 0 (pits 13 5 (makeM ns)) ++ [endT (ptext 13 5 (makeM ns)).length]) = .ok q0 := by
    have := hq0
    unfold parseP at this
    rw [hc] at this
    exact this
  obtain ⟨G0, L0⟩ := cut_GN hc
  obtain ⟨j0, N0⟩ := prog_n hM G0 L0 hp0
  have hP0 := cP_eq (peqP_of (m := M) (j := 41) (show 13 <= M by omega) (by omega) heq0)
  have hE : ∀ e, Nt [endT e] = 0 := fun e => rfl
  rw [Nt_append, hE] at N0
  have hm : (toksAt 0 (pits 13 5 (makeM ns))).map sgOf = sgs (pits 13 5 (makeM ns)) := toksAt_sgs 0 _
  have hok : ∀ t ∈ toksAt 0 (pits 13 5 (makeM ns)), t.kind ≠ 0 /\ t.text ≠ [] := toks_ok hm (by
    unfold pits
    rw [sgs_append]
    exact allOK_append (allOK_map dits _ fun x hx => dits_sok x (hgP.d x hx)) (allOK_map (tits 13 5) _ fun x hx => tits_sok 13 5 x (hgP.s x hx)))
  refine ⟨_, _, hc, ?_, ?_⟩
  · have h3 : 3 <= cP M 41 (makeM ns) := by
      have := hgP.t1
      unfold cP
      cases ht : (makeM ns).threads with
      | nil => rw [ht] at this; simp at this
      | cons ss ts => simp only [List.map_cons, List.sum_cons]; omega
    rcases Nat.lt_or_ge 0 (toksAt 0 (pits 13 5 (makeM ns))).length with h | h
    · exact h
    · have hz : toksAt 0 (pits 13 5 (makeM ns)) = [] := List.eq_nil_of_length_eq_zero (by omega)
      rw [hz] at N0
      have : Nt [] = 0 := rfl
      omega
  · intro at_ odd sg hat hfr hnp q hq hs
    rw [bk_flat at_ odd sg _ _ 0 (Nat.zero_le _) (by simpa using hat), Nat.sub_zero, hm] at hq
    have hso := withS_ok _ (mod_free hfr odd (sgs (pits 13 5 (makeM ns))) at_ (pits_free 13 5 _ hgP))
    have hl : (flat (withS (modS odd sg at_ (sgs (pits 13 5 (makeM ns)))))).length <= 65536 := by
      rcases Nat.lt_or_ge 65536 (flat (withS (modS odd sg at_ (sgs (pits 13 5 (makeM ns)))))).length with hb | hb
      · exfalso
        unfold parseP Lx.cutAll at hq
        rw [if_pos hb] at hq
        cases hq
      · exact hb
    have hc' := cut_items _ hso hl
    have hp' : progP (toksAt 0 (withS (modS odd sg at_ (sgs (pits 13 5 (makeM ns))))) ++ [endT (flat (withS (modS odd sg at_ (sgs (pits 13 5 (makeM ns)))))).length]) = .ok q := by
      have := hq
      unfold parseP at this
      rw [hc'] at this
      exact this
    obtain ⟨G', L'⟩ := cut_GN hc'
    obtain ⟨j', N'⟩ := prog_n hM G' L' hp'
    have hP' := cP_eq hs
    rw [Nt_append, hE, Nt_NS, toksAt_sgs, withS_sgs] at N'
    rw [Nt_NS, hm] at N0
    have hlt : at_ < (sgs (pits 13 5 (makeM ns))).length := by rw [<- hm, List.length_map]; exact hat
    cases odd with
    | true =>
      exfalso
      have := mod_odd sg _ at_ hlt
      omega
    | false =>
      refine ⟨rfl, _, List.getElem?_eq_getElem hat, ?_⟩
      have hx : (sgs (pits 13 5 (makeM ns)))[at_]? = some (sgOf (toksAt 0 (pits 13 5 (makeM ns)))[at_]) := by
        rw [<- hm, List.getElem?_map, List.getElem?_eq_getElem hat]; rfl
      have N1 := mod_even sg _ at_ _ hx
      have hk := (hok _ (List.getElem_mem hat)).1
      rcases Decidable.em ((toksAt 0 (pits 13 5 (makeM ns)))[at_].text = [40] \/ (toksAt 0 (pits 13 5 (makeM ns)))[at_].text = [41]) with hpar | hpar
      · exact hpar
      · exfalso
        have : npB (sgOf (toksAt 0 (pits 13 5 (makeM ns)))[at_]).kind (sgOf (toksAt 0 (pits 13 5 (makeM ns)))[at_]).text = 1 := by
          unfold npB sgOf
          rw [if_neg (by
            intro hh
            rcases hh with hh | hh
            · exact hk hh
            · exact hpar hh)]
        omega
theorem bkT_snoc (at_ : Nat) (odd : Bool) (x : List UInt8) : ∀ (ts : List Tok) (k : Nat) (t : Tok), bkT at_ odd x k (ts ++ [t]) = bkT at_ odd x k ts ++ ((if k + ts.length = at_ /\ odd = true then [32] ++ x else []) ++ (if k + ts.length = at_ /\ odd = false then [] else [32] ++ t.text))
  | [], k, t => by simp [bkT]
  | y :: ts, k, t => by
    rw [List.cons_append, bkT, bkT, bkT_snoc at_ odd x ts (k + 1) t, List.length_cons, show k + 1 + ts.length = k + (ts.length + 1) by omega]
    simp
theorem bkT_step {ts : List Tok} {i : Nat} {t : Tok} (h : ts[i]? = some t) (at_ : Nat) (odd : Bool) (x : List UInt8) : bkT at_ odd x 0 (ts.take (i + 1)) = bkT at_ odd x 0 (ts.take i) ++ ((if i = at_ /\ odd = true then [32] ++ x else []) ++ (if i = at_ /\ odd = false then [] else [32] ++ t.text)) := by
  have hi : i < ts.length := by
    rcases Nat.lt_or_ge i ts.length with h' | h'
    · exact h'
    · rw [List.getElem?_eq_none h'] at h; cases h
  rw [List.take_add_one, h]
  show bkT at_ odd x 0 (ts.take i ++ [t]) = _
  rw [bkT_snoc, List.length_take, Nat.min_eq_left (by omega), Nat.zero_add]
theorem bkT_len (at_ : Nat) (odd : Bool) (x : List UInt8) : ∀ (ts : List Tok) (k : Nat), (bkT at_ odd x k ts).length <= Bt ts + ts.length * (2 + x.length)
  | [], k => by simp [bkT]
  | t :: ts, k => by
    have ih := bkT_len at_ odd x ts (k + 1)
    rw [bkT, Bt_cons, List.length_cons, Nat.add_mul, Nat.one_mul]
    have h1 : (if k = at_ /\ odd = true then [32] ++ x else []).length <= 1 + x.length := by split <;> simp; omega
    have h2 : (if k = at_ /\ odd = false then [] else [32] ++ t.text).length <= 1 + t.text.length := by split <;> simp; omega
    simp only [List.length_append]
    omega
theorem Bt_take (ts : List Tok) (i : Nat) : Bt (ts.take i) <= Bt ts := by
  have : Bt ts = Bt (ts.take i) + Bt (ts.drop i) := by rw [<- Bt_append, List.take_append_drop]
  omega
def signs8 : List Sg := [sn [59], sn [123], sn [125], sn [61], kw kThread, sn [91], sn [93], dg 7]
theorem signs8_ok : ∀ s ∈ signs8, free s /\ npB s.kind s.text = 1 /\ s.text.length <= 6 := fun s hs => by
  simp only [signs8, List.mem_cons, List.not_mem_nil, or_false] at hs
  have d7 : decDigits 7 = [55] := Go.Lib.decDigits_one (by omega)
  rcases hs with rfl | rfl | rfl | rfl | rfl | rfl | rfl | rfl
  · exact ⟨free_sn (by decide), by decide, by decide⟩
  · exact ⟨free_sn (by decide), by decide, by decide⟩
  · exact ⟨free_sn (by decide), by decide, by decide⟩
  · exact ⟨free_sn (by decide), by decide, by decide⟩
  · exact ⟨free_kw (by decide), by decide, by decide⟩
  · exact ⟨free_sn (by decide), by decide, by decide⟩
  · exact ⟨free_sn (by decide), by decide, by decide⟩
  · exact ⟨free_dg (by omega), by unfold dg npB; rw [d7]; decide, by unfold dg; rw [d7]; decide⟩
end Go.Proofs.YtfginegegaokbaaGreatDoor.Pr
