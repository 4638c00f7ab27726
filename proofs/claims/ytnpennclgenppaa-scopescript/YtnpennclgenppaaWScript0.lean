/- The state of ScopeScript from deed to deed. Conditions: none. -/
import Derived.Test.YtnpennclgenppaaScPlain
import Derived.Test.YtnpennclgenppaaWHides
import Derived.Test.YtnpennclgenppaaScLeave
namespace Go.Proofs.Ytnpennclgenppaa
open Go.ChangeShapes Go.WideShapes Go.RowKit Go.Maps
set_option linter.unusedVariables false
set_option linter.unusedSimpArgs false

@[reducible] def eightObj : Obj := .cells #[.string ⟨#[97]⟩, .string ⟨#[98]⟩, .string ⟨#[99]⟩, .string ⟨#[100]⟩, .string ⟨#[101]⟩, .string ⟨#[102]⟩, .string ⟨#[103]⟩, .string ⟨#[104]⟩] 9
theorem eight_cell {w : World} {g c : Nat} (h : w.heap[g]? = some eightObj) (hc : c < 8) : w.cell? ⟨g, c, none⟩ = some (.string (nmN c)) := by
  rw [Lib.cell_of_heap h]
  match c, hc with
  | 0, _ => rfl
  | 1, _ => rfl
  | 2, _ => rfl
  | 3, _ => rfl
  | 4, _ => rfl
  | 5, _ => rfl
  | 6, _ => rfl
  | 7, _ => rfl
def dflat (ds : List Dc) : List Value := (ds.map dcell).flatten
def eflat (ls : List Ent) : List Value := (ls.map ecell).flatten
theorem dflat_len (ds : List Dc) : (dflat ds).length = ds.length * 6 := by
  induction ds with
  | nil => rfl
  | cons d ds ih =>
    have : dflat (d :: ds) = dcell d ++ dflat ds := rfl
    rw [this, List.length_append, ih, List.length_cons]; simp; omega
theorem eflat_len (ls : List Ent) : (eflat ls).length = ls.length * 3 := by
  induction ls with
  | nil => rfl
  | cons d ls ih =>
    have : eflat (d :: ls) = ecell d ++ eflat ls := rfl
    rw [this, List.length_append, ih, List.length_cons]; simp; omega
theorem dflat_at : ∀ (ds : List Dc) (i : Nat) (d : Dc) (r : Nat), ds[i]? = some d → r < 6 → (dflat ds)[i * 6 + r]? = (dcell d)[r]?
  | [], i, d, r, h, _ => by simp at h
  | x :: ds, 0, d, r, h, hr => by
    simp at h; subst h
    rw [show dflat (x :: ds) = dcell x ++ dflat ds from rfl, List.getElem?_append_left (by simp; omega)]
    simp
  | x :: ds, i + 1, d, r, h, hr => by
    have ih := dflat_at ds i d r (by simpa using h) hr
    rw [show dflat (x :: ds) = dcell x ++ dflat ds from rfl, List.getElem?_append_right (by simp; omega), ← ih]
    congr 1
    simp; omega
theorem eflat_at : ∀ (ls : List Ent) (i : Nat) (d : Ent) (r : Nat), ls[i]? = some d → r < 3 → (eflat ls)[i * 3 + r]? = (ecell d)[r]?
  | [], i, d, r, h, _ => by simp at h
  | x :: ds, 0, d, r, h, hr => by
    simp at h; subst h
    rw [show eflat (x :: ds) = ecell x ++ eflat ds from rfl, List.getElem?_append_left (by simp; omega)]
    simp
  | x :: ds, i + 1, d, r, h, hr => by
    have ih := eflat_at ds i d r (by simpa using h) hr
    rw [show eflat (x :: ds) = ecell x ++ eflat ds from rfl, List.getElem?_append_right (by simp; omega), ← ih]
    congr 1
    simp; omega
theorem dflat_one (ds : List Dc) : ∀ u ∈ dflat ds, u.oneCell' = true := fun u hu => by
  obtain ⟨l, hl, hul⟩ := List.mem_flatten.1 hu
  obtain ⟨d, _, rfl⟩ := List.mem_map.1 hl
  simp at hul
  rcases hul with rfl | rfl | rfl | rfl | rfl | rfl <;> rfl
theorem eflat_one (ls : List Ent) : ∀ u ∈ eflat ls, u.oneCell' = true := fun u hu => by
  obtain ⟨l, hl, hul⟩ := List.mem_flatten.1 hu
  obtain ⟨d, _, rfl⟩ := List.mem_map.1 hl
  simp at hul
  rcases hul with rfl | rfl | rfl <;> rfl
theorem dflat_snoc (ds : List Dc) (d : Dc) : dflat (ds ++ [d]) = dflat ds ++ dcell d := by simp [dflat]
theorem eflat_snoc (ls : List Ent) (e : Ent) : eflat (ls ++ [e]) = eflat ls ++ ecell e := by simp [eflat]
/-- A row that a call owns, as a source. -/
theorem src_of_own {w : World} {B : Nat} {e : TypeId} {sz n : Nat} {v : Value} {xs : List Value} (h : w.ownsRow B e sz v n xs) (h1 : ∀ u ∈ xs, u.oneCell' = true) : SrcAt w sz v n xs ∧ (∀ g, v.ownBlock = some g → g < w.heap.size ∧ B ≤ g) := by
  refine ⟨⟨h.1, h1, ?_⟩, fun g hg => ?_⟩
  · rcases h.2 with h0 | ⟨g, cap, cur, rfl, hb, hgg, rest⟩
    · exact .inl h0
    · refine .inr ⟨g, 0, cap, rfl, fun j u hu => ?_⟩
      have := World.ownsRow.cells h (g := g) rfl j u hu
      first | (rw [Addr.add_lit] at this; exact this) | (rw [add_plain] at this; exact this)
  · rcases h.2 with ⟨rfl, _⟩ | ⟨g', cap, cur, rfl, hb, hgg, rest⟩
    · cases hg
    · cases hg; exact ⟨heap_lt hgg, hb⟩
theorem src_slice {w : World} {sz n : Nat} {v : Value} {xs : List Value} (h : SrcAt w sz v n xs) : ∃ ao cap, v = .slice ao n cap := by
  rcases h.2.2 with ⟨rfl, rfl⟩ | ⟨g, off, c, rfl, _⟩
  · exact ⟨_, _, rfl⟩
  · exact ⟨_, _, rfl⟩
theorem ds_of_src {w : World} {v : Value} {ds : List Dc} (h : SrcAt w 6 v ds.length (dflat ds)) (hb : ∀ g, v.ownBlock = some g → g < w.heap.size) (hl : ds.length ≤ 1000) (hn : ∀ d ∈ ds, d.name.size ≤ maxLen ∧ d.by_.size ≤ maxLen) : DsAt w v ds := by
  obtain ⟨ao, cap, rfl⟩ := src_slice h
  refine ⟨ao, cap, rfl, by omega, fun i d hd => ?_⟩
  obtain ⟨n1, n2⟩ := hn d (List.mem_of_getElem? hd)
  rcases h.2.2 with ⟨_, h0⟩ | ⟨g, off, c, e, hc⟩
  · have : i < ds.length := (List.getElem?_eq_some_iff.1 hd).1; omega
  · cases e
    have key : ∀ r u, r < 6 → (dcell d)[r]? = some u → w.cell? ⟨g, off + i * 6 + r, none⟩ = some u := fun r u hr hu => by
      rw [Nat.add_assoc]; exact hc _ _ (by rw [dflat_at ds i d r hd hr]; exact hu)
    exact ⟨n1, n2, g, off, rfl, hb g rfl, key 0 _ (by omega) rfl, key 1 _ (by omega) rfl, key 2 _ (by omega) rfl, key 3 _ (by omega) rfl, key 4 _ (by omega) rfl, key 5 _ (by omega) rfl⟩
theorem es_of_src {w : World} {v : Value} {ls : List Ent} (h : SrcAt w 3 v ls.length (eflat ls)) (hb : ∀ g, v.ownBlock = some g → g < w.heap.size) (hl : ls.length ≤ 1000) : EsAt w v ls := by
  obtain ⟨ao, cap, rfl⟩ := src_slice h
  refine ⟨ao, cap, rfl, by omega, fun i d hd => ?_⟩
  rcases h.2.2 with ⟨_, h0⟩ | ⟨g, off, c, e, hc⟩
  · have : i < ls.length := (List.getElem?_eq_some_iff.1 hd).1; omega
  · cases e
    have key : ∀ r u, r < 3 → (ecell d)[r]? = some u → w.cell? ⟨g, off + i * 3 + r, none⟩ = some u := fun r u hr hu => by
      rw [Nat.add_assoc]; exact hc _ _ (by rw [eflat_at ls i d r hd hr]; exact hu)
    exact ⟨g, off, rfl, hb g rfl, key 0 _ (by omega) rfl, key 1 _ (by omega) rfl, key 2 _ (by omega) rfl⟩
theorem src_keep {w w' : World} {sz n : Nat} {v : Value} {xs : List Value} (h : SrcAt w sz v n xs) (hb : ∀ g, v.ownBlock = some g → w'.heap[g]? = w.heap[g]?) : SrcAt w' sz v n xs := by
  obtain ⟨x1, x2, x3⟩ := h
  refine ⟨x1, x2, x3.imp id ?_⟩
  rintro ⟨g, off, c, rfl, hc⟩
  exact ⟨g, off, c, rfl, fun j u hu => (World.cell?_of_block (hb g rfl)).trans (hc j u hu)⟩
/-- The declarations that are kept. -/
def DGood (w : World) (v : Value) (ds : List Dc) : Prop :=
  SrcAt w 6 v ds.length (dflat ds) ∧ (∀ g, v.ownBlock = some g → g < w.heap.size) ∧ firstBad none0 ds = none ∧ (∀ d ∈ ds, d.name.size ≤ maxLen ∧ d.by_.size ≤ maxLen) ∧ ∀ d ∈ ds, ∃ i, i < 8 ∧ d.name = nmN i
theorem DGood.nil (w : World) : DGood w (.slice none 0 0) [] := ⟨⟨rfl, fun u hu => (by cases hu), .inl ⟨rfl, rfl⟩⟩, fun g h => (by cases h), rfl, fun d hd => (by cases hd), fun d hd => by cases hd⟩
theorem DGood.few {w : World} {v : Value} {ds : List Dc} (h : DGood w v ds) : ds.length ≤ 8 := ds_few h.2.2.1 h.2.2.2.2
theorem DGood.ds {w : World} {v : Value} {ds : List Dc} (h : DGood w v ds) : DsAt w v ds := ds_of_src h.1 h.2.1 (by have := h.few; omega) h.2.2.2.1
theorem DGood.below {w w' : World} {v : Value} {ds : List Dc} (h : DGood w v ds) (hb : Below w.heap.size w w') : DGood w' v ds :=
  ⟨src_keep h.1 (fun g e => hb.block g (h.2.1 g e)), fun g e => Nat.lt_of_lt_of_le (h.2.1 g e) hb.size, h.2.2⟩
theorem declP_name (n b s l p : Int) (hn : 0 ≤ n) : ((declP n b s l p).name.size ≤ maxLen ∧ (declP n b s l p).by_.size ≤ maxLen) ∧ ∃ i, i < 8 ∧ (declP n b s l p).name = nmN i := by
  have e0 : (⟨#[]⟩ : ByteArray).size ≤ maxLen := by simp [ByteArray.size]
  unfold declP
  split
  · exact ⟨⟨nmN_size _, e0⟩, _, by omega, rfl⟩
  · refine ⟨⟨nmN_size _, ?_⟩, _, by omega, rfl⟩
    show (if b % 3 = 0 then nmN (b / 3 % 6).toNat else ⟨#[]⟩).size ≤ maxLen
    split
    · exact nmN_size _
    · exact e0
theorem dgood_next {w W0 w2 : World} {v v2 : Value} {ds : List Dc} (h : DGood W0 v ds) (n b s l p : Int) (hn : 0 ≤ n) (hown : w2.ownsRow W0.heap.size 30 6 v2 (ds.length + 1) (dflat ds ++ dcell (declP n b s l p))) :
    SrcAt w2 6 v2 (ds ++ [declP n b s l p]).length (dflat (ds ++ [declP n b s l p])) ∧ (∀ g, v2.ownBlock = some g → g < w2.heap.size) ∧ DsAt w2 v2 (ds ++ [declP n b s l p]) ∧ (firstBad none0 (ds ++ [declP n b s l p]) = none → DGood w2 v2 (ds ++ [declP n b s l p])) := by
  rw [← dflat_snoc] at hown
  obtain ⟨h1, h2⟩ := src_of_own hown (dflat_one _)
  have e1 : (ds ++ [declP n b s l p]).length = ds.length + 1 := by simp
  obtain ⟨p1, p2⟩ := declP_name n b s l p hn
  have hnm : ∀ d ∈ ds ++ [declP n b s l p], d.name.size ≤ maxLen ∧ d.by_.size ≤ maxLen := fun d hd => by
    rcases List.mem_append.1 hd with hd | hd
    · exact h.2.2.2.1 d hd
    · simp at hd; subst hd; exact p1
  have hn8 : ∀ d ∈ ds ++ [declP n b s l p], ∃ i, i < 8 ∧ d.name = nmN i := fun d hd => by
    rcases List.mem_append.1 hd with hd | hd
    · exact h.2.2.2.2 d hd
    · simp at hd; subst hd; exact p2
  rw [← e1] at h1
  have hfew := h.few
  exact ⟨h1, fun g e => (h2 g e).1, ds_of_src h1 (fun g e => (h2 g e).1) (by rw [e1]; omega) hnm, fun hF => ⟨h1, fun g e => (h2 g e).1, hF, hnm, hn8⟩⟩
def evOK (v : Value) : Prop := ∃ ao n c, v = .slice ao n c ∧ n ≤ c
def XX (B nb : Nat) (ev : Value) (k : Nat) : Prop := k < B ∨ k = nb ∨ ev.ownBlock = some k
/-- The state between two deeds. -/
def St (B nb bs N : Nat) (wB : World) (ds : List Dc) (ls : List Ent) (ev : Value) (w : World) : Prop :=
  ∃ f n, n ≤ N ∧ ScAt (XX B nb ev) bs n f (ls.map (·.name)) w ∧ SInv ds ls f ∧ SrcAt w 3 ev ls.length (eflat ls) ∧ (∀ g, ev.ownBlock = some g → g < w.heap.size) ∧ w.heap[nb]? = some eightObj ∧ Below B wB w ∧ B ≤ w.heap.size ∧ evOK ev
theorem St.below {B nb bs N : Nat} {wB : World} {ds : List Dc} {ls : List Ent} {ev : Value} {w w' : World} (h : St B nb bs N wB ds ls ev w) (hb : Below w.heap.size w w') : St B nb bs N wB ds ls ev w' := by
  obtain ⟨f, n, a1, a2, a3, a4, a5, a6, a7, a8, a9⟩ := h
  have hz := hb.size
  exact ⟨f, n, a1, a2.below hb, a3, src_keep a4 (fun g e => hb.block g (a5 g e)), fun g e => Nat.lt_of_lt_of_le (a5 g e) hz, (hb.block _ (heap_lt a6)).trans a6, a7.trans (hb.mono a8), by omega, a9⟩
theorem St.es {B nb bs N : Nat} {wB : World} {ds : List Dc} {ls : List Ent} {ev : Value} {w : World} (h : St B nb bs N wB ds ls ev w) : EsAt w ev ls := by
  obtain ⟨f, n, a1, a2, a3, a4, a5, a6, a7, a8, a9⟩ := h
  exact es_of_src a4 a5 (by have := a3.few; omega)
theorem St.few {B nb bs N : Nat} {wB : World} {ds : List Dc} {ls : List Ent} {ev : Value} {w : World} (h : St B nb bs N wB ds ls ev w) : ls.length ≤ 8 := by
  obtain ⟨f, n, a1, a2, a3, _⟩ := h
  exact a3.few
theorem St.mono {B nb bs N M : Nat} {wB : World} {ds : List Dc} {ls : List Ent} {ev : Value} {w : World} (h : St B nb bs N wB ds ls ev w) (hM : N ≤ M) : St B nb bs M wB ds ls ev w := by
  obtain ⟨f, n, a1, r⟩ := h
  exact ⟨f, n, by omega, r⟩
theorem St.find {B nb bs N : Nat} {wB : World} {ds : List Dc} {ls : List Ent} {ev : Value} {w : World} (h : St B nb bs N wB ds ls ev w) (s : ByteArray) (hs : s.size ≤ maxLen) :
    Calls Try.prog 13 #[.pointer (some ⟨bs, 0, none⟩), .string s] w fun e w' => e = .returned (mtup (findP ds ls s)) ∧ Below w.heap.size w w' := by
  obtain ⟨f, n, a1, a2, a3, _⟩ := h
  have := find_any a2 s hs
  rw [a3.1 s] at this
  exact this
theorem St.mark {B nb bs N : Nat} {wB : World} {ds : List Dc} {ls : List Ent} {ev : Value} {w : World} (h : St B nb bs N wB ds ls ev w) :
    Calls Try.prog 12 #[.pointer (some ⟨bs, 0, none⟩)] w fun e w' => e = .returned (.int .i64 ls.length) ∧ w' = w := by
  obtain ⟨f, n, a1, a2, a3, _⟩ := h
  have := mark_any a2
  rw [List.length_map] at this
  exact this
theorem keep_st {B nb bs N : Nat} {wB : World} {ds : List Dc} {ls ls' : List Ent} {ev ev' : Value} {w w' : World} {f' : ByteArray → Mng} {n' : Nat} (h : St B nb bs N wB ds ls ev w) (hk : KeepX (XX B nb ev) w w') (hn : n' ≤ N) (hS : ScAt (XX B nb ev) bs n' f' (ls'.map (·.name)) w') (hI : SInv ds ls' f')
    (hev : ev'.ownBlock = ev.ownBlock) (hsrc : SrcAt w 3 ev' ls'.length (eflat ls')) (hok : evOK ev') : St B nb bs N wB ds ls' ev' w' := by
  obtain ⟨f, n, a1, a2, a3, a4, a5, a6, a7, a8, a9⟩ := h
  have hz := hk.size
  have hX : XX B nb ev' = XX B nb ev := by unfold XX; rw [hev]
  refine ⟨f', n', hn, by rw [hX]; exact hS, hI, src_keep hsrc (fun g e => hk.block g (.inr (.inr (hev ▸ e))) (a5 g (hev ▸ e))), fun g e => Nat.lt_of_lt_of_le (a5 g (hev ▸ e)) hz, (hk.block nb (.inr (.inl rfl)) (heap_lt a6)).trans a6, ?_, by omega, hok⟩
  exact a7.trans (KeepX.below (hk.mono (fun k _ hB => Or.inl hB)) a8)
theorem take_src {w : World} {ls : List Ent} {g off cap m : Nat} (h : SrcAt w 3 (.slice (some ⟨g, off, none⟩) ls.length cap) ls.length (eflat ls)) (hm : m ≤ ls.length) : SrcAt w 3 (.slice (some ⟨g, off, none⟩) m cap) (ls.take m).length (eflat (ls.take m)) := by
  have e : (ls.take m).length = m := by simp; omega
  refine ⟨eflat_len _, eflat_one _, .inr ⟨g, off, cap, by rw [e], fun j u hu => ?_⟩⟩
  have hc : ∀ j u, (eflat ls)[j]? = some u → w.cell? ⟨g, off + j, none⟩ = some u := by
    rcases h.2.2 with ⟨h0, _⟩ | ⟨g', off', c', e', hc⟩
    · cases h0
    · cases e'; exact hc
  refine hc j u ?_
  have hj : j < (eflat (ls.take m)).length := (List.getElem?_eq_some_iff.1 hu).1
  have hsp : eflat ls = eflat (ls.take m) ++ eflat (ls.drop m) := by
    unfold eflat
    rw [← List.flatten_append, ← List.map_append, List.take_append_drop]
  rw [hsp, List.getElem?_append_left hj]; exact hu
theorem St.leave_in {B nb bs N : Nat} {wB : World} {ds : List Dc} {ls : List Ent} {g off cap : Nat} {w : World} (h : St B nb bs N wB ds ls (.slice (some ⟨g, off, none⟩) ls.length cap) w) (m : Nat) (hm : m < ls.length) :
    Calls Try.prog 9 #[.pointer (some ⟨bs, 0, none⟩), .int .i64 m] w fun e w' => e = .returned (.tuple #[]) ∧ St B nb bs N wB ds (ls.take m) (.slice (some ⟨g, off, none⟩) m cap) w' := by
  have hst := h
  obtain ⟨f, n, a1, a2, a3, a4, a5, a6, a7, a8, a9⟩ := h
  have hfew := a3.few
  refine (leave_yes a2 (by simp; omega) m (by simpa using hm)).mono ?_
  rintro e w' ⟨rfl, hS, hK⟩
  obtain ⟨ao, n', c', e', hle⟩ := a9
  cases e'
  refine ⟨rfl, keep_st hst hK a1 (by rw [← List.map_take] at hS; exact hS) (a3.leave m) rfl (take_src a4 (by omega)) ⟨_, _, _, rfl, by omega⟩⟩
theorem St.leave_out {B nb bs N : Nat} {wB : World} {ds : List Dc} {ls : List Ent} {ev : Value} {w : World} (h : St B nb bs N wB ds ls ev w) (ct : Int) (hc : ct < 0 ∨ (ls.length : Int) ≤ ct) :
    Calls Try.prog 9 #[.pointer (some ⟨bs, 0, none⟩), .int .i64 ct] w fun e w' => e = .returned (.tuple #[]) ∧ w' = w := by
  obtain ⟨f, n, a1, a2, _⟩ := h
  exact leave_no a2 ct (by simpa using hc)
theorem St.enter_out {B nb bs N : Nat} {wB : World} {ds : List Dc} {ls : List Ent} {ev : Value} {w : World} (h : St B nb bs N wB ds ls ev w) (s : ByteArray) (hs : s.size ≤ maxLen) (l c : Int) (hk : (findP ds ls s).kind ≠ 0) :
    Calls Try.prog 11 #[.pointer (some ⟨bs, 0, none⟩), .string s, .int .i64 l, .int .i64 c] w fun e w' => e = .returned (.bool false) ∧ w' = w := by
  obtain ⟨f, n, a1, a2, a3, _⟩ := h
  exact enter_no a2 s hs l c (by rw [a3.1 s]; exact hk)
/-- Behind Enter, before the list is longer. -/
def StE (B nb bs N r : Nat) (wB : World) (ds : List Dc) (ls : List Ent) (ev : Value) (x : Ent) (w : World) : Prop :=
  ∃ f n, n ≤ N ∧ ScAt (fun k => XX B nb ev k ∨ k = r) bs n f ((ls ++ [x]).map (·.name)) w ∧ SInv ds (ls ++ [x]) f ∧ SrcAt w 3 ev ls.length (eflat ls) ∧ (∀ g, ev.ownBlock = some g → g < w.heap.size) ∧ w.heap[nb]? = some eightObj ∧ Below B wB w ∧ B ≤ w.heap.size
theorem St.enter_in {B nb bs N : Nat} {wB : World} {ds : List Dc} {ls : List Ent} {ev : Value} {w : World} (h : St B nb bs N wB ds ls ev w) (W : World) (hb : Below w.heap.size w W) (r : Nat) (hr : w.heap.size ≤ r) (hr2 : r < W.heap.size) (i : Nat) (hi : i < 8) (l c : Int) (hk : (findP ds ls (nmN i)).kind = 0) (hN : N < maxLen) :
    Calls Try.prog 11 #[.pointer (some ⟨bs, 0, none⟩), .string (nmN i), .int .i64 l, .int .i64 c] W fun e w' => e = .returned (.bool true) ∧ StE B nb bs (N + 1) r wB ds ls ev ⟨nmN i, l, max 0 c⟩ w' ∧ w'.heap[r]? = W.heap[r]? ∧ W.heap.size ≤ w'.heap.size := by
  obtain ⟨f, n, a1, a2, a3, a4, a5, a6, a7, a8, a9⟩ := h
  have hzW := hb.size
  have hY : ScAt (fun k => XX B nb ev k ∨ k = r) bs n f (ls.map (·.name)) W := (a2.more (Y := fun k => XX B nb ev k ∨ k = r) (fun k hk' hy => hy.elim id (fun e => by omega))).below hb
  have hfew := a3.few
  have hnb := heap_lt a6
  refine (enter_yes hY (fun k hk' => ?_) (by omega) (by simp; omega) (nmN i) (nmN_size i) l c (by rw [a3.1]; exact hk)).mono ?_
  · rcases hk' with (h1 | h1 | h1) | h1
    · omega
    · omega
    · have := a5 k h1; omega
    · omega
  · rintro e w' ⟨rfl, hS, hK⟩
    have hz' := hK.size
    have kb : ∀ k, XX B nb ev k → k < w.heap.size → w'.heap[k]? = w.heap[k]? := fun k hx hl => (hK.block k (.inl hx) (by omega)).trans (hb.block k hl)
    refine ⟨rfl, ⟨_, n + 1, by omega, by rw [List.map_append]; exact hS, a3.enter hi l c hk, src_keep a4 (fun g e => kb g (.inr (.inr e)) (a5 g e)), fun g e => by have := a5 g e; omega, (kb nb (.inr (.inl rfl)) hnb).trans a6, ?_, by omega⟩, hK.block r (.inr rfl) hr2, hz'⟩
    have h1 : Below B W w' := KeepX.below (hK.mono (fun k _ hB => Or.inl (Or.inl hB))) (by omega)
    exact (a7.trans (hb.mono a8)).trans h1
theorem StE.finish {B nb bs N r : Nat} {wB : World} {ds : List Dc} {ls : List Ent} {ev v2 : Value} {x : Ent} {w w2 : World} (h : StE B nb bs N r wB ds ls ev x w) (hb : Below w.heap.size w w2) (hown : w2.ownsRow w.heap.size 48 3 v2 (ls.length + 1) (eflat ls ++ ecell x)) : St B nb bs N wB ds (ls ++ [x]) v2 w2 := by
  obtain ⟨f, n, a1, a2, a3, a4, a5, a6, a7, a8⟩ := h
  rw [← eflat_snoc] at hown
  obtain ⟨h1, h2⟩ := src_of_own hown (eflat_one _)
  have hz := hb.size
  have hnb := heap_lt a6
  have hY : ScAt (fun k => k < B ∨ k = nb ∨ w.heap.size ≤ k) bs n f ((ls ++ [x]).map (·.name)) w2 := (a2.more (fun k hk hy => hy.elim (fun e => Or.inl (Or.inl e)) (fun hy => hy.elim (fun e => Or.inl (Or.inr (Or.inl e))) (fun e => by omega)))).below hb
  refine ⟨f, n, a1, hY.more (fun k hk hx => ?_), a3, by rw [show (ls ++ [x]).length = ls.length + 1 by simp]; exact h1, fun g e => (h2 g e).1, (hb.block nb hnb).trans a6, a7.trans (hb.mono a8), by omega, ?_⟩
  · rcases hx with hx | hx | hx
    · exact .inl hx
    · exact .inr (.inl hx)
    · exact .inr (.inr (h2 k hx).2)
  · rcases hown.2 with ⟨rfl, _⟩ | ⟨g, cap, cur, rfl, _, _, hle, _⟩
    · exact ⟨_, _, _, rfl, Nat.le_refl _⟩
    · exact ⟨_, _, _, rfl, hle⟩
theorem St.start {B bs : Nat} {wA w5 : World} {ds : List Dc} (hB : B = wA.heap.size) (hF : firstBad none0 ds = none) (hS : ScAt (· < B) bs ds.length (meansOf none0 ds) [] w5) (hb : Below B wA w5) (N : Nat) (hN : ds.length ≤ N) : St B w5.heap.size bs N wA ds [] (.slice none 0 0) (w5.alloc eightObj) := by
  have hz := hb.size
  have hal : Below w5.heap.size w5 (w5.alloc eightObj) := (Below.refl _ _).alloc (Nat.le_refl _) _
  refine ⟨_, ds.length, hN, (hS.more (fun k hk hx => ?_)).below hal, SInv.start hF, ⟨rfl, fun u hu => (by cases hu), .inl ⟨rfl, rfl⟩⟩, fun g e => (by cases e), by rw [alloc_at, if_pos rfl], hb.trans (hal.mono (by omega)), by rw [alloc_size]; omega, ⟨_, _, _, rfl, Nat.le_refl _⟩⟩
  rcases hx with hx | hx | hx
  · exact hx
  · omega
  · cases hx
end Go.Proofs.Ytnpennclgenppaa
