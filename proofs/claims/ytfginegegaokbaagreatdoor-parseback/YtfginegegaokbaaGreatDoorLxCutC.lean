/- What lex.Cut answers when it is called: a text's tokens in new memory, or an error that tells what is wrong and where. Conditions: the package variables hold what their initialisers lay. -/
import Derived.Test.YtfginegegaokbaaGreatDoorLxRead
namespace Go.Proofs.YtfginegegaokbaaGreatDoor.Lx
open Go.ChangeShapes Go.WideShapes Go.ChangeAt Go.RowKit
set_option linter.unusedVariables false

def Tok.cells (t : Tok) : List Value := [.int .i64 t.kind, .string (bstr t.text), .int .u64 t.value, .int .i64 t.at_]
def rowOf (ts : List Tok) : List Value := ts.flatMap Tok.cells
theorem rowOf_snoc (ts : List Tok) (t : Tok) : rowOf (ts ++ [t]) = rowOf ts ++ t.cells := by simp [rowOf]

/-- What Cut leaves; B: from which block on memory is new. -/
def CutPost (B : Nat) (r : Res) (e : Ending) (w' : World) : Prop :=
  match r with
  | .ok ts => ∃ v, e = .returned (.tuple #[v, .nilIface]) ∧ w'.ownsRow B 48 4 v ts.length (rowOf ts)
  | .error (n, p) => ∃ fb, e = .returned (.tuple #[.slice none 0 0, .iface 96 (.pointer (some ⟨fb, 0, none⟩))]) ∧ B ≤ fb ∧ w'.heap[fb]? = some (.cells #[.int .i64 (p : Int), .iface 38 (.int .i64 (n : Int))] 100 (0, 0))

theorem Tryz.info32 : (Tryz.prog.info? 48).map (fun i => (i.zero, i.size, i.bytes)) = some (some (.agg #[.int .i64 0, .string ⟨#[]⟩, .int .u64 0, .int .i64 0]), 4, 40) := by kernel_rfl

theorem owns_base {w : World} {b b' : Nat} {e : TypeId} {size : Nat} {v : Value} {n : Nat} {xs : List Value} (h : w.ownsRow b e size v n xs) (hb : b' ≤ b) : w.ownsRow b' e size v n xs := by
  obtain ⟨h1, h2⟩ := h
  refine ⟨h1, ?_⟩
  rcases h2 with h2 | ⟨g, cap, cur, hv, hg, r⟩
  · exact Or.inl h2
  · exact Or.inr ⟨g, cap, cur, hv, by omega, r⟩

/-- One token more: 'append(tokens, t)'. -/
theorem append_tok {ops : Array Oper} {rest : List Oper} {o : Oper} {a : Act} {Q : Exit → Act → World → Prop} (W : World) (x0 x1 x2 x3 : Value) (hgd : o.guard = none) (s x : Operand)
    (ho : o.op = .call { callee := .builtin .append, args := #[s, x], argTypes := #[41, 41] })
    (base : Nat) (v : Value) (n : Nat) (xs : List Value) (hs : a.eval s = v) (hown : W.ownsRow base 48 4 v n xs)
    (b : Nat) (hx : a.eval x = .slice (some ⟨b, 0, none⟩) 1 1) (hb : b = W.heap.size) (ho0 : x0.oneCell' = true) (ho1 : x1.oneCell' = true) (ho2 : x2.oneCell' = true) (ho3 : x3.oneCell' = true) (hn : n ≤ 65536) (hbase : base ≤ W.heap.size)
    (h : ∀ v' w', w'.ownsRow base 48 4 v' (n + 1) (xs ++ [x0, x1, x2, x3]) → (W.alloc (.cells #[x0, x1, x2, x3] 48)).grownBy w' v.ownBlock → wpList Tryz.prog ops Q rest (a.put o.dst v') w') :
    wpList Tryz.prog ops Q (o :: rest) a (W.alloc (.cells #[x0, x1, x2, x3] 48)) := by
  subst hb
  obtain ⟨i0, hi, hz0, hz1, hz2⟩ := info_parts Tryz.info32
  refine wpList_append_own _ hgd s x 41 ho base 48 i0 _ 4 40 Tryz.underlying41 hi hz0 hz1 hz2 rfl (by decide) v n xs hs (hown.alloc _) ⟨W.heap.size, 0, none⟩ 1 1 [x0, x1, x2, x3] hx rfl ?_ ?_ ?_ ?_ ?_ ?_
  · intro j u hj
    match j, hj with
    | 0, hj => simp at hj; subst hj; simp [Addr.add]
    | 1, hj => simp at hj; subst hj; simp [Addr.add]
    | 2, hj => simp at hj; subst hj; simp [Addr.add]
    | 3, hj => simp at hj; subst hj; simp [Addr.add]
  · intro u hu
    simp at hu
    rcases hu with rfl | rfl | rfl | rfl <;> assumption
  · unfold maxLen; omega
  · omega
  · simp; omega
  · intro v' w' h1 h2 _
    exact h v' w' h1 h2

theorem lexSkip_at (s : ByteArray) (k m : Nat) (w : World) (hs : s.size ≤ 65536) (h0 : k ≤ s.size) (hm : Hid (k + blanks false ((bys s).drop k) = m)) :
    Calls Tryz.prog 38 #[.string s, .int .i64 (k : Int)] w fun e w' => e = .returned (.int .i64 (m : Int)) ∧ w' = w := hm.out ▸ lexSkip s k w hs h0
theorem lexSkip_plus (s : ByteArray) (k n m : Nat) (w : World) (hs : s.size ≤ 65536) (h0 : k + n ≤ s.size) (hm : Hid (k + n + blanks false ((bys s).drop (k + n)) = m)) :
    Calls Tryz.prog 38 #[.string s, .int .i64 ((k : Int) + (n : Int))] w fun e w' => e = .returned (.int .i64 (m : Int)) ∧ w' = w := by
  have := lexSkip_at s (k + n) m w hs h0 hm
  rwa [show (((k + n : Nat)) : Int) = (k : Int) + (n : Int) from by omega] at this
theorem read_some (s : ByteArray) (k kb : Nat) (t : Tok) (w : World) (hs : s.size ≤ 65536) (hk : k < s.size) (hV : Vars w) (hT : Table w kb) (ht : Hid (readTok ((bys s).drop k) k = some t)) :
    Calls Tryz.prog 39 #[.string s, .int .i64 k, .pointer (some ⟨kb, 0, none⟩)] w fun e w' => e = .returned (.tuple #[.agg #[.int .i64 t.kind, .string (bstr t.text), .int .u64 t.value, .int .i64 t.at_], .bool true]) ∧ Table w' kb ∧ w.grownBy w' (some kb) := by
  have := read_any s k kb w hs hk hV hT
  rw [ht.out] at this
  exact this
theorem read_none (s : ByteArray) (k kb : Nat) (w : World) (hs : s.size ≤ 65536) (hk : k < s.size) (hV : Vars w) (hT : Table w kb) (ht : Hid (readTok ((bys s).drop k) k = none)) :
    Calls Tryz.prog 39 #[.string s, .int .i64 k, .pointer (some ⟨kb, 0, none⟩)] w fun e w' => e = .returned (.tuple #[.agg #[.int .i64 0, .string ⟨#[]⟩, .int .u64 0, .int .i64 0], .bool false]) ∧ Table w' kb ∧ w.grownBy w' (some kb) := by
  have := read_any s k kb w hs hk hV hT
  rw [ht.out] at this
  exact this

theorem cut_long (s : ByteArray) (w : World) (hs : 65536 < s.size) (hm : s.size ≤ maxLen) :
    Calls Tryz.prog 18 #[.string s] w fun e w' => CutPost w.heap.size (.err 6 0) e w' ∧ Below w.heap.size w w' := by
  unfold maxLen at hm
  go_enter Tryz.func18, Tryz.ntmps18
  go_wp2_with (go_at_call 36; refine (wrap_any _ _ _).mono ?_; rintro e w' ⟨rfl, rfl⟩)
  go_ret2
  exact ⟨⟨_, rfl, Nat.le_refl _, heap_alloc_new w _⟩, (Below.refl _ _).alloc (Nat.le_refl _) _⟩

/-- How a round's end follows from its beginning. -/
theorem next_round {L : List UInt8} {k f n m : Nat} {ts : List Tok} {t : Tok} (hk : k < L.length) (hf : L.length - k < f) (hc : cutTok L = (goTok f (L.drop k) k).pre ts)
    (ht : readTok (L.drop k) k = some t) (hn : t.text.length = n) (hm : k + n + blanks false (L.drop (k + n)) = m) :
    ∃ f', L.length - m < f' ∧ cutTok L = (goTok f' (L.drop m) m).pre (ts ++ [t]) := by
  obtain ⟨f', rfl⟩ : ∃ f', f = f' + 1 := ⟨f - 1, by omega⟩
  obtain ⟨n', _, h1, _, h3, _⟩ := readTok_some ht
  have hn' : 0 < n := by omega
  refine ⟨f', by omega, ?_⟩
  have e : (L.drop k).drop n = L.drop (k + n) := List.drop_drop
  rw [hc, goTok_some ht, Res.pre_pre, hn, e, List.drop_drop, hm]

theorem own_type {w : World} {base : Nat} {v : Value} {n : Nat} {xs : List Value} (h : w.ownsRow base 48 4 v n xs) : ∀ j, v.ownBlock = some j → ∃ c t f, w.heap[j]? = some (.cells c t f) ∧ t ≠ 119 := by
  intro j hj
  obtain ⟨_, h2⟩ := h
  rcases h2 with ⟨rfl, _⟩ | ⟨g, cap, cur, rfl, hg, hh, _⟩
  · cases hj
  · cases hj; exact ⟨_, _, _, hh, by decide⟩
/-- What a round of Cut's loop leaves. -/
theorem round_rel {w w1 wr w2 w3 : World} {v v' : Value} {ts : List Tok} {t : Tok} (hs1 : w.heap.size ≤ w1.heap.size) (hsz : w1.heap.size + 1 ≤ wr.heap.size)
    (hown : wr.ownsRow (w1.heap.size + 1) 48 4 v ts.length (rowOf ts)) (hnx : Below w.heap.size w wr) (hT2 : Table w2 w1.heap.size) (hg2 : wr.grownBy w2 (some w1.heap.size))
    (hown3 : w3.ownsRow (w1.heap.size + 1) 48 4 v' (ts.length + 1) (rowOf ts ++ [.int .i64 t.kind, .string (bstr t.text), .int .u64 t.value, .int .i64 t.at_]))
    (hg3 : ((w2.alloc (.cells #[.int .i64 t.kind, .string (bstr t.text), .int .u64 t.value, .int .i64 t.at_] 48)).alloc (.cells #[.int .i64 t.kind, .string (bstr t.text), .int .u64 t.value, .int .i64 t.at_] 48)).grownBy w3 v.ownBlock) :
    w3.ownsRow (w1.heap.size + 1) 48 4 v' (ts ++ [t]).length (rowOf (ts ++ [t])) ∧ Table w3 w1.heap.size ∧ Below w.heap.size w w3 ∧ w1.heap.size + 1 ≤ w3.heap.size ∧ w3.cell? ⟨w2.heap.size, 1, none⟩ = some (.string (bstr t.text)) := by
  have hz2 := hg2.size
  have hz3 := hg3.size
  have hlt := hown.lt
  have hown2 : ((w2.alloc (.cells #[.int .i64 t.kind, .string (bstr t.text), .int .u64 t.value, .int .i64 t.at_] 48)).alloc (.cells #[.int .i64 t.kind, .string (bstr t.text), .int .u64 t.value, .int .i64 t.at_] 48)).ownsRow (w1.heap.size + 1) 48 4 v ts.length (rowOf ts) :=
    ((hown.kept hg2 (Or.inr (fun e => by have := (hlt _ e).1; omega))).alloc _).alloc _
  simp at hz3
  refine ⟨?_, ?_, ?_, by omega, ?_⟩
  · rw [rowOf_snoc, List.length_append]; exact hown3
  · exact ((hT2.step (World.grownBy_alloc _ _ none) (fun j hj => by cases hj)).step (World.grownBy_alloc _ _ none) (fun j hj => by cases hj)).step hg3 (own_type hown2)
  · have hz0 := hnx.size
    have b1 := hnx.grown hg2 hnx.size (fun k hk => by cases hk; omega)
    have b2 := (b1.alloc (Nat.le_trans hz0 hz2) (.cells #[.int .i64 t.kind, .string (bstr t.text), .int .u64 t.value, .int .i64 t.at_] 48)).alloc (by simp; omega) (.cells #[.int .i64 t.kind, .string (bstr t.text), .int .u64 t.value, .int .i64 t.at_] 48)
    exact b2.grown hg3 (by simp; omega) (fun k hk => by have := (hlt k hk).1; omega)
  · refine hg3.cell (a := ⟨w2.heap.size, 1, none⟩) ?_ (fun e => ?_)
    · rw [World.cell?_alloc_lt _ _ ⟨w2.heap.size, 1, none⟩ (by simp)]; simp
    · have := (hlt _ e.symm).2; simp only at this; omega
set_option maxRecDepth 100000 in
set_option maxHeartbeats 8000000 in
theorem cut_short (s : ByteArray) (w : World) (hs : s.size ≤ 65536) (hV : Vars w) :
    Calls Tryz.prog 18 #[.string s] w fun e w' => CutPost w.heap.size (cutTok (bys s)) e w' ∧ Below w.heap.size w w' := by
  have h2 := hV.lt
  obtain ⟨m0, hm0⟩ : ∃ m, 0 + blanks false ((bys s).drop 0) = m := ⟨_, rfl⟩
  have hm0s : m0 ≤ s.size := by have := blanks_le false ((bys s).drop 0); rw [List.length_drop, bys_length] at this; omega
  have HM0 : Hid (0 + blanks false ((bys s).drop 0) = m0) := hm0
  have HC0 : Hid (cutTok (bys s) = (goTok ((bys s).length + 1) ((bys s).drop m0) m0).pre []) := by
    show _ = _
    have e : blanks false (bys s) = m0 := by rw [← hm0]; simp
    rw [Res.pre_nil, cutTok, e]
  clear hm0
  go_enter Tryz.func18, Tryz.ntmps18
  go_wp2_with (first | (go_at_call 37; refine (clone_any s _ (by omega)).mono ?_; rintro e w1 ⟨rfl, hb1⟩) | (go_at_call 38; refine (lexSkip_at s 0 m0 _ hs (by omega) HM0).mono ?_; rintro e w' ⟨rfl, rfl⟩))
  have hs1 := hb1.size
  go_loopw [5, 6] (fun v i wr => ∃ (k f : Nat) (ts : List Tok), k ≤ s.size ∧ i = .int .i64 k ∧ wr.ownsRow (w1.heap.size + 1) 48 4 v ts.length (rowOf ts) ∧ Table wr w1.heap.size ∧ Below w.heap.size w wr ∧ ts.length ≤ k ∧ w1.heap.size + 1 ≤ wr.heap.size ∧
      Hid ((bys s).length - k < f ∧ cutTok (bys s) = (goTok f ((bys s).drop k) k).pre ts))
    (fun _ i _ => s.size - (intOf i).toNat)
  case atStart =>
    refine ⟨m0, (bys s).length + 1, [], hm0s, rfl, World.ownsRow_nil _ _ _ _, Or.inl (heap_alloc_new w1 _), hb1.alloc hs1 _, by simp, by simp, by omega, HC0.out⟩
  case round =>
    obtain ⟨k, f, ts, hk, rfl, hown, hT, hnx, htl, hsz, HH⟩ := hrel
    have hVr := hV.grown hnx h2
    clear HM0 HC0
    by_cases hlt : k < s.size
    · cases hr : readTok ((bys s).drop k) k with
      | none =>
        have HR : Hid (readTok ((bys s).drop k) k = none) := hr
        clear hr
        go_wp2_with (first | (go_at_call 39; refine (read_none s k w1.heap.size _ hs hlt hVr hT HR).mono ?_; rintro e w2 ⟨rfl, hT2, hg2⟩) | (go_at_call 36; refine (wrap_any _ _ _).mono ?_; rintro e w' ⟨rfl, rfl⟩))
        go_ret2
        have hz2 := hg2.size
        have b1 := hnx.grown hg2 hnx.size (fun k hk => by cases hk; exact hs1)
        have b2 := (b1.alloc (Nat.le_trans hnx.size hz2) (.cells #[.int .i64 0, .string ⟨#[]⟩, .int .u64 0, .int .i64 0] 48)).alloc (by simp; have := hnx.size; omega) (.cells #[.int .i64 (k : Int), .iface 38 (.int .i64 1)] 100)
        obtain ⟨hf, hcut⟩ := HH.out
        obtain ⟨f', rfl⟩ : ∃ f', f = f' + 1 := ⟨f - 1, by omega⟩
        have hne : (bys s).drop k ≠ [] := by rw [drop_cons s k hlt]; simp
        rw [hcut, goTok_none hne HR.out]
        refine ⟨⟨_, rfl, ?_, ?_⟩, b2⟩
        · have := hnx.size; omega
        · have := heap_alloc_new (w2.alloc (.cells #[.int .i64 0, .string ⟨#[]⟩, .int .u64 0, .int .i64 0] 48)) (.cells #[.int .i64 (k : Int), .iface 38 (.int .i64 1)] 100)
          simpa using this
      | some t =>
        have HR : Hid (readTok ((bys s).drop k) k = some t) := hr
        obtain ⟨n, hn⟩ : ∃ n, t.text.length = n := ⟨_, rfl⟩
        obtain ⟨m, hm⟩ : ∃ m, k + n + blanks false ((bys s).drop (k + n)) = m := ⟨_, rfl⟩
        have hnn : 0 < n ∧ k + n ≤ s.size := by
          obtain ⟨n', _, h1, h2, h3, _⟩ := readTok_some hr
          rw [List.length_drop, bys_length] at h2
          omega
        obtain ⟨hn0, hkn⟩ := hnn
        have hms : m ≤ s.size := by have := blanks_le false ((bys s).drop (k + n)); rw [List.length_drop, bys_length] at this; omega
        have HX : Hid (∃ f', (bys s).length - m < f' ∧ cutTok (bys s) = (goTok f' ((bys s).drop m) m).pre (ts ++ [t])) := next_round (by rw [bys_length]; exact hlt) HH.out.1 HH.out.2 hr hn hm
        have HM : Hid (k + n + blanks false ((bys s).drop (k + n)) = m) := hm
        have hbn : (bstr t.text).size = n := by rw [bstr_size, hn]
        have hkm : k < m := by omega
        clear hr hn hm HH
        go_wp2_with (first | (go_at_call 39; refine (read_some s k w1.heap.size t _ hs hlt hVr hT HR).mono ?_; rintro e w2 ⟨rfl, hT2, hg2⟩; have hz2 := hg2.size; have hown2 := (hown.kept hg2 (Or.inr (fun e => by have := (hown.lt _ e).1; omega))).alloc (.cells #[.int .i64 t.kind, .string (bstr t.text), .int .u64 t.value, .int .i64 t.at_] 48)) | (at_builtin; refine append_tok _ _ _ _ _ rfl _ _ rfl (w1.heap.size + 1) _ _ _ rfl hown2 _ rfl (by simp) rfl rfl rfl rfl (by omega) (by simp; omega) ?_; intro v' w3 hown3 hg3; obtain ⟨R1, R2, R3, R4, c1⟩ := round_rel hs1 hsz hown hnx hT2 hg2 hown3 hg3) | (go_at_call 38; refine (lexSkip_plus s k n m _ hs hkn HM).mono ?_; rintro e w' ⟨rfl, rfl⟩))
        go_roundw
        case rel =>
          obtain ⟨f', hf', hcut'⟩ := HX.out
          exact ⟨m, f', ts ++ [t], hms, rfl, R1, R2, R3, by simp; omega, R4, hf', hcut'⟩
        case measure => simp [intOf]; omega
    · obtain rfl : k = s.size := by omega
      go_wp2_with (at_builtin; refine append_tok _ _ _ _ _ rfl _ _ rfl (w1.heap.size + 1) _ _ _ rfl hown _ rfl rfl rfl rfl rfl rfl (by omega) hsz ?_; intro v' w3 hown3 hg3)
      go_ret2
      obtain ⟨hf, hcut⟩ := HH.out
      obtain ⟨f', rfl⟩ : ∃ f', f = f' + 1 := ⟨f - 1, by omega⟩
      rw [hcut, drop_all s s.size (by omega), goTok_nil]
      refine ⟨⟨_, rfl, owns_base (b := w1.heap.size + 1) ?_ (by omega)⟩, ?_⟩
      · rw [rowOf_snoc, List.length_append]; exact hown3
      · exact (hnx.alloc hnx.size _).grown hg3 (by simp; have := hnx.size; omega) (fun k hk => by have := (hown.lt k hk).1; omega)

/-- lex.Cut. -/
theorem cut_any (s : ByteArray) (w : World) (hm : s.size ≤ maxLen) (hV : Vars w) :
    Calls Tryz.prog 18 #[.string s] w fun e w' => CutPost w.heap.size (cutAll (bys s)) e w' ∧ Below w.heap.size w w' := by
  unfold cutAll
  rw [bys_length]
  split
  · exact cut_long s w ‹_› hm
  · exact cut_short s w (by omega) hV
end Go.Proofs.YtfginegegaokbaaGreatDoor.Lx
