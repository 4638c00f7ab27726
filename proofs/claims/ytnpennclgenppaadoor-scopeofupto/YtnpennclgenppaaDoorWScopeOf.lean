/- The walk of ScopeOf: on every input of at most a million numbers it returns true. Conditions: the variable errors.errorType holds what its initialiser lays. -/
import Derived.Test.YtnpennclgenppaaDoorScRows
import Derived.Test.YtnpennclgenppaaDoorErrAs2
namespace Go.Proofs.YtnpennclgenppaaDoor
open Go.ChangeShapes Go.WideShapes Go.RowKit Go.Maps
set_option linter.unusedVariables false
set_option linter.unusedSimpArgs false

theorem u8_wf {a : Int} (h : (Lit.int .u8 a).wf = true) : 0 ≤ a ∧ a < 256 := by
  simp [Lit.wf] at h
  have h1 : IntKind.u8.min = 0 := rfl
  have h2 : IntKind.u8.max = 255 := rfl
  omega
theorem TypeVar.below' {w w' : World} (hg : TypeVar w) (h : Below w.heap.size w w') : TypeVar w' := hg.below h
structure Quad where
  a : Int
  b : Int
  c : Int
  d : Int
/-- A list of four numbers each, in old memory. -/
def QuadsAt (w : World) (k : IntKind) (v : Value) (qs : List Quad) : Prop :=
  ∃ ao cap, v = .slice ao qs.length cap ∧ ∀ j q, qs[j]? = some q → (0 ≤ q.a ∧ q.a < 256) ∧ (0 ≤ q.b ∧ q.b < 256) ∧ (0 ≤ q.c ∧ q.c < 256) ∧ (Lit.int k q.d).wf = true ∧ ∃ g off, ao = some ⟨g, off, none⟩ ∧ g < w.heap.size ∧
    w.cell? ⟨g, off + j * 4, none⟩ = some (.int .u8 q.a) ∧ w.cell? ⟨g, off + j * 4 + 1, none⟩ = some (.int .u8 q.b) ∧ w.cell? ⟨g, off + j * 4 + 2, none⟩ = some (.int .u8 q.c) ∧ w.cell? ⟨g, off + j * 4 + 3, none⟩ = some (.int k q.d)
/-- What is known of the declarations so far. -/
def OInv (B k : Nat) (dv wv : Value) (w : World) : Prop :=
  ∃ ds, ds.length = k ∧ w.ownsRow B 29 6 dv ds.length (dflat ds) ∧ wv = .int .i64 (wrongP ds) ∧ (∀ d ∈ ds, d.name.size ≤ maxLen ∧ d.by_.size ≤ maxLen) ∧ (∀ d ∈ ds, 7 ≤ d.at_)
theorem own_slice {w : World} {B : Nat} {e : TypeId} {sz n : Nat} {v : Value} {xs : List Value} (h : w.ownsRow B e sz v n xs) : ∃ ao cap, v = .slice ao n cap := by
  rcases h.2 with ⟨rfl, rfl⟩ | ⟨g, cap, cur, rfl, _⟩
  · exact ⟨_, _, rfl⟩
  · exact ⟨_, _, rfl⟩
theorem declP_at (n b s l p : Int) : (declP n b s l p).at_ = p := by unfold declP; split <;> rfl

set_option maxHeartbeats 1000000 in
set_option maxRecDepth 100000 in
theorem of_walk (v0 : Value) (q0 : List Quad) (w : World) (h0 : QuadsAt w .u8 v0 q0) (n0 : q0.length ≤ 1048576) (hV : TypeVar w) :
    Calls Tryd.prog 3 #[v0] w fun e w' => e = .returned (.bool true) ∧ Below w.heap.size w w' := by
  obtain ⟨ao0, cap0, rfl, hq0⟩ := h0
  have HQ0 := Lib.hid hq0
  clear hq0
  have H0 := awake_any w
  go_enter Tryd.func3, Tryd.ntmps3
  go_wp2_with (go_at_call 4; refine H0.mono ?_; rintro e w1 ⟨rfl, hb0⟩)
  go_loopw [3, 4, 22] (fun dv wv iv wr => ∃ k : Nat, k ≤ q0.length ∧ iv = .int .i64 k ∧ OInv w1.heap.size k dv wv wr ∧ Below w1.heap.size w1 wr) (fun _ _ iv _ => q0.length - (intOf iv).toNat)
  case atStart => exact ⟨0, Nat.zero_le _, rfl, ⟨[], rfl, World.ownsRow_nil _ _ _ _, rfl, fun d hd => (by cases hd), fun d hd => by cases hd⟩, Below.refl _ _⟩
  case round =>
    obtain ⟨k, hk, rfl, ⟨ds, hdl, hown, rfl, hnm, hat⟩, hB⟩ := hrel
    obtain ⟨dao, dcap, rfl⟩ := own_slice hown
    by_cases hlt : k < q0.length
    · obtain ⟨q, hq⟩ : ∃ q, q0[k]? = some q := ⟨q0[k], by simp [hlt]⟩
      obtain ⟨ra, rb, rc, rd, g, off, rfl, hg, c0, c1, c2, c3⟩ := HQ0.out k q hq
      have rd' := u8_wf rd
      have hgw1 : g < w1.heap.size := Nat.lt_of_lt_of_le hg hb0.size
      have key : ∀ j u, w.cell? ⟨g, j, none⟩ = some u → wr.cell? ⟨g, j, none⟩ = some u := fun j u hu => (World.cell?_of_block ((hB.block g hgw1).trans (hb0.block g hg))).trans hu
      replace c0 := key _ _ c0
      replace c1 := key _ _ c1
      replace c2 := key _ _ c2
      replace c3 := key _ _ c3
      clear key
      obtain ⟨qa, qb, qc, qd⟩ := q
      simp only at ra rb rc rd' c0 c1 c2 c3
      have hal : Below wr.heap.size wr (wr.alloc (fourU qa qb qc qd)) := (Below.refl _ _).alloc (Nat.le_refl _) _
      have Hd := decl_any qa qb qc qd ((k : Int) + 7) ra rb rc rd' (wr.alloc (fourU qa qb qc qd))
      obtain ⟨p1, _⟩ := declP_name qa qb qc qd ((k : Int) + 7) ra.1
      have p2 := declP_at qa qb qc qd ((k : Int) + 7)
      generalize declP qa qb qc qd ((k : Int) + 7) = d at Hd p1 p2
      have HO := Lib.hid hown
      have HN := Lib.hid hnm
      have HA := Lib.hid hat
      have HD := fun (W : World) (hb : Below wr.heap.size wr W) => ds_of_own (own_keepR hown hb) (by omega) hnm
      have HDL := Lib.hid hdl
      clear hown hnm hat hq hdl
      obtain ⟨i0, hi, hz0, hz1, hz2⟩ := info_parts Tryd.infoD
      obtain ⟨m1, hm1⟩ : ∃ m, m = findP ds [] d.name := ⟨_, rfl⟩
      obtain ⟨m2, hm2⟩ : ∃ m, m = findP ds [] d.by_ := ⟨_, rfl⟩
      have HL1 := fun (W : World) (hb : Below wr.heap.size wr W) => lfind_any ds (.slice dao ds.length dcap) [] (.slice none 0 0) d.name W (HD W hb) (EsAt.nil W)
      have HL2 := fun (W : World) (hb : Below wr.heap.size wr W) => lfind_any ds (.slice dao ds.length dcap) [] (.slice none 0 0) d.by_ W (HD W hb) (EsAt.nil W)
      rw [← hm1] at HL1
      rw [← hm2] at HL2
      have hbad : bad (findP ds []) d = (m1.kind != 0 || (!d.by_.data.toList.isEmpty && m2.kind != 1)) := by unfold bad; rw [hm1, hm2]
      have HBd := Lib.hid hbad
      have HM : ∀ w2, Below (wr.alloc (fourU qa qb qc qd)).heap.size (wr.alloc (fourU qa qb qc qd)) w2 → Below wr.heap.size wr (w2.alloc (dobj d)) := fun w2 hb => (hal.trans (hb.mono (by rw [alloc_size]; omega))).trans (((Below.refl _ _).alloc (Nat.le_refl _) _).mono (by have := hb.size; rw [alloc_size] at this; omega))
      have HC : ∀ (w2 W : World), Below (w2.alloc (dobj d)).heap.size (w2.alloc (dobj d)) W → W.heap[w2.heap.size]? = some (dobj d) := fun w2 W hb => (hb.block _ (by rw [alloc_size]; omega)).trans (by rw [alloc_at, if_pos rfl])
      have HE : ∀ (w2 w3 w4 : World), Below wr.heap.size wr w4 → (w4.alloc (dobj d)).ownsRow w1.heap.size 29 6 (.slice dao ds.length dcap) ds.length (dflat ds) := fun w2 w3 w4 hb => own_keepR (own_keepR HO.out hb) ((Below.refl _ _).alloc (Nat.le_refl _) _)
      have HNw : ∀ (w4 : World), ∀ j u, (dcell d)[j]? = some u → (w4.alloc (dobj d)).cell? ((⟨w4.heap.size, 0, none⟩ : Addr).add j) = some u := fun w4 => World.news_of_block (by rw [alloc_at, if_pos rfl])
      have h1c : ∀ u ∈ dcell d, u.oneCell' = true := by intro u hu; simp at hu; rcases hu with rfl | rfl | rfl | rfl | rfl | rfl <;> rfl
      have hkds : ds.length = k := HDL.out
      have hmx : ds.length + 1 ≤ maxLen := by unfold maxLen; omega
      have hby : (ds.length + 1) * 64 ≤ 140737488355328 := by omega
      have HKd := Lib.hid hkds
      have P2 := Lib.hid p2
      clear hbad hkds p2 hm1 hm2
      cases hfb : firstBad none0 ds with
      | some d0 =>
        obtain ⟨W, hW, hWd⟩ : ∃ W : Int, 0 ≤ W ∧ wrongP ds = W := ⟨d0.at_, by have := HA.out d0 (firstBad_mem hfb); omega, by unfold wrongP; rw [hfb]⟩
        rw [hWd]
        have hdw : decide (W < 0) = false := by simp; omega
        have hWs : wrongP (ds ++ [d]) = W := by rw [← hWd]; unfold wrongP; rw [hfb, firstBad_some _ hfb]
        have HWs := Lib.hid hWs
        clear hWs hWd
        go_wp2_with (go_at_call 5; refine Hd.mono ?_; rintro e w2 ⟨rfl, hb2⟩)
        go_at_call 6
        refine (HL1 _ (HM _ hb2)).mono ?_
        rintro e w3 ⟨rfl, hb3⟩
        obtain ⟨x0, x1, x2, x3, x4, x5⟩ := cells6 (HC w2 w3 hb3)
        have hb13 : Below wr.heap.size wr w3 := (HM _ hb2).trans (hb3.mono (HM _ hb2).size)
        go_wp2_with fail
        go_at_call 6
        refine (HL2 _ hb13).mono ?_
        rintro e w4 ⟨rfl, hb4⟩
        have hb14 : Below wr.heap.size wr w4 := hb13.trans (hb4.mono hb13.size)
        obtain ⟨y0, y1, y2, y3, y4, y5⟩ := cells6 (HC w2 w4 (hb3.trans (hb4.mono hb3.size)))
        have hbs : w1.heap.size ≤ (w4.alloc (dobj d)).heap.size := by have := hB.size; have := hb14.size; rw [alloc_size]; omega
        go_wp2_with (at_builtin; refine wpList_append_own_at _ rfl _ _ 24 rfl w1.heap.size 29 i0 _ 6 64 Tryd.underlying24 hi hz0 hz1 hz2 rfl (by decide) _ _ _ rfl (HE w2 w3 w4 hb14) ⟨w4.heap.size, 0, none⟩ 1 1 (dcell d) rfl rfl (HNw w4) h1c hmx hby hbs ?_; intro v5 w5 hown5 hgrow hnil hloc)
        have hBw : Below w1.heap.size w1 w5 := by
          have g1 : Below w1.heap.size w1 (w4.alloc (dobj d)) := (hB.trans (hb14.mono hB.size)).alloc (by have := hB.size; have := hb14.size; omega) _
          exact g1.trans ((Below.refl _ _).grown hgrow hbs (fun q hq => ((HE w2 w3 w4 hb14).lt q hq).1))
        go_roundw
        case rel =>
          refine ⟨k + 1, by omega, by go_num, ⟨ds ++ [d], by simp; exact HKd.out, by rw [dflat_snoc, show (ds ++ [d]).length = ds.length + 1 by simp]; exact hown5, ?_, ?_, ?_⟩, hBw⟩
          · rw [HWs.out]
          · intro x hx
            rcases List.mem_append.1 hx with hx | hx
            · exact HN.out x hx
            · simp at hx; subst hx; exact p1
          · intro x hx
            rcases List.mem_append.1 hx with hx | hx
            · exact HA.out x hx
            · simp at hx; subst hx; rw [P2.out]; omega
        case measure => simp [intOf]; omega
      | none =>
        rw [show wrongP ds = -1 by unfold wrongP; rw [hfb]]
        cases hA : (m1.kind != 0) with
        | true =>
          have hA2 : decide (m1.kind = 0) = false := by simpa using hA
          have hA3 : ¬ m1.kind = 0 := by simpa using hA
          go_wp2_with (go_at_call 5; refine Hd.mono ?_; rintro e w2 ⟨rfl, hb2⟩)
          go_at_call 6
          refine (HL1 _ (HM _ hb2)).mono ?_
          rintro e w3 ⟨rfl, hb3⟩
          obtain ⟨x0, x1, x2, x3, x4, x5⟩ := cells6 (HC w2 w3 hb3)
          have hb13 : Below wr.heap.size wr w3 := (HM _ hb2).trans (hb3.mono (HM _ hb2).size)
          go_wp2_with fail
          go_at_call 6
          refine (HL2 _ hb13).mono ?_
          rintro e w4 ⟨rfl, hb4⟩
          have hb14 : Below wr.heap.size wr w4 := hb13.trans (hb4.mono hb13.size)
          obtain ⟨y0, y1, y2, y3, y4, y5⟩ := cells6 (HC w2 w4 (hb3.trans (hb4.mono hb3.size)))
          have hbs : w1.heap.size ≤ (w4.alloc (dobj d)).heap.size := by have := hB.size; have := hb14.size; rw [alloc_size]; omega
          go_wp2_with (at_builtin; refine wpList_append_own_at _ rfl _ _ 24 rfl w1.heap.size 29 i0 _ 6 64 Tryd.underlying24 hi hz0 hz1 hz2 rfl (by decide) _ _ _ rfl (HE w2 w3 w4 hb14) ⟨w4.heap.size, 0, none⟩ 1 1 (dcell d) rfl rfl (HNw w4) h1c hmx hby hbs ?_; intro v5 w5 hown5 hgrow hnil hloc)
          have hBw : Below w1.heap.size w1 w5 := by
            have g1 : Below w1.heap.size w1 (w4.alloc (dobj d)) := (hB.trans (hb14.mono hB.size)).alloc (by have := hB.size; have := hb14.size; omega) _
            exact g1.trans ((Below.refl _ _).grown hgrow hbs (fun q hq => ((HE w2 w3 w4 hb14).lt q hq).1))
          go_roundw
          case rel =>
            refine ⟨k + 1, by omega, by go_num, ⟨ds ++ [d], by simp; exact HKd.out, by rw [dflat_snoc, show (ds ++ [d]).length = ds.length + 1 by simp]; exact hown5, ?_, ?_, ?_⟩, hBw⟩
            · rw [show wrongP (ds ++ [d]) = (k : Int) + 7 by unfold wrongP; rw [wrong_snoc_none d hfb, HBd.out]; simp [hA, P2.out]]
            · intro x hx
              rcases List.mem_append.1 hx with hx | hx
              · exact HN.out x hx
              · simp at hx; subst hx; exact p1
            · intro x hx
              rcases List.mem_append.1 hx with hx | hx
              · exact HA.out x hx
              · simp at hx; subst hx; rw [P2.out]; omega
          case measure => simp [intOf]; omega
        | false =>
          cases hE : d.by_.data.toList.isEmpty with
          | true =>
            have hE' : d.by_.toList.isEmpty = true := by rw [ByteArray.toList_eq]; exact hE
            go_wp2_with (go_at_call 5; refine Hd.mono ?_; rintro e w2 ⟨rfl, hb2⟩)
            go_at_call 6
            refine (HL1 _ (HM _ hb2)).mono ?_
            rintro e w3 ⟨rfl, hb3⟩
            obtain ⟨x0, x1, x2, x3, x4, x5⟩ := cells6 (HC w2 w3 hb3)
            have hb13 : Below wr.heap.size wr w3 := (HM _ hb2).trans (hb3.mono (HM _ hb2).size)
            go_wp2_with fail
            go_at_call 6
            refine (HL2 _ hb13).mono ?_
            rintro e w4 ⟨rfl, hb4⟩
            have hb14 : Below wr.heap.size wr w4 := hb13.trans (hb4.mono hb13.size)
            obtain ⟨y0, y1, y2, y3, y4, y5⟩ := cells6 (HC w2 w4 (hb3.trans (hb4.mono hb3.size)))
            have hbs : w1.heap.size ≤ (w4.alloc (dobj d)).heap.size := by have := hB.size; have := hb14.size; rw [alloc_size]; omega
            go_wp2_with (at_builtin; refine wpList_append_own_at _ rfl _ _ 24 rfl w1.heap.size 29 i0 _ 6 64 Tryd.underlying24 hi hz0 hz1 hz2 rfl (by decide) _ _ _ rfl (HE w2 w3 w4 hb14) ⟨w4.heap.size, 0, none⟩ 1 1 (dcell d) rfl rfl (HNw w4) h1c hmx hby hbs ?_; intro v5 w5 hown5 hgrow hnil hloc)
            have hBw : Below w1.heap.size w1 w5 := by
              have g1 : Below w1.heap.size w1 (w4.alloc (dobj d)) := (hB.trans (hb14.mono hB.size)).alloc (by have := hB.size; have := hb14.size; omega) _
              exact g1.trans ((Below.refl _ _).grown hgrow hbs (fun q hq => ((HE w2 w3 w4 hb14).lt q hq).1))
            go_roundw
            case rel =>
              refine ⟨k + 1, by omega, by go_num, ⟨ds ++ [d], by simp; exact HKd.out, by rw [dflat_snoc, show (ds ++ [d]).length = ds.length + 1 by simp]; exact hown5, ?_, ?_, ?_⟩, hBw⟩
              · rw [show wrongP (ds ++ [d]) = -1 by unfold wrongP; rw [wrong_snoc_none d hfb, HBd.out]; simp [hA, hE]]
              · intro x hx
                rcases List.mem_append.1 hx with hx | hx
                · exact HN.out x hx
                · simp at hx; subst hx; exact p1
              · intro x hx
                rcases List.mem_append.1 hx with hx | hx
                · exact HA.out x hx
                · simp at hx; subst hx; rw [P2.out]; omega
            case measure => simp [intOf]; omega
          | false =>
            have hE' : d.by_.toList.isEmpty = false := by rw [ByteArray.toList_eq]; exact hE
            cases hC : (m2.kind != 1) with
            | true =>
              go_wp2_with (go_at_call 5; refine Hd.mono ?_; rintro e w2 ⟨rfl, hb2⟩)
              go_at_call 6
              refine (HL1 _ (HM _ hb2)).mono ?_
              rintro e w3 ⟨rfl, hb3⟩
              obtain ⟨x0, x1, x2, x3, x4, x5⟩ := cells6 (HC w2 w3 hb3)
              have hb13 : Below wr.heap.size wr w3 := (HM _ hb2).trans (hb3.mono (HM _ hb2).size)
              go_wp2_with fail
              go_at_call 6
              refine (HL2 _ hb13).mono ?_
              rintro e w4 ⟨rfl, hb4⟩
              have hb14 : Below wr.heap.size wr w4 := hb13.trans (hb4.mono hb13.size)
              obtain ⟨y0, y1, y2, y3, y4, y5⟩ := cells6 (HC w2 w4 (hb3.trans (hb4.mono hb3.size)))
              have hbs : w1.heap.size ≤ (w4.alloc (dobj d)).heap.size := by have := hB.size; have := hb14.size; rw [alloc_size]; omega
              go_wp2_with (at_builtin; refine wpList_append_own_at _ rfl _ _ 24 rfl w1.heap.size 29 i0 _ 6 64 Tryd.underlying24 hi hz0 hz1 hz2 rfl (by decide) _ _ _ rfl (HE w2 w3 w4 hb14) ⟨w4.heap.size, 0, none⟩ 1 1 (dcell d) rfl rfl (HNw w4) h1c hmx hby hbs ?_; intro v5 w5 hown5 hgrow hnil hloc)
              have hBw : Below w1.heap.size w1 w5 := by
                have g1 : Below w1.heap.size w1 (w4.alloc (dobj d)) := (hB.trans (hb14.mono hB.size)).alloc (by have := hB.size; have := hb14.size; omega) _
                exact g1.trans ((Below.refl _ _).grown hgrow hbs (fun q hq => ((HE w2 w3 w4 hb14).lt q hq).1))
              go_roundw
              case rel =>
                refine ⟨k + 1, by omega, by go_num, ⟨ds ++ [d], by simp; exact HKd.out, by rw [dflat_snoc, show (ds ++ [d]).length = ds.length + 1 by simp]; exact hown5, ?_, ?_, ?_⟩, hBw⟩
                · rw [show wrongP (ds ++ [d]) = (k : Int) + 7 by unfold wrongP; rw [wrong_snoc_none d hfb, HBd.out]; simp [hA, hE, hC, P2.out]]
                · intro x hx
                  rcases List.mem_append.1 hx with hx | hx
                  · exact HN.out x hx
                  · simp at hx; subst hx; exact p1
                · intro x hx
                  rcases List.mem_append.1 hx with hx | hx
                  · exact HA.out x hx
                  · simp at hx; subst hx; rw [P2.out]; omega
              case measure => simp [intOf]; omega
            | false =>
              go_wp2_with (go_at_call 5; refine Hd.mono ?_; rintro e w2 ⟨rfl, hb2⟩)
              go_at_call 6
              refine (HL1 _ (HM _ hb2)).mono ?_
              rintro e w3 ⟨rfl, hb3⟩
              obtain ⟨x0, x1, x2, x3, x4, x5⟩ := cells6 (HC w2 w3 hb3)
              have hb13 : Below wr.heap.size wr w3 := (HM _ hb2).trans (hb3.mono (HM _ hb2).size)
              go_wp2_with fail
              go_at_call 6
              refine (HL2 _ hb13).mono ?_
              rintro e w4 ⟨rfl, hb4⟩
              have hb14 : Below wr.heap.size wr w4 := hb13.trans (hb4.mono hb13.size)
              obtain ⟨y0, y1, y2, y3, y4, y5⟩ := cells6 (HC w2 w4 (hb3.trans (hb4.mono hb3.size)))
              have hbs : w1.heap.size ≤ (w4.alloc (dobj d)).heap.size := by have := hB.size; have := hb14.size; rw [alloc_size]; omega
              go_wp2_with (at_builtin; refine wpList_append_own_at _ rfl _ _ 24 rfl w1.heap.size 29 i0 _ 6 64 Tryd.underlying24 hi hz0 hz1 hz2 rfl (by decide) _ _ _ rfl (HE w2 w3 w4 hb14) ⟨w4.heap.size, 0, none⟩ 1 1 (dcell d) rfl rfl (HNw w4) h1c hmx hby hbs ?_; intro v5 w5 hown5 hgrow hnil hloc)
              have hBw : Below w1.heap.size w1 w5 := by
                have g1 : Below w1.heap.size w1 (w4.alloc (dobj d)) := (hB.trans (hb14.mono hB.size)).alloc (by have := hB.size; have := hb14.size; omega) _
                exact g1.trans ((Below.refl _ _).grown hgrow hbs (fun q hq => ((HE w2 w3 w4 hb14).lt q hq).1))
              go_roundw
              case rel =>
                refine ⟨k + 1, by omega, by go_num, ⟨ds ++ [d], by simp; exact HKd.out, by rw [dflat_snoc, show (ds ++ [d]).length = ds.length + 1 by simp]; exact hown5, ?_, ?_, ?_⟩, hBw⟩
                · rw [show wrongP (ds ++ [d]) = -1 by unfold wrongP; rw [wrong_snoc_none d hfb, HBd.out]; simp [hA, hE, hC]]
                · intro x hx
                  rcases List.mem_append.1 hx with hx | hx
                  · exact HN.out x hx
                  · simp at hx; subst hx; exact p1
                · intro x hx
                  rcases List.mem_append.1 hx with hx | hx
                  · exact HA.out x hx
                  · simp at hx; subst hx; rw [P2.out]; omega
              case measure => simp [intOf]; omega
    · have HOf := of_any ds (.slice dao ds.length dcap) wr (ds_of_own hown (by omega) hnm) (by omega)
      have HDL := Lib.hid hdl
      clear hdl
      have hVr : TypeVar wr := (hV.below hb0).below' hB
      have HA := Lib.hid hat
      clear hown hnm hat
      cases hfb : firstBad none0 ds with
      | none =>
        rw [show wrongP ds = -1 by unfold wrongP; rw [hfb]]
        go_wp2_with fail
        go_at_call 7
        refine HOf.mono ?_
        rintro e w5 ⟨hb5, ⟨hF, bs, rfl, hS5⟩ | ⟨d', b', hF, rfl, _, _⟩⟩
        · have HM := mark_any hS5
          go_wp2_with (go_at_call 10; refine HM.mono ?_; rintro e w7 ⟨rfl, h7⟩; obtain rfl := h7.symm)
          go_ret
          exact ⟨rfl, (hb0.trans (hB.mono hb0.size)).trans (hb5.mono (by have := hb0.size; have := hB.size; omega))⟩
        · rw [hfb] at hF; cases hF
      | some d0 =>
        obtain ⟨W, hW, hWd⟩ : ∃ W : Int, 0 ≤ W ∧ wrongP ds = W := ⟨d0.at_, by have := HA.out d0 (firstBad_mem hfb); omega, by unfold wrongP; rw [hfb]⟩
        have hd0 : d0.at_ = W := by rw [← hWd]; unfold wrongP; rw [hfb]
        rw [hWd]
        have hdw : decide (0 ≤ W) = true := by simpa using hW
        clear hWd
        go_wp2_with fail
        go_at_call 7
        refine HOf.mono ?_
        rintro e w5 ⟨hb5, ⟨hF, bs, rfl, hS5⟩ | ⟨d', b', hF, rfl, hbb, hfault⟩⟩
        · rw [hfb] at hF; cases hF
        · rw [hfb] at hF
          cases hF
          rw [hd0] at hfault
          clear hd0
          have hV5 := hVr.below hb5
          have HNum := number_any b' W 3 w5 hV5 hfault
          have HPl := fun (w6 : World) (hb6 : Below w5.heap.size w5 w6) => place_any b' W _ w6 (hV5.below hb6) ((hb6.block b' (heap_lt hfault)).trans hfault)
          go_wp2_with (go_at_call 8; refine HNum.mono ?_; rintro e w6 ⟨rfl, hb6⟩)
          go_wp2_with (go_at_call 9; refine (HPl w6 hb6).mono ?_; rintro e w7 ⟨rfl, hb7⟩)
          go_ret
          refine ⟨rfl, ?_⟩
          have hz1 := hb0.size
          have hz2 := hB.size
          have hz5 := hb5.size
          have hz6 := hb6.size
          exact (((hb0.trans (hB.mono hz1)).trans (hb5.mono (by omega))).trans (hb6.mono (by omega))).trans (hb7.mono (by omega))
end Go.Proofs.YtnpennclgenppaaDoor
