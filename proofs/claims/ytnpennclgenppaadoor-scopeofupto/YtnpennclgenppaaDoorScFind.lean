/- The statements' own answer to what a name stands for. Conditions: none. -/
import Derived.Test.YtnpennclgenppaaDoorScOf
namespace Go.Proofs.YtnpennclgenppaaDoor
open Go.ChangeShapes Go.WideShapes Go.RowKit Go.Maps
set_option linter.unusedVariables false
set_option linter.unusedSimpArgs false

structure Ent where
  name : ByteArray
  label : Int
  count : Int
def lastE (ls : List Ent) (s : ByteArray) : Option Ent := ls.foldl (fun acc e => if e.name = s then some e else acc) none
theorem lastE_snoc (ls : List Ent) (e : Ent) (s : ByteArray) : lastE (ls ++ [e]) s = if e.name = s then some e else lastE ls s := by simp [lastE]
def firstD (ds : List Dc) (s : ByteArray) : Option Dc := ds.find? fun d => decide (d.name = s)
def findP (ds : List Dc) (ls : List Ent) (s : ByteArray) : Mng := match lastE ls s with
  | some e => localM e.label e.count
  | none => match firstD ds s with
    | some d => declM d
    | none => mnone
/-- A list of entries in memory. -/
def EsAt (w : World) (v : Value) (ls : List Ent) : Prop :=
  ∃ ao cap, v = .slice ao ls.length cap ∧ ls.length ≤ 1000000 ∧ ∀ i e, ls[i]? = some e → ∃ g off, ao = some ⟨g, off, none⟩ ∧ g < w.heap.size ∧
    w.cell? ⟨g, off + i * 3, none⟩ = some (.string e.name) ∧ w.cell? ⟨g, off + i * 3 + 1, none⟩ = some (.int .i64 e.label) ∧ w.cell? ⟨g, off + i * 3 + 2, none⟩ = some (.int .i64 e.count)
theorem EsAt.nil (w : World) : EsAt w (.slice none 0 0) [] := ⟨none, 0, rfl, by simp, fun i d hd => by simp at hd⟩
theorem EsAt.keep {w w' : World} {v : Value} {ls : List Ent} (h : EsAt w v ls) (hb : ∀ g, v.ownBlock = some g → g < w.heap.size → w'.heap[g]? = w.heap[g]?) (hz : w.heap.size ≤ w'.heap.size) : EsAt w' v ls := by
  obtain ⟨ao, cap, rfl, hl, hr⟩ := h
  refine ⟨ao, cap, rfl, hl, fun i e he => ?_⟩
  obtain ⟨g, off, rfl, hg, h0, h1, h2⟩ := hr i e he
  have hbl := hb g rfl hg
  exact ⟨g, off, rfl, Nat.lt_of_lt_of_le hg hz, (World.cell?_of_block hbl).trans h0, (World.cell?_of_block hbl).trans h1, (World.cell?_of_block hbl).trans h2⟩
theorem EsAt.below {w w' : World} {v : Value} {ls : List Ent} (h : EsAt w v ls) (hb : Below w.heap.size w w') : EsAt w' v ls := h.keep (fun g _ hg => hb.block g hg) hb.size
theorem str_eq {a b : ByteArray} (h : a = b) : (a.toList == b.toList) = true := by rw [h]; exact beq_self_eq_true _
theorem str_ne {a b : ByteArray} (h : ¬ a = b) : (a.toList == b.toList) = false := by
  rw [ByteArray.toList_eq, ByteArray.toList_eq, beq_eq_false_iff_ne]
  exact fun e => h (ByteArray.ext (by rw [← Array.toList_inj]; exact e))
@[reducible] def mtup (m : Mng) : Value := .tuple #[.int .i64 m.kind, .int .i64 m.label, .int .i64 m.count, .string m.by_]
theorem localM_pos {l c : Int} (h : 0 < c) : localM l c = ⟨5, l, c, ⟨#[]⟩⟩ := by unfold localM; rw [if_pos h]
theorem localM_not {l c : Int} (h : ¬ 0 < c) : localM l c = ⟨4, l, 0, ⟨#[]⟩⟩ := by unfold localM; rw [if_neg h]

set_option maxHeartbeats 1000000 in
set_option maxRecDepth 100000 in
theorem lfind_any (ds : List Dc) (dv : Value) (ls : List Ent) (ev : Value) (s : ByteArray) (w : World) (hD : DsAt w dv ds) (hE : EsAt w ev ls) :
    Calls Tryd.prog 6 #[dv, ev, .string s] w fun e w' => e = .returned (mtup (findP ds ls s)) ∧ Below w.heap.size w w' := by
  obtain ⟨dao, dcap, rfl, hdl, hdr⟩ := hD
  obtain ⟨eao, ecap, rfl, hel, her⟩ := hE
  have HDr := Lib.hid hdr
  have HEr := Lib.hid her
  clear hdr her
  go_enter Tryd.func6, Tryd.ntmps6
  go_wp2
  go_loopw [10] (fun iv wr => ∃ m : Nat, m ≤ ls.length ∧ iv = .int .i64 ((m : Int) - 1) ∧ lastE ls s = lastE (ls.take m) s ∧ Below w.heap.size w wr) (fun iv _ => ((intOf iv) + 1).toNat)
  case atStart => exact ⟨ls.length, Nat.le_refl _, by go_num, by simp, Below.refl _ _⟩
  case round =>
    obtain ⟨m, hm, rfl, hL, hB⟩ := hrel
    cases m with
    | succ i =>
      have hiI : ((i + 1 : Nat) : Int) - 1 = (i : Int) := by omega
      rw [hiI]
      clear hiI
      have hil : i < ls.length := by omega
      obtain ⟨e, he⟩ : ∃ e, ls[i]? = some e := ⟨ls[i], by simp [hil]⟩
      obtain ⟨g, off, rfl, hg, c0, c1, c2⟩ := HEr.out i e he
      have key : ∀ q u, w.cell? ⟨g, q, none⟩ = some u → wr.cell? ⟨g, q, none⟩ = some u := fun q u hu => (World.cell?_of_block (hB.block g hg)).trans hu
      replace c0 := key _ _ c0
      replace c1 := key _ _ c1
      replace c2 := key _ _ c2
      have hstep : lastE (ls.take (i + 1)) s = if e.name = s then some e else lastE (ls.take i) s := by
        rw [List.take_add_one, he]
        exact lastE_snoc _ _ _
      rw [hstep] at hL
      have HL := Lib.hid hL
      clear key hL hstep
      by_cases hn : e.name = s
      · have hT := str_eq hn
        have hfp : findP ds ls s = localM e.label e.count := by unfold findP; rw [HL.out, if_pos hn]
        by_cases hc : 0 < e.count
        · have hdc : decide (0 < e.count) = true := by simpa using hc
          rw [localM_pos hc] at hfp
          have HF := Lib.hid hfp
          clear hfp hn
          go_wp2_with fail
          go_quiet (fail)
          go_wp2
          go_returns
          refine ⟨by rw [HF.out], below_drewq hB _⟩
        · have hdc : decide (0 < e.count) = false := by simpa using hc
          rw [localM_not hc] at hfp
          have HF := Lib.hid hfp
          clear hfp hn
          go_wp2_with fail
          go_quiet (fail)
          go_wp2
          go_returns
          refine ⟨by rw [HF.out], below_drewq hB _⟩
      · have hT := str_ne hn
        have hL2 : lastE ls s = lastE (ls.take i) s := by rw [HL.out, if_neg hn]
        have HL2 := Lib.hid hL2
        clear hL2 hn
        go_wp2
        go_roundw
        case rel => exact ⟨i, by omega, by go_num, HL2.out, hB⟩
        case measure => simp [intOf]
    | zero =>
      have hL0 : lastE ls s = none := by rw [hL]; rfl
      have HL0 := Lib.hid hL0
      clear hL hL0
      go_wp2
      go_loopw [50] (fun iv wr => ∃ m : Nat, m ≤ ds.length ∧ iv = .int .i64 m ∧ firstD ds s = firstD (ds.drop m) s ∧ Below w.heap.size w wr) (fun iv _ => ds.length - (intOf iv).toNat)
      case atStart => exact ⟨0, Nat.zero_le _, rfl, by simp, hB⟩
      case round =>
        obtain ⟨m, hm2, rfl, hF, hB2⟩ := hrel
        by_cases hlt : m < ds.length
        · obtain ⟨d, hd⟩ : ∃ d, ds[m]? = some d := ⟨ds[m], by simp [hlt]⟩
          obtain ⟨n1, n2, g, off, rfl, hg, p0, p1, p2, p3, p4, p5⟩ := HDr.out m d hd
          have key : ∀ j u, w.cell? ⟨g, j, none⟩ = some u → wr.cell? ⟨g, j, none⟩ = some u := fun j u hu => (World.cell?_of_block (hB2.block g hg)).trans hu
          replace p0 := key _ _ p0
          replace p1 := key _ _ p1
          replace p2 := key _ _ p2
          replace p3 := key _ _ p3
          replace p4 := key _ _ p4
          replace p5 := key _ _ p5
          have hdrop : ds.drop m = d :: ds.drop (m + 1) := by
            rw [List.drop_eq_getElem_cons hlt]
            congr 1
            exact (List.getElem?_eq_some_iff.1 hd).2
          have hB3 : Below w.heap.size w (wr.alloc (dobj d)) := hB2.alloc hB2.size _
          by_cases hn : d.name = s
          · have hT := str_eq hn
            have hfp : findP ds ls s = declM d := by
              have : firstD ds s = some d := by rw [hF, hdrop]; simp [firstD, hn]
              unfold findP; rw [HL0.out, this]
            clear key hF hdrop hn hd
            cases hlk : d.lock with
            | true =>
              rw [hlk] at p0
              rw [show declM d = ⟨1, 0, 0, ⟨#[]⟩⟩ by unfold declM; rw [if_pos hlk]] at hfp
              have HF := Lib.hid hfp
              clear hfp
              go_wp2
              go_returns
              refine ⟨by rw [HF.out], ?_⟩
              exact hB2.alloc hB2.size _
            | false =>
              rw [hlk] at p0
              by_cases hsz : 0 < d.size
              · have hdz : decide (0 < d.size) = true := by simpa using hsz
                rw [show declM d = ⟨3, d.label, d.size, d.by_⟩ by unfold declM; rw [if_neg (by rw [hlk]; simp), if_pos hsz]] at hfp
                have HF := Lib.hid hfp
                have HK := Lib.hid hlk
                clear hfp hsz hlk
                go_wp2_with fail
                go_quiet (fail)
                go_wp2
                go_returns
                refine ⟨by rw [HF.out], below_drewq (hB2.alloc hB2.size _) _⟩
              · have hdz : decide (0 < d.size) = false := by simpa using hsz
                rw [show declM d = ⟨2, d.label, 0, d.by_⟩ by unfold declM; rw [if_neg (by rw [hlk]; simp), if_neg hsz]] at hfp
                have HF := Lib.hid hfp
                have HK := Lib.hid hlk
                clear hfp hsz hlk
                go_wp2_with fail
                go_quiet (fail)
                go_wp2
                go_returns
                refine ⟨by rw [HF.out], below_drewq (hB2.alloc hB2.size _) _⟩
          · have hT := str_ne hn
            have hF2 : firstD ds s = firstD (ds.drop (m + 1)) s := by rw [hF, hdrop]; simp [firstD, hn]
            have HF2 := Lib.hid hF2
            clear key hF hdrop hn hd hF2
            go_wp2
            go_roundw
            case rel => exact ⟨m + 1, by omega, by go_num, HF2.out, hB3⟩
            case measure => simp [intOf]; omega
        · have hfp : findP ds ls s = mnone := by
            have : firstD ds s = none := by rw [hF, List.drop_eq_nil_iff.2 (by omega)]; rfl
            unfold findP; rw [HL0.out, this]
          have HF := Lib.hid hfp
          clear hfp hF
          go_wp2
          go_returns
          exact ⟨by rw [HF.out]; rfl, hB2⟩
end Go.Proofs.YtnpennclgenppaaDoor
