/- What the cards' listed variables give the walks of stage 3, a world that meets the list, and what lies in memory behind Cut, token by token. Conditions: as each theorem says. -/
import Derived.Test.YtjnfjfihdachiaaGreatDoorCards
import Derived.Test.YtjnfjfihdachiaaGreatDoorTie
import Derived.Test.YtjnfjfihdachiaaGreatDoorLexCutC
import Derived.ChangeSame
import Derived.ChangeVars
import Derived.JoinedOf
import Derived.RowKit
import Derived.RowKitTokens
import Derived.LaidLaws
import Derived.LaidHandle
import Derived.Stop.LaidErr
import Derived.LaidMore
import Derived.SizedLaws
namespace Go.Proofs.YtjnfjfihdachiaaGreatDoor
open Go.ChangeShapes Go.WideShapes Go.ChangeAt Go.RowKit

theorem Tryz.own : ownKnob Tryz.prog.godebug = none := by kernel_rfl
theorem Tryz.laidOut : laidOutB Tryz.prog = true := by kernel_rfl
theorem gType : Tryz.prog.globalNamed "errors.errorType" = some 0 := by kernel_rfl
theorem gRange : Tryz.prog.globalNamed "strconv.ErrRange" = some 2 := by kernel_rfl
theorem tRange : (Tryz.prog.globals[2]?).map (·.type) = some 25 := by kernel_rfl
theorem errorRow : ((List.range 182).filter fun t => Tryz.prog.rowNamed t [101, 114, 114, 111, 114]) = [25] := by kernel_rfl
theorem typesSize : Tryz.prog.types.size = 182 := by kernel_rfl

/-- What the seven rows list. -/
abbrev laidAll : List (String × DataW Unit) := Rows.lexCutRow.laid

theorem vars_of_laid {W : World} (h : laidMetH Tryz.prog laidAll W) : Vars W := by
  have h' : laidMet Tryz.prog (laidAll.filter fun x => x.2.handleName?.isNone) W ∧ handlesMet Tryz.prog (laidAll.filter fun x => x.2.handleName?.isSome) W := h
  refine ⟨?_, ?_⟩
  · obtain ⟨name, u, ty, e1, e2, e3, e4, e5⟩ := h'.2 _ (List.mem_singleton.2 rfl)
    have en : name = [101, 114, 114, 111, 114] := (Option.some.inj e1).symm
    subst en
    obtain rfl : u = 95 := Option.some.inj (e2.symm.trans (by kernel_rfl))
    have hm : ty ∈ (List.range 182).filter fun t => Tryz.prog.rowNamed t [101, 114, 114, 111, 114] := List.mem_filter.2 ⟨List.mem_range.2 (by rw [← typesSize]; exact e3), e4⟩
    rw [errorRow] at hm
    obtain rfl := List.mem_singleton.1 hm
    rw [handle23] at e5
    unfold TypeVar
    simpa using World.var?_cell gType e5 0
  · obtain ⟨ps, ⟨g0, t0, cs0, f0, p0, q0, hg0, ht0, hv0, hd0, _⟩, _⟩ := h'.1.tail.tail.tail
    obtain rfl := Option.some.inj (gRange.symm.trans hg0)
    obtain rfl := Option.some.inj (tRange.symm.trans ht0)
    obtain ⟨_, u, v, hcs, _⟩ := iface_of_trod Tryz.underlying25 hd0
    obtain ⟨l⟩ := cs0
    simp only at hcs
    subst hcs
    exact ⟨u, v, by simpa using World.var?_cell gRange hv0 0⟩

/-- How many steps the initialisers take. -/
abbrev doorSteps : Nat := 69
/-- A world that meets the list: what the program's own initialisers leave. -/
theorem door_met (os : Os) (args : Array Value) : laidMetH Tryz.prog laidAll ((World.doorLaid Tryz.prog doorSteps os).forCall (fun _ _ => 0) ⟨#[], args, []⟩).memory :=
  laidMetH_of_parts3 (fuel := 8) (laidMet_of_run' 8 (by kernel_rfl) (by kernel_rfl)) (by kernel_rfl) (by kernel_rfl)

/-- The form's own reach, at a string. -/
theorem string_reach {H : Type} {P : Program} {ts : List TypeId} {ds : List (DataW H)} {j : Nat} {t : TypeId} {a : ByteArray}
    (hsz : (DataW.weightsEach P ts ds).all (· ≤ reachBytes) = true) (hj : ts[j]? = some t) (hd : ds[j]? = some (.lit (.string a.data.toList))) : a.size ≤ 140737488351232 := by
  have h := sized_string hsz hj hd
  have e2 : a.data.toList.length = a.size := by rw [Array.length_toList]; rfl
  simp only [reachBytes] at h
  omega

/-! tokens in memory -/
/-- Block g holds these tokens, from its head on. -/
def Row (w : World) (g : Nat) (ts : List Tok) : Prop :=
  ∀ i t, ts[i]? = some t → w.cell? ⟨g, i * 4, none⟩ = some (.int .i64 t.kind) ∧ w.cell? ⟨g, i * 4 + 1, none⟩ = some (.string (bstr t.text)) ∧ w.cell? ⟨g, i * 4 + 2, none⟩ = some (.int .u64 t.value) ∧ w.cell? ⟨g, i * 4 + 3, none⟩ = some (.int .i64 t.at_)
theorem Row.below {w w' : World} {B g : Nat} {ts : List Tok} (h : Row w g ts) (hb : Below B w w') (hg : g < B) : Row w' g ts := fun i t ht => by
  obtain ⟨a, b, c, d⟩ := h i t ht
  exact ⟨(hb.cell (p := ⟨g, _, none⟩) hg).trans a, (hb.cell (p := ⟨g, _, none⟩) hg).trans b, (hb.cell (p := ⟨g, _, none⟩) hg).trans c, (hb.cell (p := ⟨g, _, none⟩) hg).trans d⟩
theorem rowOf_get : ∀ (ts : List Tok) (i : Nat) (t : Tok), ts[i]? = some t → ∀ j, j < 4 → (rowOf ts)[i * 4 + j]? = t.cells[j]?
  | [], i, t, h, j, hj => by simp at h
  | a :: ts, 0, t, h, j, hj => by
    simp at h; subst h
    have : j < a.cells.length := by simpa [Tok.cells] using hj
    simp [rowOf, List.getElem?_append_left this]
  | a :: ts, i + 1, t, h, j, hj => by
    have h' : ts[i]? = some t := by simpa using h
    have e : (rowOf (a :: ts))[(i + 1) * 4 + j]? = (rowOf ts)[i * 4 + j]? := by
      have : rowOf (a :: ts) = a.cells ++ rowOf ts := by simp [rowOf]
      rw [this, List.getElem?_append_right (by simp [Tok.cells]; omega)]
      congr 1
      simp [Tok.cells]; omega
    rw [e]
    exact rowOf_get ts i t h' j hj
theorem goTok_ne : ∀ (f : Nat) (l : List UInt8) (k : Nat) (ts : List Tok), goTok f l k = .ok ts → ts ≠ []
  | 0, _, _, _, h => by simp [goTok] at h
  | f + 1, [], k, ts, h => by rw [goTok_nil] at h; cases h; simp
  | f + 1, c :: r, k, ts, h => by
    cases hr : readTok (c :: r) k with
    | none => rw [goTok_none (by simp) hr] at h; cases h
    | some t =>
      rw [goTok_some hr] at h
      generalize goTok f _ _ = q at h
      cases q with
      | ok us => simp only [Res.pre] at h; cases h; simp
      | error p => simp only [Res.pre] at h; cases h
theorem cutAll_ne {l : List UInt8} {ts : List Tok} (h : cutAll l = .ok ts) : ts ≠ [] := by
  unfold cutAll at h
  split at h
  · cases h
  · exact goTok_ne _ _ _ _ h
theorem goTok_len : ∀ (f : Nat) (l : List UInt8) (k : Nat) (ts : List Tok), goTok f l k = .ok ts → ts.length ≤ l.length + 1
  | 0, _, _, _, h => by simp [goTok] at h
  | f + 1, [], k, ts, h => by rw [goTok_nil] at h; cases h; simp
  | f + 1, c :: r, k, ts, h => by
    cases hr : readTok (c :: r) k with
    | none => rw [goTok_none (by simp) hr] at h; cases h
    | some t =>
      obtain ⟨n, _, h1, h2, h3, _⟩ := readTok_some hr
      rw [goTok_some hr] at h
      generalize hq : goTok f _ _ = q at h
      cases q with
      | ok us =>
        have := goTok_len f _ _ us hq
        simp only [Res.pre] at h; cases h
        simp only [List.length_drop, List.length_cons, List.length_append, List.length_nil] at *
        omega
      | error p => simp only [Res.pre] at h; cases h
theorem cutAll_len {l : List UInt8} {ts : List Tok} (h : cutAll l = .ok ts) : ts.length ≤ 65537 ∧ ts.length ≤ l.length + 1 := by
  unfold cutAll at h
  split at h
  · cases h
  · have := goTok_len _ _ _ _ h
    simp only [List.length_drop] at this
    omega

/-- lex.Cut, where there are tokens. -/
theorem cut_ok (s : ByteArray) (ts : List Tok) (w : World) (hm : s.size ≤ maxLen) (hV : Vars w) (h : Hid (cutAll (bys s) = .ok ts)) :
    Calls Tryz.prog 11 #[.string s] w fun e w' => ∃ g cap, e = .returned (.tuple #[.slice (some ⟨g, 0, none⟩) ts.length cap, .nilIface]) ∧ Row w' g ts ∧ w.heap.size ≤ g ∧ g < w'.heap.size ∧ ts.length ≤ cap ∧ (∀ j, w'.frozen? ⟨g, j, none⟩ = false) ∧ Below w.heap.size w w' := by
  have hc := cut_any s w hm hV
  rw [h.out] at hc
  refine hc.mono ?_
  rintro e w' ⟨⟨v, rfl, hown⟩, hb⟩
  have hown0 := hown
  obtain ⟨_, h2⟩ := hown
  rcases h2 with ⟨_, h0⟩ | ⟨g, cap, cur, rfl, hg, hh, hn, hcap, hsz, htake⟩
  · exact absurd (List.length_eq_zero_iff.1 h0) (cutAll_ne h.out)
  · refine ⟨g, cap, rfl, fun i t ht => ?_, hg, lt_of_block hh, hn, fun j => by simp [World.frozen?, hh], hb⟩
    have hi : i < ts.length := by
      rcases Nat.lt_or_ge i ts.length with h' | h'
      · exact h'
      · rw [List.getElem?_eq_none h'] at ht; cases ht
    have key : ∀ j, j < 4 → w'.cell? ⟨g, i * 4 + j, none⟩ = t.cells[j]? := fun j hj => by
      rw [hown0.cellAt (i * 4 + j) (by omega), rowOf_get ts i t ht j hj]
    exact ⟨key 0 (by omega), key 1 (by omega), key 2 (by omega), key 3 (by omega)⟩
/-- lex.Cut, where something is wrong. -/
theorem cut_err (s : ByteArray) (n p : Nat) (w : World) (hm : s.size ≤ maxLen) (hV : Vars w) (h : Hid (cutAll (bys s) = .err n p)) :
    Calls Tryz.prog 11 #[.string s] w fun e w' => ∃ fb, e = .returned (.tuple #[.slice none 0 0, .iface 68 (.pointer (some ⟨fb, 0, none⟩))]) ∧ w.heap.size ≤ fb ∧ w'.heap[fb]? = some (.cells #[.int .i64 (p : Int), .iface 35 (.int .i64 (n : Int))] 71 (0, 0)) ∧ Below w.heap.size w w' := by
  have hc := cut_any s w hm hV
  rw [h.out] at hc
  refine hc.mono ?_
  rintro e w' ⟨⟨fb, rfl, h1, h2⟩, hb⟩
  exact ⟨fb, rfl, h1, h2, hb⟩
end Go.Proofs.YtjnfjfihdachiaaGreatDoor
