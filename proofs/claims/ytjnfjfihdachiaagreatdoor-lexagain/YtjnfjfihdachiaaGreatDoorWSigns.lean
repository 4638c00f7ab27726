/- The walk of the statement LexSigns. Conditions: the package variables hold what their initialisers lay. -/
import Derived.Test.YtjnfjfihdachiaaGreatDoorWLong
import Derived.Deep.QuietTactic
import Derived.BigQuiet
import Derived.Laws.Concat
import Derived.Test.YtjnfjfihdachiaaGreatDoorWPlaces2
namespace Go.Proofs.YtjnfjfihdachiaaGreatDoor
open Go.ChangeShapes Go.WideShapes Go.ChangeAt Go.RowKit
set_option linter.unusedVariables false

def signWords : List (List UInt8) := [[59], [61], [91], [93], [123], [125], [40], [41], [44], [43], [45], [42], [38], [124], [94], [60], [126], [60, 60], [62, 62], [61, 61]]
def sg (i : Nat) : List UInt8 := signWords.getD i []
theorem sign_apart (i j : Fin 20) : cutAll (sg i.val ++ [32] ++ sg j.val) = .ok [⟨4, sg i.val, 0, 0⟩, ⟨4, sg j.val, 0, (sg i.val).length + 1⟩, ⟨0, [], 0, (sg i.val).length + 1 + (sg j.val).length⟩] :=
  @of_decide_eq_true _ (resDec _ _) ((show ∀ i j : Fin 20, @decide (cutAll (sg i.val ++ [32] ++ sg j.val) = .ok [⟨4, sg i.val, 0, 0⟩, ⟨4, sg j.val, 0, (sg i.val).length + 1⟩, ⟨0, [], 0, (sg i.val).length + 1 + (sg j.val).length⟩]) (resDec _ _) = true from by decide +kernel) i j)
/-- Does the second make a longer one with the first? -/
def longerB (i j : Nat) : Bool := (sg i == [60] || sg i == [61]) && (sg j).head? == (sg i).head?
theorem sign_beside (i j : Fin 20) : longerB i.val j.val = true ∨ cutAll (sg i.val ++ sg j.val) = .ok [⟨4, sg i.val, 0, 0⟩, ⟨4, sg j.val, 0, (sg i.val).length⟩, ⟨0, [], 0, (sg i.val).length + (sg j.val).length⟩] := by
  have h := (show ∀ i j : Fin 20, (longerB i.val j.val || @decide (cutAll (sg i.val ++ sg j.val) = .ok [⟨4, sg i.val, 0, 0⟩, ⟨4, sg j.val, 0, (sg i.val).length⟩, ⟨0, [], 0, (sg i.val).length + (sg j.val).length⟩]) (resDec _ _)) = true from by decide +kernel) i j
  rw [Bool.or_eq_true] at h
  rcases h with h | h
  · exact Or.inl h
  · exact Or.inr (@of_decide_eq_true _ (resDec _ _) h)
def signCells : Array Value := (signWords.map fun l => Value.string (bstr l)).toArray
theorem signCells_at (W : World) (i : Nat) (hi : i < 20) : (W.alloc (.cells signCells 9)).cell? ⟨W.heap.size, i, none⟩ = some (.string (bstr (sg i))) := by
  have h := heap_alloc_new W (.cells signCells 9)
  have e : signCells[i]? = some (.string (bstr (sg i))) := by
    have h' : i < signWords.length := hi
    simp [signCells, sg, List.getD, h']
  simp only [World.cell?, h]
  simp [e]
theorem signCells_is : signCells = #[.string ⟨#[59]⟩, .string ⟨#[61]⟩, .string ⟨#[91]⟩, .string ⟨#[93]⟩, .string ⟨#[123]⟩, .string ⟨#[125]⟩, .string ⟨#[40]⟩, .string ⟨#[41]⟩, .string ⟨#[44]⟩, .string ⟨#[43]⟩, .string ⟨#[45]⟩, .string ⟨#[42]⟩, .string ⟨#[38]⟩, .string ⟨#[124]⟩, .string ⟨#[94]⟩, .string ⟨#[60]⟩, .string ⟨#[126]⟩, .string ⟨#[60, 60]⟩, .string ⟨#[62, 62]⟩, .string ⟨#[61, 61]⟩] := rfl
theorem sg_pos : ∀ i : Fin 20, 0 < (sg i.val).length ∧ (sg i.val).length ≤ 2 := by decide

theorem two_ways {l : List UInt8} (h : (l == [60]) = true ∨ (l == [61]) = true) : ((l == [60]) = true ∧ True) ∨ ((l == [60]) = false ∧ (l == [61]) = true) := by
  rcases h with h | h
  · exact Or.inl ⟨h, trivial⟩
  · obtain rfl : l = [61] := by simpa using h
    exact Or.inr ⟨rfl, rfl⟩
/-- Two strings joined. -/
theorem joined (a b : ByteArray) (h : a.size + b.size ≤ 65536) : ∃ c : ByteArray, (∀ W : World, (Op.stringOp .add a b).run Tryz.prog W = .ok (.string c) W) ∧ bys c = bys a ++ bys b ∧ c.size = a.size + b.size :=
  ⟨a ++ b, fun W => run_string_add_sum W a b (by omega), by simp [bys], ByteArray.size_append⟩
set_option maxRecDepth 100000 in
set_option maxHeartbeats 4000000 in
theorem signs_walk (a0 a1 : Int) (w : World) (w0 : (Lit.int .u8 a0).wf = true) (w1 : (Lit.int .u8 a1).wf = true) (hV : Vars w) :
    Calls Tryz.prog 9 #[.int .u8 a0, .int .u8 a1] w fun e w' => e = .returned (.bool true) ∧ Below w.heap.size w w' := by
  obtain ⟨h00, h01⟩ := u8_bounds w0
  obtain ⟨h10, h11⟩ := u8_bounds w1
  obtain ⟨i, hi⟩ : ∃ i : Nat, a0 % 20 = (i : Int) := ⟨(a0 % 20).toNat, by omega⟩
  obtain ⟨j, hj⟩ : ∃ i : Nat, a1 % 20 = (i : Int) := ⟨(a1 % 20).toNat, by omega⟩
  have hi20 : i < 20 := by omega
  have hj20 : j < 20 := by omega
  obtain ⟨O, hO⟩ : ∃ O : Obj, O = .cells signCells 9 := ⟨_, rfl⟩
  obtain ⟨a, ha⟩ : ∃ a, a = bstr (sg i) := ⟨_, rfl⟩
  obtain ⟨b, hb⟩ : ∃ a, a = bstr (sg j) := ⟨_, rfl⟩
  have hca : ∀ W : World, (W.alloc O).cell? ⟨W.heap.size, i, none⟩ = some (.string a) := fun W => by rw [hO, ha]; exact signCells_at W i hi20
  have hcb : ∀ W : World, (W.alloc O).cell? ⟨W.heap.size, j, none⟩ = some (.string b) := fun W => by rw [hO, hb]; exact signCells_at W j hj20
  rw [signCells_is] at hO
  have hO2 := hO.symm
  have hba : bys a = sg i := by rw [ha, bys_bstr]
  have hbb : bys b = sg j := by rw [hb, bys_bstr]
  have pa := sg_pos ⟨i, hi20⟩
  have pb := sg_pos ⟨j, hj20⟩
  have sa : a.size = (sg i).length := by rw [← bys_length, hba]
  have sb : b.size = (sg j).length := by rw [← bys_length, hbb]
  simp only at pa pb
  have ea0 : 0 < a.size := by omega
  have eb0 : 0 < b.size := by omega
  have ea2 : a.size ≤ 2 := by omega
  have eb2 : b.size ≤ 2 := by omega
  obtain ⟨c, add1, y1, z1⟩ := joined a ⟨#[32]⟩ (by show a.size + 1 ≤ _; omega)
  obtain ⟨s1, add2, y2, z2⟩ := joined c b (by rw [z1]; show a.size + 1 + b.size ≤ _; omega)
  obtain ⟨s2, add3, y3, z3⟩ := joined a b (by omega)
  have HC1 : Hid (cutAll (bys s1) = .ok [⟨4, sg i, 0, 0⟩, ⟨4, sg j, 0, (sg i).length + 1⟩, ⟨0, [], 0, (sg i).length + 1 + (sg j).length⟩]) := by
    show _ = _
    rw [y2, y1, hba, hbb]; exact sign_apart ⟨i, hi20⟩ ⟨j, hj20⟩
  have HC2 : Hid (longerB i j = true ∨ cutAll (bys s2) = .ok [⟨4, sg i, 0, 0⟩, ⟨4, sg j, 0, (sg i).length⟩, ⟨0, [], 0, (sg i).length + (sg j).length⟩]) := by
    show _ ∨ _
    rw [y3, hba, hbb]; exact sign_beside ⟨i, hi20⟩ ⟨j, hj20⟩
  have hm1 : s1.size ≤ maxLen := by
    have e : (⟨#[32]⟩ : ByteArray).size = 1 := rfl
    unfold maxLen; omega
  have hm2 : s2.size ≤ maxLen := by unfold maxLen; omega
  have HA : Hid (a = bstr (sg i)) := ha
  have HB : Hid (b = bstr (sg j)) := hb
  clear hO y1 y2 y3 z1 z2 z3 sa sb pa pb hba hbb ha hb
  go_enter Tryz.func9, Tryz.ntmps9
  go_wp2_with (go_at_call 10; refine (awake_any _ hV).mono ?_; rintro e w1 ⟨rfl, hb1⟩; have hV1 := hV.grown hb1 hV.lt)
  go_quiet (fail)
  go_wp2_with fail
  have bq : Below w.heap.size w ((w1.alloc O).drewN nq) := below_drewN (hb1.alloc hb1.size O) nq
  have hVq := hV.grown bq hV.lt
  refine (cut_ok s1 _ _ hm1 hVq HC1).mono ?_
  rintro e w2 ⟨g, cap, rfl, hrow, hg0, hg1, hcap, hfz, hb2⟩
  have hV2 := hVq.grown hb2 hVq.lt
  have b2 := bq.trans (hb2.mono bq.size)
  have hcap3 : 3 ≤ cap := hcap
  clear hfz hcap hca hcb hO2 HC1
  go_wp2_with fail
  rcases HC2.out with hlong | hcut2
  · have hxy : ((a.toList == [60]) = true ∨ (a.toList == [61]) = true) ∧ b[0] = a[0] := by
      unfold longerB at hlong
      simp only [Bool.and_eq_true, Bool.or_eq_true, beq_iff_eq] at hlong
      have e1 : a.toList = sg i := by rw [Lib.toList_data]; rw [HA.out]; exact bys_bstr _
      obtain ⟨h1, h2⟩ := hlong
      refine ⟨by rw [e1]; simpa using h1, ?_⟩
      have da := drop_cons a 0 ea0
      have db := drop_cons b 0 eb0
      rw [List.drop_zero] at da db
      have ka : (bys a).head? = some a[0] := by rw [da]; rfl
      have kb : (bys b).head? = some b[0] := by rw [db]; rfl
      have ea : bys a = sg i := by rw [HA.out, bys_bstr]
      have eb : bys b = sg j := by rw [HB.out, bys_bstr]
      rw [ea] at ka
      rw [eb] at kb
      rw [ka, kb] at h2
      exact Option.some.inj h2
    obtain ⟨hxy, hz⟩ := hxy
    clear hlong HC2
    cases hr : cutAll (bys s2) with
    | ok us =>
      obtain ⟨hul, _⟩ := cutAll_len hr
      refine (cut_ok s2 us _ hm2 hV2 hr).mono ?_
      rintro e w3 ⟨g2, cap2, rfl, _, _, _, _, _, hb3⟩
      have hrow3 := hrow.below hb3 hg1
      obtain ⟨x0, x1, _, _⟩ := hrow3 0 _ rfl
      obtain ⟨_, y1, _, _⟩ := hrow3 1 _ rfl
      simp only [Nat.zero_mul, Nat.zero_add, Nat.one_mul, Nat.reduceAdd] at x0 x1 y1
      rw [← HA.out] at x1
      rw [← HB.out] at y1
      have b3 := b2.trans (hb3.mono b2.size)
      clear hrow hrow3 hr
      rcases (show ((a.toList == [60]) = true ∧ True) ∨ ((a.toList == [60]) = false ∧ (a.toList == [61]) = true) from two_ways hxy) with ⟨hx, _⟩ | ⟨hx, hx'⟩
      all_goals
        go_wp2
        go_quiet (fail)
        go_wp2
        go_ret
        exact ⟨rfl, below_drewN b3 _⟩
    | error np =>
      refine (cut_err s2 np.1 np.2 _ hm2 hV2 hr).mono ?_
      rintro e w3 ⟨fb, rfl, _, _, hb3⟩
      have hrow3 := hrow.below hb3 hg1
      obtain ⟨x0, x1, _, _⟩ := hrow3 0 _ rfl
      obtain ⟨_, y1, _, _⟩ := hrow3 1 _ rfl
      simp only [Nat.zero_mul, Nat.zero_add, Nat.one_mul, Nat.reduceAdd] at x0 x1 y1
      rw [← HA.out] at x1
      rw [← HB.out] at y1
      have b3 := b2.trans (hb3.mono b2.size)
      clear hrow hrow3 hr
      rcases (show ((a.toList == [60]) = true ∧ True) ∨ ((a.toList == [60]) = false ∧ (a.toList == [61]) = true) from two_ways hxy) with ⟨hx, _⟩ | ⟨hx, hx'⟩
      all_goals
        go_wp2
        go_quiet (fail)
        go_wp2
        go_ret
        exact ⟨rfl, below_drewN b3 _⟩
  · clear HC2
    refine (cut_ok s2 _ _ hm2 hV2 hcut2).mono ?_
    rintro e w3 ⟨g2, cap2, rfl, hrow2, _, hg21, hcap2, _, hb3⟩
    have hrow3 := hrow.below hb3 hg1
    obtain ⟨x0, x1, _, _⟩ := hrow3 0 _ rfl
    obtain ⟨_, y1, _, _⟩ := hrow3 1 _ rfl
    obtain ⟨_, u1, _, _⟩ := hrow2 0 _ rfl
    obtain ⟨_, v1, _, _⟩ := hrow2 1 _ rfl
    simp only [Nat.zero_mul, Nat.zero_add, Nat.one_mul, Nat.reduceAdd] at x0 x1 y1 u1 v1
    rw [← HA.out] at x1 u1
    rw [← HB.out] at y1 v1
    have b3 := b2.trans (hb3.mono b2.size)
    have hcap4 : 3 ≤ cap2 := hcap2
    clear hrow hrow3 hrow2 hcut2 hcap2
    cases hx : (a.toList == [60])
    · cases hy : (a.toList == [61])
      · go_wp2
        go_quiet (fail)
        go_wp2
        go_ret
        exact ⟨rfl, below_drewN b3 _⟩
      · by_cases hz : b[0] = a[0]
        · go_wp2
          go_quiet (fail)
          go_wp2
          go_ret
          exact ⟨rfl, below_drewN b3 _⟩
        · have hz1 : ((b[0].toNat : Int) == (a[0].toNat : Int)) = false := beq_eq_false_iff_ne.2 (fun e => hz (UInt8.toNat_inj.1 (by omega)))
          have hz2 : decide (b[0] = a[0]) = false := decide_eq_false hz
          go_wp2
          go_quiet (fail)
          go_wp2
          go_ret
          exact ⟨rfl, below_drewN b3 _⟩
    · by_cases hz : b[0] = a[0]
      · go_wp2
        go_quiet (fail)
        go_wp2
        go_ret
        exact ⟨rfl, below_drewN b3 _⟩
      · have hz1 : ((b[0].toNat : Int) == (a[0].toNat : Int)) = false := beq_eq_false_iff_ne.2 (fun e => hz (UInt8.toNat_inj.1 (by omega)))
        have hz2 : decide (b[0] = a[0]) = false := decide_eq_false hz
        go_wp2
        go_quiet (fail)
        go_wp2
        go_ret
        exact ⟨rfl, below_drewN b3 _⟩
end Go.Proofs.YtjnfjfihdachiaaGreatDoor
