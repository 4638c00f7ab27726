/- The walk of PlaceNone: on every input it returns true. Conditions: the string is at most maxLen long. -/
import Derived.Test.YtonlfplojhlmjaaPlMake
import Derived.Test.YtonlfplojhlmjaaPlAwake
namespace Go.Proofs.Ytonlfplojhlmjaa.Pl
open Go.ChangeShapes Go.WideShapes Go.RowKit Go.Maps
set_option linter.unusedVariables false
set_option linter.unusedSimpArgs false

theorem starts_some (s : ByteArray) : ∀ (ds : List Pd) (f : ByteArray → Option Int) (n : Int), (startsP ds f n s).isSome = ((f s).isSome || ds.any (fun d => decide (d.name = s)))
  | [], f, n => by simp [startsP]
  | d :: ds, f, n => by
    simp only [startsP, List.any_cons]
    rw [starts_some s ds]
    have e : (stepF f n d s).isSome = ((f s).isSome || decide (d.name = s)) := by
      unfold stepF
      by_cases h : d.name = s
      · subst h
        cases hf : (f d.name).isSome with
        | true => simp [hf]
        | false => simp [put_same]
      · have hb : decide (d.name = s) = false := by simpa using h
        rw [hb, Bool.or_false]
        split
        · rfl
        · rw [put_ne _ _ _ _ (fun e => h e.symm)]
    rw [e, Bool.or_assoc]
theorem str_eq (a b : ByteArray) : (a.toList == b.toList) = decide (a = b) := by
  by_cases h : a = b
  · subst h; simp
  · have hn : ¬ a.toList = b.toList := fun e => h (by
      rw [ByteArray.toList_eq, ByteArray.toList_eq] at e
      exact ByteArray.ext (Array.toList_inj.1 e))
    rw [decide_eq_false h]
    simpa using hn
/-- Each declaration's cells. -/
theorem ps_get {w : World} {ao : Option Addr} {cap : Nat} {ds : List Pd} (h : PsAt w (.slice ao ds.length cap) ds) {k : Nat} {d : Pd} (hd : ds[k]? = some d) : d.name.size ≤ maxLen ∧ ∃ g off, ao = some ⟨g, off, none⟩ ∧ g < w.heap.size ∧
    w.cell? ⟨g, off + k * 6, none⟩ = some (.bool d.lock) ∧ w.cell? ⟨g, off + k * 6 + 1, none⟩ = some (.int .i64 d.label) ∧ w.cell? ⟨g, off + k * 6 + 2, none⟩ = some (.string d.name) ∧ w.cell? ⟨g, off + k * 6 + 3, none⟩ = some (.int .i64 d.size) ∧ w.cell? ⟨g, off + k * 6 + 4, none⟩ = some (.string d.by_) ∧ w.cell? ⟨g, off + k * 6 + 5, none⟩ = some (.int .i64 d.at_) := by
  obtain ⟨ao', cap', e, hl, hr⟩ := h
  cases e
  exact hr k d hd
theorem row_ps {lo : Nat} {w : World} {v : Value} {zs : List Int} {bs : List Bool} (h : PRow lo w v (declsP zs bs)) : PsAt w v (declsP zs bs) :=
  PRow.at h (by rw [decls_len]; omega) (fun d hd => by rw [(decls_name hd).1]; unfold maxLen; omega)
theorem ps_slice {w : World} {v : Value} {ds : List Pd} (h : PsAt w v ds) : ∃ ao cap, v = .slice ao ds.length cap := by
  obtain ⟨ao, cap, e, _⟩ := h
  exact ⟨ao, cap, e⟩

set_option maxHeartbeats 4000000 in
set_option maxRecDepth 100000 in
theorem none_walk (w : World) (v0 : Value) (zs0 : List Int) (a1 : ByteArray) (h0 : IntsAt w .i8 v0 zs0) (z0 : ∀ n ∈ zs0, (Lit.int .i8 n).wf = true) (n1 : a1.size ≤ maxLen) :
    Calls Try.prog 4 #[v0, .string a1] w fun e w' => e = .returned (.bool true) ∧ Below w.heap.size w w' := by
  obtain ⟨ds, hds⟩ : ∃ ds, ds = declsP zs0 [] := ⟨_, rfl⟩
  have HA := awake_any w
  have HD : ∀ w1, Below w.heap.size w w1 → Calls Try.prog 9 #[v0, .slice none 0 0] w1 fun e w' => ∃ v', e = .returned v' ∧ PRow w1.heap.size w' v' ds ∧ Below w1.heap.size w1 w' := fun w1 hb => hds ▸ decls_any zs0 [] v0 _ w1 (ints_below h0 hb) z0 (bools_nil w1)
  have HP : ∀ lo w v, PRow lo w v ds → PsAt w v ds := fun lo w v h => hds ▸ row_ps (hds ▸ h)
  have hlen : ds.length ≤ 600 := by rw [hds, decls_len]; omega
  have HDS := Lib.hid hds
  clear hds h0
  go_enter Try.func4, Try.ntmps4
  go_wp2_with (first
    | (go_at_call 8; refine HA.mono ?_; rintro e w1 ⟨rfl, hb1⟩)
    | (go_at_call 9; refine (HD _ hb1).mono ?_; rintro e w2 ⟨v2, rfl, hR2, hb2⟩; have hP2 := HP _ _ _ hR2; obtain ⟨ao, cap, rfl⟩ := ps_slice hP2))
  have hb12 : Below w.heap.size w w2 := hb1.trans (hb2.mono hb1.size)
  have HP2 := Lib.hid hP2
  clear hR2 hP2
  go_loopw [6, 17] (fun s i wr => ∃ k : Nat, k ≤ ds.length ∧ i = .int .i64 k ∧ s = .bool ((ds.take k).any (fun d => decide (d.name = a1))) ∧ Below w2.heap.size w2 wr) (fun _ i _ => ds.length - (intOf i).toNat)
  case atStart => exact ⟨0, Nat.zero_le _, rfl, rfl, Below.refl _ _⟩
  case round =>
    obtain ⟨k, hk, rfl, hs, hBr⟩ := hrel
    by_cases hlt : k < ds.length
    · obtain ⟨d, hd⟩ : ∃ d, ds[k]? = some d := ⟨ds[k], by simp [hlt]⟩
      obtain ⟨nm, g, off, rfl, hg, p0, p1, p2, p3, p4, p5⟩ := ps_get HP2.out hd
      have key : ∀ j u, w2.cell? ⟨g, j, none⟩ = some u → wr.cell? ⟨g, j, none⟩ = some u := fun j u hu => (World.cell?_of_block (hBr.block g hg)).trans hu
      replace p0 := key _ _ p0
      replace p1 := key _ _ p1
      replace p2 := key _ _ p2
      replace p3 := key _ _ p3
      replace p4 := key _ _ p4
      replace p5 := key _ _ p5
      clear key
      have hnext : (ds.take (k + 1)).any (fun d => decide (d.name = a1)) = ((ds.take k).any (fun d => decide (d.name = a1)) || decide (d.name = a1)) := by rw [take_snoc hd, List.any_append]; simp
      obtain ⟨B, hB⟩ : ∃ B, B = (ds.take k).any (fun d => decide (d.name = a1)) := ⟨_, rfl⟩
      rw [← hB] at hs hnext
      have HN := Lib.hid hnext
      clear hnext hB hd
      subst hs
      cases B with
      | true =>
        go_wp2
        go_roundw
        case rel => exact ⟨k + 1, by omega, by go_num, by rw [HN.out]; rfl, hBr.alloc hBr.size _⟩
        case measure => simp [intOf]; omega
      | false =>
        cases hE : decide (d.name = a1) with
        | true =>
          have hE2 : d.name = a1 := by simpa using hE
          have hE3 : (d.name.toList == a1.toList) = true := by rw [str_eq]; exact hE
          go_wp2
          go_roundw
          case rel => exact ⟨k + 1, by omega, by go_num, by rw [HN.out, hE]; rfl, hBr.alloc hBr.size _⟩
          case measure => simp [intOf]; omega
        | false =>
          have hE2 : ¬ d.name = a1 := by simpa using hE
          have hE3 : (d.name.toList == a1.toList) = false := by rw [str_eq]; exact hE
          go_wp2
          go_roundw
          case rel => exact ⟨k + 1, by omega, by go_num, by rw [HN.out, hE]; rfl, hBr.alloc hBr.size _⟩
          case measure => simp [intOf]; omega
    · obtain rfl : k = ds.length := by omega
      rw [List.take_length] at hs
      have hss := starts_some a1 ds none0 0
      rw [show (none0 a1).isSome = false from rfl, Bool.false_or] at hss
      rw [← hss] at hs
      have HO := of_any ds _ wr (HP2.out.below hBr)
      obtain ⟨F, hF⟩ : ∃ F, F = startsP ds none0 0 := ⟨_, rfl⟩
      rw [← hF] at hs HO
      have hall : Below w.heap.size w wr := hb12.trans (hBr.mono hb12.size)
      clear hss hF
      subst hs
      cases hX : F a1 with
      | none =>
        go_wp2_with (first
          | (go_at_call 10; refine HO.mono ?_; rintro e w3 ⟨rfl, hM3, hb3⟩; have H4 := start_any hM3 (sizeP ds) a1 n1; rw [hX] at H4)
          | (go_at_call 12; refine H4.mono ?_; rintro e w4 ⟨rfl, hb4⟩))
        go_ret
        have b3 := hall.trans (hb3.mono hall.size)
        exact ⟨rfl, b3.trans (hb4.mono b3.size)⟩
      | some x =>
        go_wp2_with (first
          | (go_at_call 10; refine HO.mono ?_; rintro e w3 ⟨rfl, hM3, hb3⟩; have H4 := start_any hM3 (sizeP ds) a1 n1; rw [hX] at H4)
          | (go_at_call 12; refine H4.mono ?_; rintro e w4 ⟨rfl, hb4⟩))
        go_ret
        have b3 := hall.trans (hb3.mono hall.size)
        exact ⟨rfl, b3.trans (hb4.mono b3.size)⟩
end Go.Proofs.Ytonlfplojhlmjaa.Pl
