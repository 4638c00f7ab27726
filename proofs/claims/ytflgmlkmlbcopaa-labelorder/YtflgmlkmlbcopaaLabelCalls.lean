/- What each function of package label, and the statements' own awake, answers when it is called: by contracts over the plain functions of the text LabelPlain. Conditions: a slice's cells hold the numbers that are named. -/
import Derived.Test.YtflgmlkmlbcopaaRows
import Derived.Test.YtflgmlkmlbcopaaLabelPlain
import Derived.WalkKit
import Derived.ProofKit
import Derived.OpenShut
import Derived.Laws.AppendOwnNone
namespace Go.Proofs.Ytflgmlkmlbcopaa
open Go.ChangeShapes Go.WideShapes Go.ChangeAt Go.RowKit

theorem ret_int {k : IntKind} {a b : Int} (h : a = b) : Ending.returned (.int k a) = .returned (.int k b) := by rw [h]
theorem ret_bool {a b : Bool} (h : a = b) : Ending.returned (.bool a) = .returned (.bool b) := by rw [h]

theorem hidden_any (a : Int) (w : World) :
    Calls Try.prog 11 #[.int .i64 a] w fun e w' => e = .returned (.bool (hidB a)) ∧ w' = w := by
  go_enter Try.func11, Try.ntmps11
  go_wp2
  go_ret
  exact ⟨ret_bool rfl, rfl⟩

theorem flows_any (a b : Int) (w : World) :
    Calls Try.prog 10 #[.int .i64 a, .int .i64 b] w fun e w' => e = .returned (.bool (flowsB a b)) ∧ w' = w := by
  by_cases ha : a = 0
  · have hh := hid_no ha
    have hf : flowsB a b = true := by simp [flowsB, ha]
    go_enter Try.func10, Try.ntmps10
    go_wp2_with (go_at_call 11; refine (hidden_any _ _).mono ?_; rintro e w' ⟨rfl, rfl⟩)
    go_ret
    exact ⟨ret_bool (by simp [hf]), rfl⟩
  · have hh := hid_yes ha
    have hf : hidB b = flowsB a b := by rw [← flows_eq, hh]; rfl
    go_enter Try.func10, Try.ntmps10
    go_wp2_with (go_at_call 11; refine (hidden_any _ _).mono ?_; rintro e w' ⟨rfl, rfl⟩)
    go_ret
    exact ⟨ret_bool (by simp), rfl⟩

theorem join_none (ao : Option Addr) (cap : Nat) (w : World) :
    Calls Try.prog 9 #[.slice ao 0 cap] w fun e w' => e = .returned (.int .i64 (joinI [])) ∧ w' = w := by
  go_enter Try.func9, Try.ntmps9
  go_wp2
  refine wp_loop_rounds 1 ?_
  rw [rounds_succ]
  go_wp2
  go_ret
  exact ⟨rfl, rfl⟩

theorem join_some (b off cap : Nat) (zs : List Int) (w : World) (hm : zs.length ≤ maxLen)
    (hc : ∀ j, j < zs.length → w.cell? ⟨b, off + j, none⟩ = some (.int .i64 (zs.getD j 0))) :
    Calls Try.prog 9 #[.slice (some ⟨b, off, none⟩) zs.length cap] w fun e w' => e = .returned (.int .i64 (joinI zs)) ∧ w' = w := by
  unfold maxLen at hm
  go_enter Try.func9, Try.ntmps9
  go_wp2
  go_loop [7] (fun i => ∃ k : Nat, k ≤ zs.length ∧ i = .int .i64 k ∧ joinI (zs.take k) = 0) (fun i => zs.length - (intOf i).toNat)
  case atStart => exact ⟨0, Nat.zero_le _, rfl, rfl⟩
  case round =>
    obtain ⟨k, hk, rfl, hj⟩ := hrel
    by_cases hlt : k < zs.length
    · have hcx := hc k hlt
      obtain ⟨z, hz⟩ : ∃ z, z = zs.getD k 0 := ⟨_, rfl⟩
      rw [← hz] at hcx
      have hmem := getD_mem zs k hlt
      have hts := take_snoc zs k hlt
      rw [← hz] at hmem hts
      have HJ : Hid (joinI (zs.take k) = 0) := hj
      have HM : Hid (z ∈ zs) := hmem
      have HT : Hid (zs.take (k + 1) = zs.take k ++ [z]) := hts
      clear hj hmem hts hz hc
      by_cases h0 : z = 0
      · have hh := hid_no h0
        go_wp2_with (go_at_call 11; refine (hidden_any _ _).mono ?_; rintro e w' ⟨rfl, rfl⟩)
        go_round
        case rel => exact ⟨k + 1, by omega, by go_num, by rw [HT.out, join_snoc_no _ h0]; exact HJ.out⟩
        case measure => simp [intOf]; omega
      · have hh := hid_yes h0
        go_wp2_with (go_at_call 11; refine (hidden_any _ _).mono ?_; rintro e w' ⟨rfl, rfl⟩)
        go_ret
        exact ⟨ret_int (join_mem HM.out h0).symm, rfl⟩
    · have he : zs.take k = zs := List.take_of_length_le (by omega)
      rw [he] at hj
      have HJ : Hid (joinI zs = 0) := hj
      clear hj he hc
      go_wp2
      go_ret
      exact ⟨ret_int HJ.out.symm, rfl⟩

theorem join_pair_at (b cap : Nat) (x y : Int) (w : World) (h0 : w.cell? ⟨b, 0, none⟩ = some (.int .i64 x)) (h1 : w.cell? ⟨b, 1, none⟩ = some (.int .i64 y)) :
    Calls Try.prog 9 #[.slice (some ⟨b, 0, none⟩) 2 cap] w fun e w' => e = .returned (.int .i64 (joinI [x, y])) ∧ w' = w :=
  join_some b 0 cap [x, y] w (by unfold maxLen; simp) (fun j hj => by
    match j, hj with
    | 0, _ => simpa using h0
    | 1, _ => simpa using h1)

theorem join_new (b cap : Nat) (x y : Int) (w : World) (hb : b = w.heap.size) :
    Calls Try.prog 9 #[.slice (some ⟨b, 0, none⟩) 2 cap] (w.alloc (.cells #[.int .i64 x, .int .i64 y] 24)) fun e w' =>
      e = .returned (.int .i64 (joinI [x, y])) ∧ w' = w.alloc (.cells #[.int .i64 x, .int .i64 y] 24) := by
  subst hb
  exact join_pair_at _ _ x y _ (by simp [go_sem]) (by simp [go_sem])

/-- A slice that the call itself has built. -/
theorem join_own (base n : Nat) (v : Value) (zs : List Int) (w : World) (hn : n = zs.length) (hm : n ≤ maxLen) (hown : w.ownsRow base 24 1 v n (zs.map (Value.int .i64))) :
    Calls Try.prog 9 #[v] w fun e w' => e = .returned (.int .i64 (joinI zs)) ∧ w' = w := by
  subst hn
  have hown0 := hown
  obtain ⟨_, hcase⟩ := hown
  rcases hcase with ⟨rfl, h0⟩ | ⟨g, cap, cur, rfl, hg, hh, hn, hcap, hsz, htake⟩
  · obtain rfl : zs = [] := List.length_eq_zero_iff.1 h0
    exact join_none _ _ _
  · refine join_some g 0 cap zs w hm (fun j hj => ?_)
    have hx : (zs.map (Value.int .i64))[j]? = some (.int .i64 (zs.getD j 0)) := by simp [List.getD, hj]
    have := hown0.cells (g := g) rfl j _ hx
    rwa [Addr.add_lit] at this

theorem awake_any (w : World) :
    Calls Try.prog 8 #[] w fun e w' => e = .returned (.bool true) ∧ w' = w.alloc (.cells #[.int .i64 0, .int .i64 1] 24) := by
  have hj : joinI [0, 1] = 1 := rfl
  have f1 : flowsB 1 0 = false := rfl
  have f2 : flowsB 0 0 = true := rfl
  go_enter Try.func8, Try.ntmps8
  go_wp2_with (first | (go_at_call 9; refine (join_pair_at _ _ 0 1 _ (by simp [go_sem]) (by simp [go_sem])).mono ?_; rintro e w' ⟨rfl, rfl⟩) | (go_at_call 10; refine (flows_any _ _ _).mono ?_; rintro e w' ⟨rfl, rfl⟩))
  go_ret
  exact ⟨rfl, rfl⟩

theorem Try.infoL : (Try.prog.info? 24).map (fun i => (i.zero, i.size, i.bytes)) = some (some (.int .i64 0), 1, 8) := by kernel_rfl

/-- What is owned stays so while nothing below B turns, where its block lies below B. -/
theorem owns_below {w w' : World} {base B : Nat} {e : TypeId} {size : Nat} {v : Value} {n : Nat} {xs : List Value} (h : w.ownsRow base e size v n xs) (hB : ∀ k, v.ownBlock = some k → k < B) (hb : Below B w w') : w'.ownsRow base e size v n xs := by
  obtain ⟨h1, h2⟩ := h
  refine ⟨h1, ?_⟩
  rcases h2 with h2 | ⟨g, cap, cur, hv, hg, hh, r⟩
  · exact Or.inl h2
  · refine Or.inr ⟨g, cap, cur, hv, hg, ?_, r⟩
    rw [hb.block g (hB g (by rw [hv]; rfl))]
    exact hh

/-- One label more, behind those that the call has gathered: 'ls = append(ls, x)'. -/
theorem append_one {ops : Array Oper} {rest : List Oper} {o : Oper} {a : Act} {Q : Exit → Act → World → Prop} (wr : World) (z : Int) (hgd : o.guard = none) (s x : Operand)
    (ho : o.op = .call { callee := .builtin .append, args := #[s, x], argTypes := #[25, 25] })
    (base : Nat) (v : Value) (n : Nat) (zs : List Int) (hs : a.eval s = v) (hown : wr.ownsRow base 24 1 v n (zs.map (Value.int .i64)))
    (hx : a.eval x = .slice (some ⟨wr.heap.size, 0, none⟩) 1 1) (hn : n * 8 ≤ 140737488351232) (hbase : base ≤ wr.heap.size)
    (h : ∀ v' w', w'.ownsRow base 24 1 v' (n + 1) ((zs ++ [z]).map (Value.int .i64)) → Below base wr w' → wpList Try.prog ops Q rest (a.put o.dst v') w') :
    wpList Try.prog ops Q (o :: rest) a (wr.alloc (.cells #[.int .i64 z] 24)) := by
  obtain ⟨i0, hi, hz0, hz1, hz2⟩ := info_parts Try.infoL
  refine wpList_append_own _ hgd s x 25 ho base 24 i0 (.int .i64 0) 1 8 Try.underlying25 hi hz0 hz1 hz2 rfl (by decide) v n (zs.map (Value.int .i64)) hs (hown.alloc _) ⟨wr.heap.size, 0, none⟩ 1 1 [.int .i64 z] hx rfl ?_ ?_ ?_ ?_ ?_ ?_
  · intro j u hj
    match j, hj with
    | 0, hj => simp at hj; subst hj; simp [Addr.add]
  · intro u hu; simp at hu; subst hu; rfl
  · unfold maxLen; omega
  · omega
  · simp; omega
  · intro v' w' ho' hg _
    refine h v' w' (by simpa using ho') (Below.grown ((Below.refl _ _).alloc hbase _) hg (by simp; omega) (fun k hk => (hown.lt k hk).1))

/-- All labels of a second list, behind those that the call has gathered: 'append(ls, ms...)'. -/
theorem append_all {ops : Array Oper} {rest : List Oper} {o : Oper} {a : Act} {Q : Exit → Act → World → Prop} (w : World) (hgd : o.guard = none) (s x : Operand)
    (ho : o.op = .call { callee := .builtin .append, args := #[s, x], argTypes := #[25, 25] })
    (base : Nat) (v : Value) (n : Nat) (xs : List Int) (hs : a.eval s = v) (hown : w.ownsRow base 24 1 v n (xs.map (Value.int .i64)))
    (base' : Nat) (v2 : Value) (m : Nat) (ys : List Int) (hx : a.eval x = v2) (hown2 : w.ownsRow base' 24 1 v2 m (ys.map (Value.int .i64))) (hn : (n + m) * 8 ≤ 140737488355328) (hbase : base ≤ w.heap.size)
    (h : ∀ v' w', w'.ownsRow base 24 1 v' (n + m) ((xs ++ ys).map (Value.int .i64)) → Below base w w' → wpList Try.prog ops Q rest (a.put o.dst v') w') :
    wpList Try.prog ops Q (o :: rest) a w := by
  obtain ⟨i0, hi, hz0, hz1, hz2⟩ := info_parts Try.infoL
  have hown20 := hown2
  obtain ⟨hl2, hcase⟩ := hown2
  rcases hcase with ⟨rfl, rfl⟩ | ⟨g, cap, cur, rfl, hg, hh, hn2, hcap, hsz, htake⟩
  · have hy : ys = [] := by simpa using hl2
    subst hy
    exact wpList_append_own_none hgd s x 25 ho base 24 i0 1 Try.underlying25 hi v n (xs.map (Value.int .i64)) hs hown hx (h v w (by simpa using hown) (Below.refl _ _))
  · refine wpList_append_own _ hgd s x 25 ho base 24 i0 (.int .i64 0) 1 8 Try.underlying25 hi hz0 hz1 hz2 rfl (by decide) v n (xs.map (Value.int .i64)) hs hown ⟨g, 0, none⟩ m cap (ys.map (Value.int .i64)) hx hl2 (hown20.cells rfl) (ints_oneCell _ _) (by unfold maxLen; omega) hn hbase ?_
    intro v' w' ho' hgr _
    exact h v' w' (by simpa using ho') (Below.grown (Below.refl _ _) hgr hbase (fun k hk => (hown.lt k hk).1))

end Go.Proofs.Ytflgmlkmlbcopaa
