/- The walk of PlaceLabels: on every input it returns true. Conditions: none. -/
import Derived.Test.YtonlfplojhlmjaaPlNone
import Derived.Test.YtonlfplojhlmjaaPlCount
namespace Go.Proofs.Ytonlfplojhlmjaa.Pl
open Go.ChangeShapes Go.WideShapes Go.RowKit Go.Maps
set_option linter.unusedVariables false
set_option linter.unusedSimpArgs false

theorem lrow_at {lo : Nat} {w : World} {ao : Option Addr} {cap : Nat} {ls : List Int} (h : LRow lo w (.slice ao ls.length cap) ls) {k : Nat} {l : Int} (hk : ls[k]? = some l) : ∃ g, ao = some ⟨g, 0, none⟩ ∧ g < w.heap.size ∧ w.cell? ⟨g, 0 + k, none⟩ = some (.int .i64 l) := by
  rcases h.2 with ⟨e, h0⟩ | ⟨g, cap', cur, e, hb, hgg, rest⟩
  · have := (List.getElem?_eq_some_iff.1 hk).1; omega
  · cases e
    have := World.ownsRow.cells h (g := g) rfl k (.int .i64 l) (by rw [List.getElem?_map, hk]; rfl)
    refine ⟨g, rfl, heap_lt hgg, ?_⟩
    first | (rw [Addr.add_lit] at this; exact this) | (rw [add_plain] at this; exact this)
theorem takeI_snoc {ls : List Int} {k : Nat} {l : Int} (h : ls[k]? = some l) : ls.take (k + 1) = ls.take k ++ [l] := by
  rw [List.take_add_one, h]; rfl

set_option maxHeartbeats 4000000 in
set_option maxRecDepth 100000 in
theorem labels_walk (w : World) (v0 v1 : Value) (zs0 : List Int) (bs1 : List Bool) (h0 : IntsAt w .i8 v0 zs0) (z0 : ∀ n ∈ zs0, (Lit.int .i8 n).wf = true) (h1 : BoolsAt w v1 bs1) :
    Calls Try.prog 7 #[v0, v1] w fun e w' => e = .returned (.bool true) ∧ Below w.heap.size w w' := by
  obtain ⟨ds, hds⟩ : ∃ ds, ds = declsP zs0 bs1 := ⟨_, rfl⟩
  have HA := awake_any w
  have HD : ∀ w1, Below w.heap.size w w1 → Calls Try.prog 9 #[v0, v1] w1 fun e w' => ∃ v', e = .returned v' ∧ PRow w1.heap.size w' v' ds ∧ Below w1.heap.size w1 w' := fun w1 hb => hds ▸ decls_any zs0 bs1 v0 _ w1 (ints_below h0 hb) z0 (bools_below h1 hb)
  have HP : ∀ lo w v, PRow lo w v ds → PsAt w v ds := fun lo w v h => hds ▸ row_ps (hds ▸ h)
  have hlen : ds.length ≤ 600 := by rw [hds, decls_len]; omega
  have HDS := Lib.hid hds
  clear hds h0 h1
  go_enter Try.func7, Try.ntmps7
  go_wp2_with (first
    | (go_at_call 8; refine HA.mono ?_; rintro e w1 ⟨rfl, hb1⟩)
    | (go_at_call 9; refine (HD _ hb1).mono ?_; rintro e w2 ⟨v2, rfl, hR2, hb2⟩; have hP2 := HP _ _ _ hR2; obtain ⟨ao, cap, rfl⟩ := ps_slice hP2))
  have hb12 : Below w.heap.size w w2 := hb1.trans (hb2.mono hb1.size)
  have HP2 := Lib.hid hP2
  clear hR2 hP2
  go_loopw [6, 19] (fun s i wr => ∃ k : Nat, k ≤ ds.length ∧ i = .int .i64 k ∧ s = .int .i64 (wantP (ds.take k)) ∧ Below w2.heap.size w2 wr) (fun _ i _ => ds.length - (intOf i).toNat)
  case atStart => exact ⟨0, Nat.zero_le _, rfl, rfl, Below.refl _ _⟩
  case round =>
    obtain ⟨k, hk, rfl, hs, hBr⟩ := hrel
    by_cases hlt : k < ds.length
    · obtain ⟨d, hd⟩ : ∃ d, ds[k]? = some d := ⟨ds[k], by simp [hlt]⟩
      obtain ⟨nm, g, off, rfl, hg, p0, p1, p2, p3, p4, p5⟩ := ps_get HP2.out hd
      have key : ∀ j u, w2.cell? ⟨g, j, none⟩ = some u → wr.cell? ⟨g, j, none⟩ = some u := fun j u hu => (World.cell?_of_block (hBr.block g hg)).trans hu
      replace p0 := key _ _ p0
      replace p1 := key _ _ p1
      replace p2 := key _ _ p2
      replace p3 := key _ _ p3
      replace p4 := key _ _ p4
      replace p5 := key _ _ p5
      clear key
      have hb := want_bound (ds.take k)
      rw [List.length_take, Nat.min_eq_left hk] at hb
      have hnext : wantP (ds.take (k + 1)) = wantP (ds.take k) + (if d.label = 1 ∧ d.lock = false then cellsP d else 0) := by rw [take_snoc hd, want_snoc]
      have hc := cells_pos d
      obtain ⟨S, hS⟩ : ∃ S, S = wantP (ds.take k) := ⟨_, rfl⟩
      rw [← hS] at hs hnext hb
      have HN := Lib.hid hnext
      clear hnext hS hd
      subst hs
      by_cases hl : d.label = 1
      · cases hk2 : d.lock with
        | true =>
          rw [hk2] at p0
          go_wp2
          go_roundw
          case rel => exact ⟨k + 1, by omega, by go_num, by rw [HN.out]; simp [hk2], hBr.alloc hBr.size _⟩
          case measure => simp [intOf]; omega
        | false =>
          rw [hk2] at p0
          have hf := cells_free hk2
          obtain ⟨c, hcc⟩ : ∃ c, c = cellsP d := ⟨_, rfl⟩
          rw [← hcc] at hf hc
          have HC := Lib.hid hcc
          clear hcc
          go_wp2
          go_roundw
          case rel => exact ⟨k + 1, by omega, by go_num, by rw [HN.out, if_pos ⟨hl, hk2⟩, ← HC.out], hBr.alloc hBr.size _⟩
          case measure => simp [intOf]; omega
      · have hl2 : (d.label == 1) = false := by simpa using hl
        go_wp2
        go_roundw
        case rel => exact ⟨k + 1, by omega, by go_num, by rw [HN.out, if_neg (fun h => hl h.1)]; simp, hBr.alloc hBr.size _⟩
        case measure => simp [intOf]; omega
    · obtain rfl : k = ds.length := by omega
      rw [List.take_length] at hs
      have hwb := want_bound ds
      have how := ones_want ds
      have HL := labels_any ds _ wr (HP2.out.below hBr)
      have hall : Below w.heap.size w wr := hb12.trans (hBr.mono hb12.size)
      have hll : ((labelsP ds).length : Int) ≤ 64000 := by
        have h1 := size_nonneg ds
        rw [← labels_len] at h1
        omega
      obtain ⟨L, hL⟩ : ∃ L, L = labelsP ds := ⟨_, rfl⟩
      obtain ⟨S, hS⟩ : ∃ S, S = wantP ds := ⟨_, rfl⟩
      rw [← hL] at HL hll how
      rw [← hS] at hs hwb how
      clear hL hS
      obtain ⟨wq, rfl⟩ : ∃ wq, wq = wr := ⟨wr, rfl⟩
      subst hs
      go_wp2_with (go_at_call 11; refine HL.mono ?_; rintro e w3 ⟨v3, rfl, hR3, hb3⟩; obtain ⟨lo3, cp3, rfl⟩ := lrow_slice hR3)
      have HR3 := Lib.hid hR3
      clear hR3
      have h03 : Below w.heap.size w w3 := hall.trans (hb3.mono hall.size)
      go_loopw [7, 41] (fun s i wr => ∃ k : Nat, k ≤ L.length ∧ i = .int .i64 k ∧ s = .int .i64 (onesP (L.take k)) ∧ wr = w3) (fun _ i _ => L.length - (intOf i).toNat)
      case atStart => exact ⟨0, Nat.zero_le _, rfl, rfl, rfl⟩
      case round =>
        obtain ⟨k, hk, rfl, hs, rfl⟩ := hrel
        by_cases hlt : k < L.length
        · obtain ⟨l, hl⟩ : ∃ l, L[k]? = some l := ⟨L[k], by simp [hlt]⟩
          obtain ⟨g, rfl, hg, p0⟩ := lrow_at HR3.out hl
          rw [Nat.zero_add] at p0
          have hb := ones_bound (L.take k)
          rw [List.length_take, Nat.min_eq_left hk] at hb
          have hnext : onesP (L.take (k + 1)) = onesP (L.take k) + (if l = 1 then 1 else 0) := by rw [takeI_snoc hl, ones_snoc]
          obtain ⟨S2, hS⟩ : ∃ S2, S2 = onesP (L.take k) := ⟨_, rfl⟩
          rw [← hS] at hs hnext hb
          have HN := Lib.hid hnext
          clear hnext hS hl
          subst hs
          by_cases h1 : l = 1
          · subst h1
            go_wp2
            go_roundw
            case rel => exact ⟨k + 1, by omega, by go_num, by rw [HN.out, if_pos rfl], by trivial⟩
            case measure => simp [intOf]; omega
          · have hl2 : (l == 1) = false := by simpa using h1
            go_wp2
            go_roundw
            case rel => exact ⟨k + 1, by omega, by go_num, by rw [HN.out, if_neg h1]; simp, by trivial⟩
            case measure => simp [intOf]; omega
        · obtain rfl : k = L.length := by omega
          rw [List.take_length, how] at hs
          subst hs
          go_wp2
          go_ret
          exact ⟨by simp, h03⟩
end Go.Proofs.Ytonlfplojhlmjaa.Pl
