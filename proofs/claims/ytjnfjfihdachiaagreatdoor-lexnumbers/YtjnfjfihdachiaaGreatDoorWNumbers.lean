/- The walk of the statement LexNumbers. Conditions: the package variables hold what their initialisers lay. -/
import Derived.Test.YtjnfjfihdachiaaGreatDoorLexDigs
import Derived.Test.YtjnfjfihdachiaaGreatDoorWSigns
import Derived.Laws.Runes
namespace Go.Proofs.YtjnfjfihdachiaaGreatDoor
open Go.ChangeShapes Go.WideShapes Go.ChangeAt Go.RowKit
set_option linter.unusedVariables false

theorem encode_digit : ∀ d : Fin 10, Utf8.encode (48 + (d.val : Int)) = bstr [UInt8.ofNat (48 + d.val)] := by decide
theorem u64_bounds {a : Int} (h : (Lit.int .u64 a).wf = true) : 0 ≤ a ∧ a ≤ 18446744073709551615 := by
  simp [Lit.wf] at h
  exact h
/-- lex.Cut at a number's digits. -/
theorem cut_num (c n : Nat) (hc : 0 < c) (hc5 : c ≤ 5) (hn : n < 18446744073709551616) (s : ByteArray) (hs : Hid (bys s = List.replicate c 48 ++ digs n)) (w : World) (hV : Vars w) :
    Calls Tryz.prog 11 #[.string s] w fun e w' => ∃ g cap, e = .returned (.tuple #[.slice (some ⟨g, 0, none⟩) 2 cap, .nilIface]) ∧ w'.cell? ⟨g, 0, none⟩ = some (.int .i64 3) ∧ w'.cell? ⟨g, 1, none⟩ = some (.string s) ∧ w'.cell? ⟨g, 2, none⟩ = some (.int .u64 (n : Int)) ∧ 2 ≤ cap ∧ Below w.heap.size w w' := by
  have h := cut_number c n hc hc5 hn
  have hl := digs_len 20 n (by omega)
  have hsz : s.size ≤ maxLen := by
    rw [← bys_length, hs.out, List.length_append, List.length_replicate]
    unfold maxLen; omega
  rw [← hs.out] at h
  refine (cut_ok s _ w hsz hV h).mono ?_
  rintro e w' ⟨g, cap, rfl, hrow, _, _, hcap, _, hb⟩
  obtain ⟨x0, x1, x2, _⟩ := hrow 0 _ rfl
  simp only [Nat.zero_mul, Nat.zero_add, bstr_bys] at x0 x1 x2
  exact ⟨g, cap, rfl, x0, x1, x2, hcap, hb⟩

set_option maxRecDepth 100000 in
set_option maxHeartbeats 4000000 in
theorem numbers_walk (a0 a1 : Int) (w : World) (w0 : (Lit.int .u64 a0).wf = true) (w1 : (Lit.int .u8 a1).wf = true) (hV : Vars w) :
    Calls Tryz.prog 7 #[.int .u64 a0, .int .u8 a1] w fun e w' => e = .returned (.bool true) ∧ Below w.heap.size w w' := by
  obtain ⟨h00, h01⟩ := u64_bounds w0
  obtain ⟨h10, h11⟩ := u8_bounds w1
  obtain ⟨N, rfl⟩ : ∃ N : Nat, a0 = (N : Int) := ⟨a0.toNat, by omega⟩
  have hN : N < 18446744073709551616 := by omega
  obtain ⟨q, hq⟩ : ∃ q : Nat, a1 % 5 = (q : Int) := ⟨(a1 % 5).toNat, by omega⟩
  have hq5 : q < 5 := by omega
  have hdl := digs_len 20 N (by omega)
  clear w0 w1
  go_enter Tryz.func7, Tryz.ntmps7
  go_wp2_with (go_at_call 10; refine (awake_any _ hV).mono ?_; rintro e w1 ⟨rfl, hb1⟩; have hV1 := hV.grown hb1 hV.lt)
  go_loop [5, 6] (fun vs vm => ∃ (s : ByteArray) (M : Nat), vs = .string s ∧ vm = .int .u64 M ∧ M < 18446744073709551616 ∧ s.size ≤ 20 ∧ Hid (digs N = digs M ++ bys s)) (fun _ vm => (intOf vm).toNat)
  case atStart => exact ⟨⟨#[]⟩, N, rfl, rfl, hN, by decide, by show _ = _; simp [bys]⟩
  case round =>
    obtain ⟨s, M, rfl, rfl, hM, hs20, HD⟩ := hrel
    by_cases hp : 0 < M
    · obtain ⟨d, hd⟩ : ∃ d : Nat, (M : Int) % 10 = (d : Int) := ⟨M % 10, by omega⟩
      have hd10 : d < 10 := by omega
      have hdm : d = M % 10 := by omega
      have hE := encode_digit ⟨d, hd10⟩
      simp only at hE
      obtain ⟨c, hc⟩ : ∃ c, c = bstr [UInt8.ofNat (48 + d)] := ⟨_, rfl⟩
      rw [← hc] at hE
      have hc1 : c.size = 1 := by rw [hc, bstr_size]; rfl
      obtain ⟨s', hadd, hb', hz'⟩ := joined c s (by omega)
      have HN : Hid (digs N = digs (M / 10) ++ bys s') := by
        show _ = _
        rw [HD.out, digs_pos hp, hb', hc, bys_bstr, hdm, List.append_assoc]
      have hs' : s'.size ≤ 20 := by
        have := congrArg List.length HN.out
        rw [List.length_append, bys_length] at this
        omega
      clear hc hdm hb' HD
      go_wp2
      go_round
      case rel => exact ⟨s', M / 10, rfl, by first | go_num | simp, by omega, hs', HN⟩
      case measure => simp [intOf]; omega
    · obtain rfl : M = 0 := by omega
      have HD0 : Hid (bys s = digs N) := by rw [HD.out, digs_zero]; rfl
      clear HD
      go_wp2
      go_loop [5, 7] (fun vs vk => ∃ (t : ByteArray) (k : Nat), vs = .string t ∧ vk = .int .i64 k ∧ k ≤ q + 1 ∧ t.size ≤ 20 + k ∧ Hid (bys t = List.replicate k 48 ++ digs N)) (fun _ vk => q + 1 - (intOf vk).toNat)
      case atStart => exact ⟨s, 0, rfl, rfl, by omega, by omega, HD0.out⟩
      case round =>
        obtain ⟨t, k, rfl, rfl, hk, ht, HT⟩ := hrel
        by_cases hkq : k ≤ q
        · obtain ⟨t', hadd, hb', hz'⟩ := joined ⟨#[48]⟩ t (by show 1 + t.size ≤ _; omega)
          have hz2 : t'.size = 1 + t.size := hz'
          have HN : Hid (bys t' = List.replicate (k + 1) 48 ++ digs N) := by
            show _ = _
            rw [hb', HT.out, List.replicate_succ]; rfl
          clear hb' HT hz'
          go_wp2
          go_round
          case rel => exact ⟨t', k + 1, rfl, by go_num, by omega, by omega, HN⟩
          case measure => simp [intOf]; omega
        · obtain rfl : k = q + 1 := by omega
          clear HD0
          go_wp2_with (go_at_call 11; refine (cut_num (q + 1) N (by omega) (by omega) hN t HT _ hV1).mono ?_; rintro e w2 ⟨g, cap, rfl, x0, x1, x2, hcap, hb2⟩)
          go_ret
          exact ⟨rfl, hb1.trans (hb2.mono hb1.size)⟩
end Go.Proofs.YtjnfjfihdachiaaGreatDoor
