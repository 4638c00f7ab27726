/- The walk of ParseLimits: for all five numbers it returns true. Conditions: lex's variables are as they are laid. -/
import Derived.Test.YtfginegegaokbaaGreatDoorHWNum
namespace Go.Proofs.YtfginegegaokbaaGreatDoor.Pr
open Go.ChangeShapes Go.WideShapes Go.ChangeAt Go.RowKit
open Go.Lib (decDigits)
set_option linter.unusedVariables false
set_option linter.unusedSimpArgs false

theorem reads1 (d t : Nat) (hd : d < 80) (ht : t < 24) : Reads (decide (d ≤ 64) && decide (1 + t ≤ 16)) (declsT d ++ thrsT (1 + t)) := by
  rcases lim1 d (1 + t) (by omega) (by omega) (by omega) with ⟨h1, h2, hq⟩ | ⟨h, ha⟩
  · exact .inl ⟨by simp [h1, h2], hq⟩
  · refine .inr ⟨?_, ha⟩
    by_cases h1 : d ≤ 64
    · have : ¬ 1 + t ≤ 16 := fun h2 => h ⟨h1, h2⟩
      simp [h1, this]
    · simp [h1]
theorem reads2 (n : Nat) (h : n < 100) : Reads (decide (1 ≤ n) && decide (n ≤ 64)) (sizeT (decDigits n)) := by
  rcases lim2 n h with ⟨h1, h2, hq⟩ | ⟨h, ha⟩
  · exact .inl ⟨by simp [h1, h2], hq⟩
  · refine .inr ⟨?_, ha⟩
    by_cases h1 : 1 ≤ n
    · have : ¬ n ≤ 64 := fun h2 => h ⟨h1, h2⟩
      simp [h1, this]
    · simp [h1]
theorem reads3 (n : Nat) (h : n < 400) : Reads (decide (1 ≤ n) && decide (n ≤ 256)) (roundT (decDigits n)) := by
  rcases lim3 n h with ⟨h1, h2, hq⟩ | ⟨h, ha⟩
  · exact .inl ⟨by simp [h1, h2], hq⟩
  · refine .inr ⟨?_, ha⟩
    by_cases h1 : 1 ≤ n
    · have : ¬ n ≤ 256 := fun h2 => h ⟨h1, h2⟩
      simp [h1, this]
    · simp [h1]
theorem reads4 (n : Nat) (h : n < 60) : Reads (decide ((n : Int) + 2 ≤ 40)) (outT (wrapT n)) := by
  rcases lim4 n h with ⟨h1, hq⟩ | ⟨h, ha⟩
  · exact .inl ⟨decide_eq_true (by omega), hq⟩
  · exact .inr ⟨decide_eq_false (by omega), ha⟩
theorem two_ways {A B : Prop} [Decidable A] [Decidable B] {a b : Prop} [Decidable a] [Decidable b] (ha : A ↔ a) (hb : B ↔ b) {R : Bool → Prop} (h : R (decide A && decide B)) : (a ∧ R (decide b)) ∨ (¬ a ∧ R false) := by
  by_cases h1 : a
  · refine .inl ⟨h1, ?_⟩
    rw [decide_eq_true (ha.2 h1), Bool.true_and, decide_eq_decide.2 hb] at h
    exact h
  · refine .inr ⟨h1, ?_⟩
    rw [decide_eq_false (fun hh => h1 (ha.1 hh)), Bool.false_and] at h
    exact h
theorem text1_len (d t : Nat) (hd : d < 80) (ht : t ≤ 24) : (bstr (declsT d ++ thrsT t)).size ≤ 1400 := by
  rw [bstr_size, List.length_append, thrsT_len]
  have := declsT_len d (by omega)
  omega
set_option maxHeartbeats 2000000 in
set_option maxRecDepth 100000 in
theorem lim_walk (w : World) (a0 a1 a2 a3 a4 d t n c b : Nat) (h0 : a0 < 256) (h1 : a1 < 256) (h2 : a2 < 65536) (h3 : a3 < 65536) (h4 : a4 < 256)
    (hd : Int.tmod (a0 : Int) 80 = (d : Int)) (ht : Int.tmod (a1 : Int) 24 = (t : Int)) (hn : Int.tmod (a2 : Int) 100 = (n : Int)) (hc : Int.tmod (a3 : Int) 400 = (c : Int)) (hb : Int.tmod (a4 : Int) 60 = (b : Int)) (ld : d < 80) (lt : t < 24) (ln : n < 100) (lc : c < 400) (lb : b < 60) (hV : Lx.Vars w) :
    Calls Tryz.prog 8 #[.int .u8 (a0 : Int), .int .u8 (a1 : Int), .int .u16 (a2 : Int), .int .u16 (a3 : Int), .int .u8 (a4 : Int)] w fun e w' => e = .returned (.bool true) ∧ Below w.heap.size w w' := by
  have A1 := awake_any w hV
  have R1 := reads1 d t ld lt
  have R2 := reads2 n ln
  have R3 := reads3 c lc
  have R4 := Lib.hid (reads4 b lb)
  have NN := fun w' => num_any n (by omega) w'
  have NC := fun w' => num_any c (by omega) w'
  have zn : (bstr (decDigits n)).size ≤ 3 := by rw [bstr_size]; exact dig_few _ (by omega)
  have zc : (bstr (decDigits c)).size ≤ 3 := by rw [bstr_size]; exact dig_few _ (by omega)
  have HV := Lib.hid hV
  clear hV
  go_enter Tryz.func8, Tryz.ntmps8
  go_wp2_with (go_at_call 10; refine A1.mono ?_; rintro e w1 ⟨rfl, hb1'⟩; have B1 := Lib.hid hb1'; clear hb1')
  go_loop [16, 17] (fun s i => ∃ k : Nat, k ≤ d ∧ i = .int .i64 k ∧ s = .string (bstr (declsT k))) (fun _ i => d - (intOf i).toNat)
  case atStart => exact ⟨0, Nat.zero_le _, rfl, rfl⟩
  case round =>
    obtain ⟨k, hk, rfl, rfl⟩ := hrel
    by_cases hlt : k < d
    · have zk : (bstr (decDigits k)).size ≤ 3 := by rw [bstr_size]; exact dig_few _ (by omega)
      have zs : (bstr (declsT k)).size ≤ 1100 := by rw [bstr_size]; have := declsT_len k (by omega); omega
      have NK := num_any k (by omega) w1
      have hltI : (k : Int) < (d : Int) := by omega
      go_wp2_with (go_at_call 19; refine NK.mono ?_; rintro e w' ⟨rfl, rfl⟩)
      go_round
      case rel =>
        refine ⟨k + 1, by omega, by go_num, ?_⟩
        rw [declsT_succ]
        congr 1
        apply bys_inj
        simp only [bys_cat, bys_bstr, declT, List.append_assoc]
        rfl
      case measure => simp [intOf]; omega
    · obtain rfl : k = d := by omega
      clear hk hlt
      go_wp2
      go_loop [16, 18] (fun s i => ∃ j : Nat, j ≤ 1 + t ∧ i = .int .i64 j ∧ s = .string (bstr (declsT k ++ thrsT j))) (fun _ i => 1 + t - (intOf i).toNat)
      case atStart => exact ⟨0, Nat.zero_le _, rfl, by simp [thrsT]⟩
      case round =>
        obtain ⟨j, hj, rfl, rfl⟩ := hrel
        by_cases hlt : j < 1 + t
        · have zs := text1_len k j ld (by omega)
          go_wp2
          go_round
          case rel =>
            refine ⟨j + 1, by omega, by go_num, ?_⟩
            rw [thrsT_succ]
            congr 1
            apply bys_inj
            simp only [bys_cat, bys_bstr, List.append_assoc]
            rfl
          case measure => simp [intOf]; omega
        · obtain rfl : j = 1 + t := by omega
          clear hj hlt
          have z1 := text1_len k (1 + t) ld (by omega)
          have P1 := prog_any (bstr (declsT k ++ thrsT (1 + t))) _ w1 (by unfold maxLen; omega) (lx_below HV.out B1.out) R1
          have X2 : Hid (Reads (decide (1 ≤ n) && decide (n ≤ 64)) (bys (⟨#[112, 117, 98, 108, 105, 99, 32, 97, 91]⟩ ++ bstr (decDigits n) ++ ⟨#[93, 59, 32, 116, 104, 114, 101, 97, 100, 32, 123, 32, 125]⟩))) := by
            show Reads _ _
            have e : bys (⟨#[112, 117, 98, 108, 105, 99, 32, 97, 91]⟩ ++ bstr (decDigits n) ++ ⟨#[93, 59, 32, 116, 104, 114, 101, 97, 100, 32, 123, 32, 125]⟩) = sizeT (decDigits n) := by rw [bys_cat, bys_cat, bys_bstr]; rfl
            rw [e]; exact R2
          have X3 : Hid (Reads (decide (1 ≤ c) && decide (c ≤ 256)) (bys (⟨#[116, 104, 114, 101, 97, 100, 32, 123, 32, 108, 111, 111, 112, 32, 105, 32]⟩ ++ bstr (decDigits c) ++ ⟨#[32, 123, 32, 125, 32, 125]⟩))) := by
            show Reads _ _
            have e : bys (⟨#[116, 104, 114, 101, 97, 100, 32, 123, 32, 108, 111, 111, 112, 32, 105, 32]⟩ ++ bstr (decDigits c) ++ ⟨#[32, 123, 32, 125, 32, 125]⟩) = roundT (decDigits c) := by rw [bys_cat, bys_cat, bys_bstr]; rfl
            rw [e]; exact R3
          have P2 := fun w' hv hz => prog_any (⟨#[112, 117, 98, 108, 105, 99, 32, 97, 91]⟩ ++ bstr (decDigits n) ++ ⟨#[93, 59, 32, 116, 104, 114, 101, 97, 100, 32, 123, 32, 125]⟩) _ w' hz hv X2
          have P3 := fun w' hv hz => prog_any (⟨#[116, 104, 114, 101, 97, 100, 32, 123, 32, 108, 111, 111, 112, 32, 105, 32]⟩ ++ bstr (decDigits c) ++ ⟨#[32, 123, 32, 125, 32, 125]⟩) _ w' hz hv X3
          have Z2 : (⟨#[112, 117, 98, 108, 105, 99, 32, 97, 91]⟩ ++ bstr (decDigits n) ++ ⟨#[93, 59, 32, 116, 104, 114, 101, 97, 100, 32, 123, 32, 125]⟩ : ByteArray).size ≤ maxLen := by
            rw [← bys_length, bys_cat, bys_cat, List.length_append, List.length_append, bys_length, bys_length, bys_length]
            have : (⟨#[112, 117, 98, 108, 105, 99, 32, 97, 91]⟩ : ByteArray).size = 9 := rfl
            have : (⟨#[93, 59, 32, 116, 104, 114, 101, 97, 100, 32, 123, 32, 125]⟩ : ByteArray).size = 13 := rfl
            unfold maxLen; omega
          have Z3 : (⟨#[116, 104, 114, 101, 97, 100, 32, 123, 32, 108, 111, 111, 112, 32, 105, 32]⟩ ++ bstr (decDigits c) ++ ⟨#[32, 123, 32, 125, 32, 125]⟩ : ByteArray).size ≤ maxLen := by
            rw [← bys_length, bys_cat, bys_cat, List.length_append, List.length_append, bys_length, bys_length, bys_length]
            have : (⟨#[116, 104, 114, 101, 97, 100, 32, 123, 32, 108, 111, 111, 112, 32, 105, 32]⟩ : ByteArray).size = 16 := rfl
            have : (⟨#[32, 123, 32, 125, 32, 125]⟩ : ByteArray).size = 6 := rfl
            unfold maxLen; omega
          clear R1 R2 R3 X2 X3
          go_wp2_with (first
            | (go_at_call 12; refine (P3 (w3.alloc (progO (.slice q0 q1 q2) (.slice q3 q4 q5))) V3.out Z3).mono ?_; rintro e w4 ⟨r0, r1, r2, r3, r4, r5, ev3, rfl, E', hb'⟩; have B4 := Lib.hid (B3.out.trans ((hb'.trans (((Below.refl w4.heap.size w4).alloc (Nat.le_refl _) (progO (.slice r0 r1 r2) (.slice r3 r4 r5))).mono hb'.size)).mono B3.out.size)); have V4 := Lib.hid (lx_below HV.out B4.out); have G1 := Lib.hid ((F1.out.below hb').alloc (progO (.slice r0 r1 r2) (.slice r3 r4 r5))); have G2 := Lib.hid ((E2.out.below hb').alloc (progO (.slice r0 r1 r2) (.slice r3 r4 r5))); have E3 := Lib.hid (E'.alloc (progO (.slice r0 r1 r2) (.slice r3 r4 r5))); clear hb' E')
            | (go_at_call 19; refine (NC (w3.alloc (progO (.slice q0 q1 q2) (.slice q3 q4 q5)))).mono ?_; rintro e w' ⟨rfl, rfl⟩)
            | (go_at_call 12; refine (P2 (w2.alloc (progO (.slice p0 p1 p2) (.slice p3 p4 p5))) V2.out Z2).mono ?_; rintro e w3 ⟨q0, q1, q2, q3, q4, q5, ev2, rfl, E', hb'⟩; have B3 := Lib.hid (B2.out.trans ((hb'.trans (((Below.refl w3.heap.size w3).alloc (Nat.le_refl _) (progO (.slice q0 q1 q2) (.slice q3 q4 q5))).mono hb'.size)).mono B2.out.size)); have V3 := Lib.hid (lx_below HV.out B3.out); have F1 := Lib.hid ((E1.out.below hb').alloc (progO (.slice q0 q1 q2) (.slice q3 q4 q5))); have E2 := Lib.hid (E'.alloc (progO (.slice q0 q1 q2) (.slice q3 q4 q5))); clear hb' E')
            | (go_at_call 19; refine (NN (w2.alloc (progO (.slice p0 p1 p2) (.slice p3 p4 p5)))).mono ?_; rintro e w' ⟨rfl, rfl⟩)
            | (go_at_call 12; refine (P1).mono ?_; rintro e w2 ⟨p0, p1, p2, p3, p4, p5, ev1, rfl, E', hb'⟩; have B2 := Lib.hid (B1.out.trans ((hb'.trans (((Below.refl w2.heap.size w2).alloc (Nat.le_refl _) (progO (.slice p0 p1 p2) (.slice p3 p4 p5))).mono hb'.size)).mono B1.out.size)); have V2 := Lib.hid (lx_below HV.out B2.out); have E1 := Lib.hid (E'.alloc (progO (.slice p0 p1 p2) (.slice p3 p4 p5))); clear hb' E'))
          obtain ⟨W, hW⟩ : ∃ W, W = (w4.alloc (progO (.slice r0 r1 r2) (.slice r3 r4 r5))) := ⟨_, rfl⟩
          rw [← hW] at B4 V4 G1 G2 E3 ⊢
          clear hW E1 F1 E2 B2 B3 V2 V3 P1 P2 P3 Z2 Z3 NN NC
          go_loop [25, 26] (fun s i => ∃ j : Nat, j ≤ b ∧ i = .int .i64 j ∧ s = .string (bstr (wrapT j))) (fun _ i => b - (intOf i).toNat)
          case atStart => exact ⟨0, Nat.zero_le _, rfl, rfl⟩
          case round =>
            obtain ⟨j, hj, rfl, rfl⟩ := hrel
            by_cases hlt : j < b
            · have zw : (bstr (wrapT j)).size ≤ 200 := by rw [bstr_size, wrapT_len]; omega
              have hltI : (j : Int) < (b : Int) := by omega
              go_wp2
              go_round
              case rel =>
                refine ⟨j + 1, by omega, by go_num, ?_⟩
                congr 1
              case measure => simp [intOf]; omega
            · obtain rfl : j = b := by omega
              clear hj hlt
              have zw : (bstr (wrapT j)).size ≤ 200 := by rw [bstr_size, wrapT_len]; omega
              have X4 : Hid (Reads (decide ((j : Int) + 2 ≤ 40)) (bys (⟨#[116, 104, 114, 101, 97, 100, 32, 123, 32, 111, 117, 116, 112, 117, 116, 32]⟩ ++ bstr (wrapT j) ++ ⟨#[59, 32, 125]⟩))) := by
                show Reads _ _
                have e : bys (⟨#[116, 104, 114, 101, 97, 100, 32, 123, 32, 111, 117, 116, 112, 117, 116, 32]⟩ ++ bstr (wrapT j) ++ ⟨#[59, 32, 125]⟩) = outT (wrapT j) := by rw [bys_cat, bys_cat, bys_bstr]; rfl
                rw [e]; exact R4.out
              have Z4 : (⟨#[116, 104, 114, 101, 97, 100, 32, 123, 32, 111, 117, 116, 112, 117, 116, 32]⟩ ++ bstr (wrapT j) ++ ⟨#[59, 32, 125]⟩ : ByteArray).size ≤ maxLen := by
                rw [← bys_length, bys_cat, bys_cat, List.length_append, List.length_append, bys_length, bys_length, bys_length]
                have : (⟨#[116, 104, 114, 101, 97, 100, 32, 123, 32, 111, 117, 116, 112, 117, 116, 32]⟩ : ByteArray).size = 16 := rfl
                have : (⟨#[59, 32, 125]⟩ : ByteArray).size = 3 := rfl
                unfold maxLen; omega
              have P4 := prog_any (⟨#[116, 104, 114, 101, 97, 100, 32, 123, 32, 111, 117, 116, 112, 117, 116, 32]⟩ ++ bstr (wrapT j) ++ ⟨#[59, 32, 125]⟩) _ W Z4 V4.out X4
              have K1 := two_ways (a := (k : Int) ≤ 64) (b := 1 + (t : Int) ≤ 16) (by omega) (by omega) (R := fun x => ErrIs x ev1 W) G1.out
              have K2 := two_ways (a := 1 ≤ (n : Int)) (b := (n : Int) ≤ 64) (by omega) (by omega) (R := fun x => ErrIs x ev2 W) G2.out
              have K3 := two_ways (a := 1 ≤ (c : Int)) (b := (c : Int) ≤ 256) (by omega) (by omega) (R := fun x => ErrIs x ev3 W) E3.out
              clear X4 Z4 R4 G1 G2 E3
              rcases K1 with ⟨k1, J1⟩ | ⟨k1, J1⟩ <;> rcases K2 with ⟨k2, J2⟩ | ⟨k2, J2⟩ <;> rcases K3 with ⟨k3, J3⟩ | ⟨k3, J3⟩
              all_goals
                replace J1 := Lib.hid J1
                replace J2 := Lib.hid J2
                replace J3 := Lib.hid J3
                go_wp2_with (first
                  | (go_at_call 20; refine (errIs_any _ ev4 w8 (lx_below V7.out U8.out) O4.out).mono ?_; rintro e w9 ⟨rfl, hb9⟩; have B9 := Lib.hid (B8.out.trans (hb9.mono B8.out.size)); clear hb9)
                  | (go_at_call 20; refine (errIs_any _ ev3 w7 V7.out N3.out).mono ?_; rintro e w8 ⟨rfl, hb8⟩; have U8 := Lib.hid hb8; have B8 := Lib.hid (B7.out.trans (hb8.mono B7.out.size)); have O4 := Lib.hid (N4.out.below hb8); clear hb8)
                  | (go_at_call 20; refine (errIs_any _ ev2 w6 V6.out M2.out).mono ?_; rintro e w7 ⟨rfl, hb7⟩; have B7 := Lib.hid (B6.out.trans (hb7.mono B6.out.size)); have V7 := Lib.hid (lx_below V6.out hb7); have N3 := Lib.hid (M3.out.below hb7); have N4 := Lib.hid (M4.out.below hb7); clear hb7)
                  | (go_at_call 20; refine (errIs_any _ ev1 (w5.alloc (progO (.slice s0 s1 s2) (.slice s3 s4 s5))) V5.out L1.out).mono ?_; rintro e w6 ⟨rfl, hb6⟩; have B6 := Lib.hid (B5.out.trans (hb6.mono B5.out.size)); have V6 := Lib.hid (lx_below V5.out hb6); have M2 := Lib.hid (L2.out.below hb6); have M3 := Lib.hid (L3.out.below hb6); have M4 := Lib.hid (E4.out.below hb6); clear hb6)
                  | (go_at_call 12; refine (P4).mono ?_; rintro e w5 ⟨s0, s1, s2, s3, s4, s5, ev4, rfl, E', hb'⟩; have B5 := Lib.hid (B4.out.trans ((hb'.trans (((Below.refl w5.heap.size w5).alloc (Nat.le_refl _) (progO (.slice s0 s1 s2) (.slice s3 s4 s5))).mono hb'.size)).mono B4.out.size)); have V5 := Lib.hid (lx_below HV.out B5.out); have L1 := Lib.hid ((J1.out.below hb').alloc (progO (.slice s0 s1 s2) (.slice s3 s4 s5))); have L2 := Lib.hid ((J2.out.below hb').alloc (progO (.slice s0 s1 s2) (.slice s3 s4 s5))); have L3 := Lib.hid ((J3.out.below hb').alloc (progO (.slice s0 s1 s2) (.slice s3 s4 s5))); have E4 := Lib.hid (E'.alloc (progO (.slice s0 s1 s2) (.slice s3 s4 s5))); clear hb' E'))
                go_ret
                exact ⟨rfl, B9.out⟩
end Go.Proofs.YtfginegegaokbaaGreatDoor.Pr
