/- The declarations that the statements make of numbers. Conditions: the numbers and bools lie in memory as lists. -/
import Derived.Test.YtonlfplojhlmjaaPlLab
import Derived.Test.YtonlfplojhlmjaaFrame
import Derived.Deep.AppendLies
namespace Go.Proofs.Ytonlfplojhlmjaa.Pl
open Go.ChangeShapes Go.WideShapes Go.RowKit Go.Maps
set_option linter.unusedVariables false
set_option linter.unusedSimpArgs false

/-- The slice value v holds these bools, in old memory. -/
def BoolsAt (w : World) (v : Value) (bs : List Bool) : Prop :=
  ∃ ao cap, v = .slice ao bs.length cap ∧ bs.length ≤ maxLen ∧ ∀ j, j < bs.length → ∃ b off, ao = some ⟨b, off, none⟩ ∧ b < w.heap.size ∧ w.cell? ⟨b, off + j, none⟩ = some (.bool (bs.getD j false))
theorem bools_nil (w : World) : BoolsAt w (.slice none 0 0) [] := ⟨none, 0, rfl, by simp, fun j h => by simp at h⟩
theorem bools_below {w w' : World} {v : Value} {bs : List Bool} (h : BoolsAt w v bs) (hb : Below w.heap.size w w') : BoolsAt w' v bs := by
  obtain ⟨ao, cap, e, hl, hr⟩ := h
  refine ⟨ao, cap, e, hl, fun j hj => ?_⟩
  obtain ⟨b, off, h1, h2, h3⟩ := hr j hj
  exact ⟨b, off, h1, Nat.lt_of_lt_of_le h2 hb.size, (World.cell?_of_block (hb.block b h2)).trans h3⟩
theorem ints_below {w w' : World} {k : IntKind} {v : Value} {zs : List Int} (h : IntsAt w k v zs) (hb : Below w.heap.size w w') : IntsAt w' k v zs := by
  obtain ⟨ao, cap, e, hl, hr⟩ := h
  refine ⟨ao, cap, e, hl, fun j hj => ?_⟩
  obtain ⟨b, off, h1, h2, h3⟩ := hr j hj
  exact ⟨b, off, h1, Nat.lt_of_lt_of_le h2 hb.size, (World.cell?_of_block (hb.block b h2)).trans h3⟩

theorem encode_small (r : Nat) (h : r < 128) : Utf8.encode (r : Int) = ⟨#[UInt8.ofNat r]⟩ := by
  have hv : Utf8.valid (r : Int) = true := by
    simp [Utf8.valid]; omega
  unfold Utf8.encode
  simp only [hv, if_true]
  rw [if_pos (by omega)]
  rfl
/-- The walk's words for a name. -/
structure NameW (k : Nat) (q r R s S : Nat) (b c : UInt8) : Prop where
  e1 : wrap64 ((k : Int) / 26) = (q : Int)
  e2 : (q : Int).tmod 26 = (r : Int)
  e3 : wrap64 (97 + (r : Int)) = (R : Int)
  e4 : wrap32 (R : Int) = (R : Int)
  e5 : Utf8.encode (R : Int) = ⟨#[b]⟩
  f2 : (k : Int).tmod 26 = (s : Int)
  f3 : wrap64 (97 + (s : Int)) = (S : Int)
  f4 : wrap32 (S : Int) = (S : Int)
  f5 : Utf8.encode (S : Int) = ⟨#[c]⟩
  name : nameP k = ⟨#[110, b, c]⟩
theorem name_words (k : Nat) (h : k < 1000) : ∃ q r R s S b c, NameW k q r R s S b c := by
  have t1 : ∀ a : Nat, (a : Int).tmod 26 = ((a % 26 : Nat) : Int) := fun a => by rw [Int.tmod_eq_emod_of_nonneg (by omega)]; omega
  refine ⟨k / 26, k / 26 % 26, 97 + k / 26 % 26, k % 26, 97 + k % 26, UInt8.ofNat (97 + k / 26 % 26), UInt8.ofNat (97 + k % 26), ?_, t1 _, ?_, ?_, encode_small _ (by omega), t1 _, ?_, ?_, encode_small _ (by omega), rfl⟩
  · unfold wrap64; omega
  · unfold wrap64; omega
  · unfold wrap32; omega
  · unfold wrap64; omega
  · unfold wrap32; omega

theorem cat3 (a b c : UInt8) : (⟨#[a]⟩ ++ ⟨#[b]⟩ ++ ⟨#[c]⟩ : ByteArray) = ⟨#[a, b, c]⟩ := by
  apply ByteArray.ext
  simp [ByteArray.data_append]
theorem make_step {B : Nat} {zs : List Int} {bs : List Bool} {k : Nat} {w5 : World} {v5 : Value} (hlt : k < zs.length) (h6 : k < 600)
    (hown : w5.ownsRow B 35 6 v5 (((declsP zs bs).take k).length + 1) (dflat ((declsP zs bs).take k) ++ dcell (declP k (zs.getD k 0) (bs.getD k false)))) : PRow B w5 v5 ((declsP zs bs).take (k + 1)) := by
  rw [decls_next hlt h6]
  show World.ownsRow _ _ _ _ _ _ _
  rw [dflat_snoc, List.length_append]
  exact hown
theorem own_ge {B : Nat} {w : World} {e : TypeId} {sz n : Nat} {v : Value} {xs : List Value} (h : w.ownsRow B e sz v n xs) {q : Nat} (hq : v.ownBlock = some q) : B ≤ q := by
  rcases h.2 with ⟨rfl, _⟩ | ⟨g, cap, cur, rfl, hlo, hgg, _⟩
  · cases hq
  · cases hq; exact hlo

theorem meas2 {k n : Nat} (h : k < n) (e : wrap64 ((k : Int) + 1) = (k : Int) + 1) : n - (intOf (Value.int .i64 (wrap64 ((k : Int) + 1)))).toNat < n - (intOf (Value.int .i64 (k : Int))).toNat := by
  rw [e]; simp only [intOf]; omega
theorem six_news (w : World) (q : Nat) (x0 x1 x2 x3 x4 x5 : Value) (hq : w.heap.size = q) : ∀ (j : Nat) (u : Value), [x0, x1, x2, x3, x4, x5][j]? = some u → (w.alloc (.cells #[x0, x1, x2, x3, x4, x5] 35)).cell? ((⟨q, 0, none⟩ : Addr).add j) = some u :=
  hq ▸ fun j u hu => World.news_of_block (heap_alloc_new w _) j u hu
theorem six_one (l : Bool) (a c e : Int) (b d : ByteArray) : ∀ u ∈ [Value.bool l, .int .i64 a, .string b, .int .i64 c, .string d, .int .i64 e], u.oneCell' = true := fun u hu => by
  simp only [List.mem_cons, List.not_mem_nil, or_false] at hu
  rcases hu with rfl | rfl | rfl | rfl | rfl | rfl <;> rfl
theorem two_below (B : Nat) {w : World} (X Y : Obj) (hB : B ≤ w.heap.size) : Below B w ((w.alloc X).alloc Y) := ((Below.refl _ _).alloc hB _).alloc (by rw [alloc_size]; omega) _
theorem two_size (w : World) (X Y : Obj) : ((w.alloc X).alloc Y).heap.size = w.heap.size + 1 + 1 := by rw [alloc_size, alloc_size]

set_option maxHeartbeats 4000000 in
set_option maxRecDepth 100000 in
theorem decls_any (zs : List Int) (bs : List Bool) (v u : Value) (w : World) (hz : IntsAt w .i8 v zs) (hw : ∀ n ∈ zs, (Lit.int .i8 n).wf = true) (hb : BoolsAt w u bs) :
    Calls Try.prog 9 #[v, u] w fun e w' => ∃ v', e = .returned v' ∧ PRow w.heap.size w' v' (declsP zs bs) ∧ Below w.heap.size w w' := by
  obtain ⟨ao, cap, rfl, hzl, hzr⟩ := hz
  obtain ⟨bo, bcap, rfl, hbl, hbr⟩ := hb
  have HZ := Lib.hid hzr
  have HB := Lib.hid hbr
  clear hzr hbr
  go_enter Try.func9, Try.ntmps9
  go_wp2
  go_loopw [5, 11] (fun v i wr => ∃ k : Nat, k ≤ zs.length ∧ k ≤ 600 ∧ i = .int .i64 k ∧ PRow w.heap.size wr v ((declsP zs bs).take k) ∧ Below w.heap.size w wr) (fun _ i _ => zs.length - (intOf i).toNat)
  case atStart => exact ⟨0, Nat.zero_le _, Nat.zero_le _, rfl, World.ownsRow_nil _ _ _ _, Below.refl _ _⟩
  case round =>
    obtain ⟨k, hk, hk6, rfl, hR, hBr⟩ := hrel
    by_cases hlt : k < zs.length
    · obtain ⟨g, off, rfl, hg, p0⟩ := HZ.out k hlt
      have c0 : wr.cell? ⟨g, off + k, none⟩ = some (.int .i8 (zs.getD k 0)) := (World.cell?_of_block (hBr.block g hg)).trans p0
      obtain ⟨n, hn⟩ : ∃ n, n = zs.getD k 0 := ⟨_, rfl⟩
      rw [← hn] at c0
      clear p0
      have HR := Lib.hid hR
      have HN := Lib.hid hn
      clear hR hn
      rcases Nat.lt_or_ge k 600 with h6 | h6
      · have hd6 : ((k : Int) == 600) = false := by simp; omega
        have hd7 : ¬ (k : Int) = 600 := by omega
        obtain ⟨q, r, R, s, S, b, c, hN⟩ := name_words k (by omega)
        obtain ⟨e1, e2, e3, e4, e5, f2, f3, f4, f5, hnm⟩ := hN
        have HNM := Lib.hid hnm
        have H6 := Lib.hid h6
        have HK6 := Lib.hid hk6
        have hnr : -128 ≤ n ∧ n ≤ 127 := by
          have := hw n (by rw [HN.out, List.getD_eq_getElem?_getD, List.getElem?_eq_getElem hlt]; exact List.getElem_mem _)
          simp [Lit.wf] at this
          have h1 : IntKind.i8.min = -128 := rfl
          have h2 : IntKind.i8.max = 127 := rfl
          omega
        have hwn : wrap64 n = n := by unfold wrap64; omega
        clear hnm h6 hk6
        have hbs : ∀ X Y, w.heap.size ≤ ((wr.alloc X).alloc Y).heap.size := fun X Y => by rw [two_size]; have := hBr.size; omega
        have hkl : ((declsP zs bs).take k).length ≤ 600 := by rw [List.length_take, decls_len]; have := H6.out; omega
        have HKL : Hid (min k (declsP zs bs).length = ((declsP zs bs).take k).length) := Lib.hid (by simp)
        have HWK : Hid (wrap64 ((k : Int) + 1) = (k : Int) + 1) := Lib.hid (by have := H6.out; unfold wrap64; omega)
        obtain ⟨i0, hi, hz0, hz1, hz2⟩ := info_parts infoD
        rcases Nat.lt_or_ge k bs.length with hkb | hkb
        · obtain ⟨g2, off2, rfl, hg2, q0⟩ := HB.out k hkb
          have c1 : ∀ o, (wr.alloc o).cell? ⟨g2, off2 + k, none⟩ = some (.bool (bs.getD k false)) := fun o => (World.cell?_of_block ((hBr.alloc hBr.size o).block g2 hg2)).trans q0
          obtain ⟨bb, hbb⟩ : ∃ bb, bb = bs.getD k false := ⟨_, rfl⟩
          rw [← hbb] at c1
          have HBB := Lib.hid hbb
          clear hbb q0
          cases bb with
          | true =>
            cases hl : lockP n with
            | true =>
              have hl1 : (n.tmod 7 == 6) = true := by simpa [lockP] using hl
              have hnews : Hid ([.bool true, .int .i64 1, .string (⟨#[110]⟩ ++ ⟨#[b]⟩ ++ ⟨#[c]⟩), .int .i64 0, .string ⟨#[]⟩, .int .i64 0] = dcell (declP k (zs.getD k 0) (bs.getD k false))) := Lib.hid <| by rw [← HN.out, ← HBB.out]; simp [dcell, declP, hl, HNM.out, cat3]
              go_wp2_with (at_builtin; (refine wpList_append_own_at _ rfl _ _ 25 rfl w.heap.size 35 i0 (.agg #[.bool false, .int .i64 0, .string ⟨#[]⟩, .int .i64 0, .string ⟨#[]⟩, .int .i64 0]) 6 64 Try.underlying25 hi hz0 hz1 hz2 rfl (by decide) u5 ((declsP zs bs).take k).length _ rfl (own_keepB HR.out (two_below _ _ _ (Nat.le_refl _))) ⟨_, 0, none⟩ 1 1 [.bool true, .int .i64 1, .string (⟨#[110]⟩ ++ ⟨#[b]⟩ ++ ⟨#[c]⟩), .int .i64 0, .string ⟨#[]⟩, .int .i64 0] rfl rfl (six_news _ _ _ _ _ _ _ _ (alloc_size _ _)) (six_one _ _ _ _ _ _) (by unfold maxLen; omega) (by omega) (hbs _ _) ?_); intro v5 w5 hown5 hgrow hnil hloc; obtain ⟨g5, cap5, rfl⟩ := own_pos hown5 (by omega))
              go_roundw
              case rel =>
                rw [hnews.out] at hown5
                refine ⟨k + 1, by omega, by have := H6.out; omega, by rw [HWK.out]; rfl, by rw [HKL.out]; exact make_step hlt H6.out hown5, (hBr.trans (two_below _ _ _ hBr.size)).grown hgrow (hbs _ _) (fun q hq => own_ge HR.out hq)⟩
              case measure => exact meas2 hlt HWK.out
            | false =>
              have hl1 : (n.tmod 7 == 6) = false := by simpa [lockP] using hl
              have hnews : Hid ([.bool false, .int .i64 1, .string (⟨#[110]⟩ ++ ⟨#[b]⟩ ++ ⟨#[c]⟩), .int .i64 n, .string ⟨#[]⟩, .int .i64 0] = dcell (declP k (zs.getD k 0) (bs.getD k false))) := Lib.hid <| by rw [← HN.out, ← HBB.out]; simp [dcell, declP, hl, HNM.out, cat3]
              go_wp2_with (at_builtin; (refine wpList_append_own_at _ rfl _ _ 25 rfl w.heap.size 35 i0 (.agg #[.bool false, .int .i64 0, .string ⟨#[]⟩, .int .i64 0, .string ⟨#[]⟩, .int .i64 0]) 6 64 Try.underlying25 hi hz0 hz1 hz2 rfl (by decide) u5 ((declsP zs bs).take k).length _ rfl (own_keepB HR.out (two_below _ _ _ (Nat.le_refl _))) ⟨_, 0, none⟩ 1 1 [.bool false, .int .i64 1, .string (⟨#[110]⟩ ++ ⟨#[b]⟩ ++ ⟨#[c]⟩), .int .i64 n, .string ⟨#[]⟩, .int .i64 0] rfl rfl (six_news _ _ _ _ _ _ _ _ (alloc_size _ _)) (six_one _ _ _ _ _ _) (by unfold maxLen; omega) (by omega) (hbs _ _) ?_); intro v5 w5 hown5 hgrow hnil hloc; obtain ⟨g5, cap5, rfl⟩ := own_pos hown5 (by omega))
              go_roundw
              case rel =>
                rw [hnews.out] at hown5
                refine ⟨k + 1, by omega, by have := H6.out; omega, by rw [HWK.out]; rfl, by rw [HKL.out]; exact make_step hlt H6.out hown5, (hBr.trans (two_below _ _ _ hBr.size)).grown hgrow (hbs _ _) (fun q hq => own_ge HR.out hq)⟩
              case measure => exact meas2 hlt HWK.out
          | false =>
            cases hl : lockP n with
            | true =>
              have hl1 : (n.tmod 7 == 6) = true := by simpa [lockP] using hl
              have hnews : Hid ([.bool true, .int .i64 0, .string (⟨#[110]⟩ ++ ⟨#[b]⟩ ++ ⟨#[c]⟩), .int .i64 0, .string ⟨#[]⟩, .int .i64 0] = dcell (declP k (zs.getD k 0) (bs.getD k false))) := Lib.hid <| by rw [← HN.out, ← HBB.out]; simp [dcell, declP, hl, HNM.out, cat3]
              go_wp2_with (at_builtin; (refine wpList_append_own_at _ rfl _ _ 25 rfl w.heap.size 35 i0 (.agg #[.bool false, .int .i64 0, .string ⟨#[]⟩, .int .i64 0, .string ⟨#[]⟩, .int .i64 0]) 6 64 Try.underlying25 hi hz0 hz1 hz2 rfl (by decide) u5 ((declsP zs bs).take k).length _ rfl (own_keepB HR.out (two_below _ _ _ (Nat.le_refl _))) ⟨_, 0, none⟩ 1 1 [.bool true, .int .i64 0, .string (⟨#[110]⟩ ++ ⟨#[b]⟩ ++ ⟨#[c]⟩), .int .i64 0, .string ⟨#[]⟩, .int .i64 0] rfl rfl (six_news _ _ _ _ _ _ _ _ (alloc_size _ _)) (six_one _ _ _ _ _ _) (by unfold maxLen; omega) (by omega) (hbs _ _) ?_); intro v5 w5 hown5 hgrow hnil hloc; obtain ⟨g5, cap5, rfl⟩ := own_pos hown5 (by omega))
              go_roundw
              case rel =>
                rw [hnews.out] at hown5
                refine ⟨k + 1, by omega, by have := H6.out; omega, by rw [HWK.out]; rfl, by rw [HKL.out]; exact make_step hlt H6.out hown5, (hBr.trans (two_below _ _ _ hBr.size)).grown hgrow (hbs _ _) (fun q hq => own_ge HR.out hq)⟩
              case measure => exact meas2 hlt HWK.out
            | false =>
              have hl1 : (n.tmod 7 == 6) = false := by simpa [lockP] using hl
              have hnews : Hid ([.bool false, .int .i64 0, .string (⟨#[110]⟩ ++ ⟨#[b]⟩ ++ ⟨#[c]⟩), .int .i64 n, .string ⟨#[]⟩, .int .i64 0] = dcell (declP k (zs.getD k 0) (bs.getD k false))) := Lib.hid <| by rw [← HN.out, ← HBB.out]; simp [dcell, declP, hl, HNM.out, cat3]
              go_wp2_with (at_builtin; (refine wpList_append_own_at _ rfl _ _ 25 rfl w.heap.size 35 i0 (.agg #[.bool false, .int .i64 0, .string ⟨#[]⟩, .int .i64 0, .string ⟨#[]⟩, .int .i64 0]) 6 64 Try.underlying25 hi hz0 hz1 hz2 rfl (by decide) u5 ((declsP zs bs).take k).length _ rfl (own_keepB HR.out (two_below _ _ _ (Nat.le_refl _))) ⟨_, 0, none⟩ 1 1 [.bool false, .int .i64 0, .string (⟨#[110]⟩ ++ ⟨#[b]⟩ ++ ⟨#[c]⟩), .int .i64 n, .string ⟨#[]⟩, .int .i64 0] rfl rfl (six_news _ _ _ _ _ _ _ _ (alloc_size _ _)) (six_one _ _ _ _ _ _) (by unfold maxLen; omega) (by omega) (hbs _ _) ?_); intro v5 w5 hown5 hgrow hnil hloc; obtain ⟨g5, cap5, rfl⟩ := own_pos hown5 (by omega))
              go_roundw
              case rel =>
                rw [hnews.out] at hown5
                refine ⟨k + 1, by omega, by have := H6.out; omega, by rw [HWK.out]; rfl, by rw [HKL.out]; exact make_step hlt H6.out hown5, (hBr.trans (two_below _ _ _ hBr.size)).grown hgrow (hbs _ _) (fun q hq => own_ge HR.out hq)⟩
              case measure => exact meas2 hlt HWK.out
        · have hbf : bs.getD k false = false := by rw [List.getD_eq_getElem?_getD, List.getElem?_eq_none hkb]; rfl
          have HBF := Lib.hid hbf
          clear hbf
          have hkn : ¬ k < bs.length := by omega
          have hkm : ¬ (k : Int) < (bs.length : Int) := by omega
          have hd8 : decide ((k : Int) < (bs.length : Int)) = false := by simp; omega
          have hd9 : decide (k < bs.length) = false := by simp; omega
          have HKB := Lib.hid hkb
          clear hkb
          cases hl : lockP n with
          | true =>
            have hl1 : (n.tmod 7 == 6) = true := by simpa [lockP] using hl
            have hnews : Hid ([.bool true, .int .i64 0, .string (⟨#[110]⟩ ++ ⟨#[b]⟩ ++ ⟨#[c]⟩), .int .i64 0, .string ⟨#[]⟩, .int .i64 0] = dcell (declP k (zs.getD k 0) (bs.getD k false))) := Lib.hid <| by rw [← HN.out, HBF.out]; simp [dcell, declP, hl, HNM.out, cat3]
            go_wp2_with (at_builtin; (refine wpList_append_own_at _ rfl _ _ 25 rfl w.heap.size 35 i0 (.agg #[.bool false, .int .i64 0, .string ⟨#[]⟩, .int .i64 0, .string ⟨#[]⟩, .int .i64 0]) 6 64 Try.underlying25 hi hz0 hz1 hz2 rfl (by decide) u5 ((declsP zs bs).take k).length _ rfl (own_keepB HR.out (two_below _ _ _ (Nat.le_refl _))) ⟨_, 0, none⟩ 1 1 [.bool true, .int .i64 0, .string (⟨#[110]⟩ ++ ⟨#[b]⟩ ++ ⟨#[c]⟩), .int .i64 0, .string ⟨#[]⟩, .int .i64 0] rfl rfl (six_news _ _ _ _ _ _ _ _ (alloc_size _ _)) (six_one _ _ _ _ _ _) (by unfold maxLen; omega) (by omega) (hbs _ _) ?_); intro v5 w5 hown5 hgrow hnil hloc; obtain ⟨g5, cap5, rfl⟩ := own_pos hown5 (by omega))
            go_roundw
            case rel =>
              rw [hnews.out] at hown5
              refine ⟨k + 1, by omega, by have := H6.out; omega, by rw [HWK.out]; rfl, by rw [HKL.out]; exact make_step hlt H6.out hown5, (hBr.trans (two_below _ _ _ hBr.size)).grown hgrow (hbs _ _) (fun q hq => own_ge HR.out hq)⟩
            case measure => exact meas2 hlt HWK.out
          | false =>
            have hl1 : (n.tmod 7 == 6) = false := by simpa [lockP] using hl
            have hnews : Hid ([.bool false, .int .i64 0, .string (⟨#[110]⟩ ++ ⟨#[b]⟩ ++ ⟨#[c]⟩), .int .i64 n, .string ⟨#[]⟩, .int .i64 0] = dcell (declP k (zs.getD k 0) (bs.getD k false))) := Lib.hid <| by rw [← HN.out, HBF.out]; simp [dcell, declP, hl, HNM.out, cat3]
            go_wp2_with (at_builtin; (refine wpList_append_own_at _ rfl _ _ 25 rfl w.heap.size 35 i0 (.agg #[.bool false, .int .i64 0, .string ⟨#[]⟩, .int .i64 0, .string ⟨#[]⟩, .int .i64 0]) 6 64 Try.underlying25 hi hz0 hz1 hz2 rfl (by decide) u5 ((declsP zs bs).take k).length _ rfl (own_keepB HR.out (two_below _ _ _ (Nat.le_refl _))) ⟨_, 0, none⟩ 1 1 [.bool false, .int .i64 0, .string (⟨#[110]⟩ ++ ⟨#[b]⟩ ++ ⟨#[c]⟩), .int .i64 n, .string ⟨#[]⟩, .int .i64 0] rfl rfl (six_news _ _ _ _ _ _ _ _ (alloc_size _ _)) (six_one _ _ _ _ _ _) (by unfold maxLen; omega) (by omega) (hbs _ _) ?_); intro v5 w5 hown5 hgrow hnil hloc; obtain ⟨g5, cap5, rfl⟩ := own_pos hown5 (by omega))
            go_roundw
            case rel =>
              rw [hnews.out] at hown5
              refine ⟨k + 1, by omega, by have := H6.out; omega, by rw [HWK.out]; rfl, by rw [HKL.out]; exact make_step hlt H6.out hown5, (hBr.trans (two_below _ _ _ hBr.size)).grown hgrow (hbs _ _) (fun q hq => own_ge HR.out hq)⟩
            case measure => exact meas2 hlt HWK.out
      · obtain rfl : k = 600 := by omega
        go_wp2
        go_returns
        refine ⟨_, rfl, ?_, hBr.alloc hBr.size _⟩
        have := HR.out
        rw [List.take_of_length_le (by rw [decls_len]; omega)] at this
        exact own_keepB this ((Below.refl _ _).alloc (Nat.le_refl _) _)
    · obtain rfl : k = zs.length := by omega
      rw [List.take_of_length_le (by rw [decls_len]; omega)] at hR
      go_wp2
      go_returns
      exact ⟨_, rfl, hR, hBr⟩
end Go.Proofs.Ytonlfplojhlmjaa.Pl
