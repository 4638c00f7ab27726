/- The walk of TreeLines: on every list of numbers it returns true. Conditions: the table of powers holds what its initialiser lays. -/
import Derived.Test.YtpgahjjaehoodaaDoorMakeAll
import Derived.Test.YtpgahjjaehoodaaDoorMakeLines
import Derived.Test.YtpgahjjaehoodaaDoorWHelp
namespace Go.Proofs.YtpgahjjaehoodaaDoor
open Go.ChangeShapes Go.WideShapes Go.ChangeAt Go.RowKit
set_option linter.unusedVariables false
set_option linter.unusedSimpArgs false

theorem Dcls.up {lo B B' : Nat} {w w' : World} {v : Value} {ds : List Dcl} (h : Dcls lo B w v ds) (hb : Below B w w') (hB : B ≤ B') : Dcls 0 B' w' v ds := by
  obtain ⟨ao, cap, rfl, hl, h⟩ := h.on hb
  refine ⟨ao, cap, rfl, hl, fun i d hd => ?_⟩
  obtain ⟨hf, g, off, e, hlo, hg, r⟩ := h i d hd
  exact ⟨hf, g, off, e, Nat.zero_le _, by omega, r⟩
theorem Thrs.up {lo B B' m n : Nat} {w w' : World} {v : Value} {ts : List (List Stm)} (h : Thrs lo B m n w v ts) (hb : Below B w w') (hB : B ≤ B') : Thrs 0 B' m n w' v ts := by
  obtain ⟨ao, cap, rfl, hl, h⟩ := h.on hb
  refine ⟨ao, cap, rfl, hl, fun i ss hs => ?_⟩
  obtain ⟨g, off, tao, tcap, e, hlo, hg, hc, h0, h1⟩ := h i ss hs
  exact ⟨g, off, tao, tcap, e, Nat.zero_le _, by omega, hc, h0, h1.carry (Nat.zero_le _) hB (fun _ _ _ _ _ h => h) fun _ _ hr => hr.carry (Nat.zero_le _) hB (Same35.refl _ _ _) (fun _ _ _ _ _ h => h)⟩
/-- A line begins at this place. -/
def stX (X : List UInt8) : Nat → Bool
  | 0 => true
  | j + 1 => X.getD j 0 == 10
theorem drop_at {S : ByteArray} {k : Nat} (h : k < S.size) : (bys S).drop k = S[k] :: (bys S).drop (k + 1) := by
  have hk : k < (bys S).length := by rw [bys_length]; exact h
  rw [List.drop_eq_getElem_cons hk]; rfl
theorem take_at {S : ByteArray} {k : Nat} (h : k < S.size) : (bys S).take (k + 1) = (bys S).take k ++ [S[k]] := by
  have hk : k < (bys S).length := by rw [bys_length]; exact h
  rw [List.take_succ_eq_append_getElem hk]; rfl
theorem st_succ {S : ByteArray} {k : Nat} (h : k < S.size) : stX (bys S) (k + 1) = (S[k] == 10) := by
  have hk : k < (bys S).length := by rw [bys_length]; exact h
  show ((bys S).getD k 0 == 10) = _
  have e : (bys S).getD k 0 = S[k] := by
    rw [List.getD_eq_getElem?_getD, List.getElem?_eq_getElem hk]; rfl
  rw [e]; rfl
theorem u8_eq (c : UInt8) (n : Nat) (hn : n < 256) : c = UInt8.ofNat n ↔ (c.toNat : Int) = n := by
  constructor
  · rintro rfl; simp; omega
  · intro h
    apply UInt8.toNat_inj.1
    simp
    omega
theorem step_L {S : ByteArray} {k : Nat} (h : k < S.size) : ((S[k].toNat : Int) = 10 ∧ cntL ((bys S).drop k) = 1 + cntL ((bys S).drop (k + 1))) ∨ (((S[k].toNat : Int) == 10) = false ∧ cntL ((bys S).drop k) = cntL ((bys S).drop (k + 1))) := by
  have e := u8_eq S[k] 10 (by omega)
  rw [drop_at h]
  by_cases hc : S[k] = 10
  · exact .inl ⟨by simpa using e.1 hc, by simp [cntL, hc]; omega⟩
  · exact .inr ⟨by simpa using fun hh => hc (e.2 (by simpa using hh)), by simp [cntL, hc]⟩
theorem step_H {S : ByteArray} {k : Nat} (h : k < S.size) : (stX (bys S) k = true ∧ ((S[k].toNat : Int) != 9) = true ∧ ((S[k].toNat : Int) != 125) = true ∧ cntH (stX (bys S) k) ((bys S).drop k) = 1 + cntH (stX (bys S) (k + 1)) ((bys S).drop (k + 1))) ∨
    ((stX (bys S) k = false ∨ (S[k].toNat : Int) = 9 ∨ (S[k].toNat : Int) = 125) ∧ cntH (stX (bys S) k) ((bys S).drop k) = cntH (stX (bys S) (k + 1)) ((bys S).drop (k + 1))) := by
  have e9 := u8_eq S[k] 9 (by omega)
  have e125 := u8_eq S[k] 125 (by omega)
  rw [drop_at h, st_succ h]
  by_cases hs : stX (bys S) k = true
  · by_cases h9 : S[k] = 9
    · exact .inr ⟨.inr (.inl (by simpa using e9.1 h9)), by simp [cntH, h9]⟩
    · by_cases h125 : S[k] = 125
      · exact .inr ⟨.inr (.inr (by simpa using e125.1 h125)), by simp [cntH, h125]⟩
      · exact .inl ⟨hs, by simpa using fun hh => h9 (e9.2 (by simpa using hh)), by simpa using fun hh => h125 (e125.2 (by simpa using hh)), by simp [cntH, hs, h9, h125]⟩
  · have hf : stX (bys S) k = false := by simpa using hs
    exact .inr ⟨.inl hf, by simp [cntH, hf]⟩
theorem st_prev {S : ByteArray} {j : Nat} (h : j < S.size) : (stX (bys S) (j + 1) = true ∧ (S[j].toNat : Int) = 10) ∨ (stX (bys S) (j + 1) = false ∧ ((S[j].toNat : Int) == 10) = false) := by
  have e := u8_eq S[j] 10 (by omega)
  rw [st_succ h]
  by_cases hc : S[j] = 10
  · exact .inl ⟨by simp [hc], by simpa using e.1 hc⟩
  · exact .inr ⟨by simpa using hc, by simpa using fun hh => hc (e.2 (by simpa using hh))⟩
def thrB : ByteArray := ⟨#[116, 104, 114, 101, 97, 100, 32, 123]⟩
theorem extract_bys' (S : ByteArray) (a b : Nat) : bys (S.extract a b) = ((bys S).drop a).take (b - a) := by
  unfold bys
  rw [ByteArray.data_extract, Array.toList_extract]
  first | done | simp [List.extract_eq_drop_take]
theorem step_T {S : ByteArray} {k : Nat} (h : k < S.size) : (8 ≤ k ∧ S.extract (k - 8) k = thrB ∧ cntT ((bys S).take k) ((bys S).drop k) = 1 + cntT ((bys S).take (k + 1)) ((bys S).drop (k + 1))) ∨ ((¬ 8 ≤ k ∨ ¬ S.extract (k - 8) k = thrB) ∧ cntT ((bys S).take k) ((bys S).drop k) = cntT ((bys S).take (k + 1)) ((bys S).drop (k + 1))) := by
  have hk : k ≤ (bys S).length := by rw [bys_length]; omega
  have hc : cntT ((bys S).take k) ((bys S).drop k) = (if sThr <:+ (bys S).take k then 1 else 0) + cntT ((bys S).take (k + 1)) ((bys S).drop (k + 1)) := by
    rw [drop_at h, take_at h]; rfl
  by_cases h8 : 8 ≤ k
  · have hsplit : (bys S).take k = (bys S).take (k - 8) ++ bys (S.extract (k - 8) k) := by
      rw [extract_bys']
      have : (bys S).take k = (bys S).take ((k - 8) + (k - (k - 8))) := by congr 1; omega
      rw [this, List.take_add]
    have hlen : (bys (S.extract (k - 8) k)).length = 8 := by
      rw [extract_bys', List.length_take, List.length_drop]; omega
    by_cases ht : S.extract (k - 8) k = thrB
    · refine .inl ⟨h8, ht, ?_⟩
      rw [hc, if_pos ⟨(bys S).take (k - 8), by rw [hsplit, ht]; rfl⟩]
    · refine .inr ⟨.inr ht, ?_⟩
      have hno : ¬ sThr <:+ (bys S).take k := fun ⟨q, hq⟩ => ht (by
        rw [hsplit] at hq
        have := (List.append_inj' hq (by rw [hlen]; rfl)).2
        exact bys_inj (by rw [← this]; rfl))
      rw [hc, if_neg hno, Nat.zero_add]
  · refine .inr ⟨.inl h8, ?_⟩
    have hno : ¬ sThr <:+ (bys S).take k := fun ⟨q, hq⟩ => by
      have := congrArg List.length hq
      rw [List.length_append, List.length_take] at this
      have e : sThr.length = 8 := rfl
      omega
    rw [hc, if_neg hno, Nat.zero_add]
theorem cut_str {S t : ByteArray} {a : Int} {k : Nat} (ha : 0 ≤ a) (h1 : a ≤ k) (h2 : k ≤ S.size) (h : S.extract a.toNat k = t) (W : World) :
    (Instr.slice 9 (.string S) (some (.int .i64 a)) (some (.int .i64 (k : Int))) none).run Tryd.prog W = .ok (.string t) W := by
  rw [run_slice_string W 9 S .i64 .i64 a (k : Int) Tryd.underlying9 (by omega) (by omega) (by omega), ← h]
  simp

set_option maxHeartbeats 4000000 in
set_option maxRecDepth 100000 in
theorem lines_walk (v0 : Value) (zs0 : List Int) (w : World) (h0 : IntsAt w .u8 v0 zs0) (z0 : ∀ n ∈ zs0, (Lit.int .u8 n).wf = true) (n0 : zs0.length * 1 ≤ 140737488351232) (hV : Vars w.heap.size w) :
    Calls Tryd.prog 4 #[v0] w fun e w' => e = .returned (.bool true) ∧ Below w.heap.size w w' := by
  obtain ⟨m, hm, hm2⟩ : ∃ m, m = min zs0.length 300 ∧ m ≤ zs0.length := ⟨_, rfl, by omega⟩
  obtain ⟨ao, cap, rfl, hlc, hN⟩ := nsAt_of_ints h0 z0 m hm2
  have hmI : min (zs0.length : Int) 300 = (m : Int) := by omega
  have hmc : m ≤ cap := by omega
  obtain ⟨ns, hns⟩ : ∃ ns, ns = (byteL zs0).take m := ⟨_, rfl⟩
  have hnl : ns.length ≤ 300 := by rw [hns]; simp [byteL]; omega
  rw [← hns] at hN
  obtain ⟨p, hp⟩ : ∃ p, p = makeM ns := ⟨_, rfl⟩
  have hml := make_len (1 + nxV ns 3) ns.tail
  have hpd : p.decls.length = 4 + 4 * (1 + nxV ns 3) := by rw [hp]; exact hml.1
  have hpt : p.threads.length = 1 + nxV ns 3 := by rw [hp]; exact hml.2
  have h3 := nxV_lt ns 3 (by omega)
  have hc := made_counts 5 ns (by rw [← hp]; omega)
  have hlen := made_len 5 ns hnl
  rw [← hp] at hc hlen
  obtain ⟨S, hS⟩ : ∃ S, S = bstr (ptext 13 5 p) := ⟨_, rfl⟩
  have hX : bys S = ptext 13 5 p := by rw [hS]; rfl
  rw [← hX] at hc hlen
  obtain ⟨hcH, hcT, hcL, Q, hQ⟩ := hc
  have hsz : S.size ≤ 40000 := by rw [← bys_length]; exact hlen
  have hs1 : 1 ≤ S.size := by rw [← bys_length, hQ]; simp
  have hne : ptext 13 5 p ≠ [] := by rw [← hX, hQ]; simp
  have hlast : (S[S.size - 1]'(by omega)) = 10 := by
    have hk : S.size - 1 < (bys S).length := by rw [bys_length]; omega
    have e1 : (S[S.size - 1]'(by omega)) = (bys S)[S.size - 1] := rfl
    have e2 : (bys S)[S.size - 1]? = some 10 := by
      rw [hQ, List.getElem?_append_right (by have := congrArg List.length hQ; rw [bys_length] at this; simp at this; omega)]
      have := congrArg List.length hQ
      rw [bys_length] at this
      simp at this
      rw [show S.size - 1 - Q.length = 0 by omega]; rfl
    rw [List.getElem?_eq_getElem hk] at e2
    rw [e1]; exact Option.some.inj e2
  have hLle : cntL (bys S) ≤ 40000 := Nat.le_trans (by unfold cntL; exact List.countP_le_length) hlen
  have HM := fun (w' : World) (hb : Below w.heap.size w w') => make_any ao zs0.length cap m ns w' (by
    obtain ⟨a, b, c, d, e, f⟩ := hN.on hb.block
    exact ⟨a, b, c, d, e, fun i x hx => by obtain ⟨g, off, h1, h2, h3⟩ := f i x hx; exact ⟨g, off, h1, by have := hb.size; omega, h3⟩⟩) hmI hmc hlc (by omega)
  rw [← hp] at HM
  have HT : ∀ (dv tv : Value) (w' : World), Dcls 0 w'.heap.size w' dv p.decls → Thrs 0 w'.heap.size 13 5 w' tv p.threads → Vars w'.heap.size w' → Calls Tryd.prog 8 #[.agg #[dv, tv]] w' fun e w'' => e = .returned (.string S) ∧ Below w'.heap.size w' w'' := fun dv tv w' a b c => by
    rw [hS]; exact text_any 13 5 p dv tv w' a b c (by omega) hne (by rw [← hX]; omega)
  have HH := Lib.hid (And.intro hcH (And.intro hcT (And.intro hcL (And.intro hlast hLle))))
  have hDl : p.decls.length ≤ 1000 := by omega
  have hTl : p.threads.length ≤ 1000 := by omega
  clear hN hns hp hml hpd hpt hcH hcT hcL hQ hX hS hlen hne hlast hLle h0 z0 hm
  go_enter Tryd.func4, Tryd.ntmps4
  go_wp2_with (first
    | (go_at_call 5; refine (awake_any w hV).mono ?_; rintro e wA ⟨rfl, hbA⟩)
    | (go_at_call 8; refine (HT _ _ _ (hDM.out.up ((Below.refl _ _).alloc (Nat.le_refl _) _) (by simp)) (hTM.out.up ((Below.refl _ _).alloc (Nat.le_refl _) _) (by simp)) ((hV.on (hbM.alloc hbM.size _)).mono (by have := hbM.size; rw [alloc_size]; omega))).mono ?_; rintro e w5 ⟨rfl, hb5⟩)
    | (go_at_call 6; refine (HM wA hbA).mono ?_; rintro e wM ⟨dv, tv, rfl, hDM, hTM, hbMA⟩; have hbM : Below w.heap.size w wM := hbA.trans (hbMA.mono hbA.size); obtain ⟨dao, dcap, rfl, _⟩ := id hDM; obtain ⟨tao, tcap, rfl, _⟩ := id hTM; replace hDM := Lib.hid hDM; replace hTM := Lib.hid hTM))
  have hbox : w5.heap[wM.heap.size]? = some (.cells #[.slice dao p.decls.length dcap, .slice tao p.threads.length tcap] 27 (0, 0)) := (hb5.block _ (by rw [alloc_size]; omega)).trans (heap_alloc_new wM _)
  obtain ⟨x0, x1⟩ := prog_cells hbox
  have hbE : Below w.heap.size w w5 := (hbM.alloc hbM.size _).trans (hb5.mono (by have := hbM.size; rw [alloc_size]; omega))
  have HB := Lib.hid hbE
  clear hbE hbox hb5
  go_loop [5, 6, 7, 8] (fun l h t i => ∃ k a b c : Nat, k ≤ S.size ∧ i = .int .i64 k ∧ l = .int .i64 a ∧ h = .int .i64 b ∧ t = .int .i64 c ∧ a + cntL ((bys S).drop k) = cntL (bys S) ∧ b + cntH (stX (bys S) k) ((bys S).drop k) = cntH true (bys S) ∧ c + cntT ((bys S).take k) ((bys S).drop k) = cntT [] (bys S)) (fun _ _ _ i => S.size - (intOf i).toNat)
  case atStart => exact ⟨0, 0, 0, 0, Nat.zero_le _, rfl, rfl, rfl, rfl, by simp, by simp [stX], by simp⟩
  case round =>
    obtain ⟨k, a, b, c, hk, rfl, rfl, rfl, rfl, ha, hb, hc⟩ := hrel
    obtain ⟨hcH, hcT, hcL, hlast, hLle⟩ := HH.out
    have ba : a ≤ 40000 := by omega
    have bb : b ≤ 40000 := by omega
    have bc : c ≤ 40000 := by omega
    by_cases hlt : k < S.size
    · have sL := Lib.hid (step_L hlt)
      have sH := Lib.hid (step_H hlt)
      have sT := Lib.hid (step_T hlt)
      have HA := Lib.hid (And.intro ha (And.intro hb hc))
      clear ha hb hc hcH hcT hcL hlast hLle
      cases k with
      | zero =>
        have s3 : Hid (cntT ((bys S).take 0) ((bys S).drop 0) = cntT ((bys S).take (0 + 1)) ((bys S).drop (0 + 1))) := by
          rcases sT.out with ⟨h8, _⟩ | ⟨_, h⟩
          · omega
          · exact h
        rcases sL.out with ⟨t1, s1⟩ | ⟨t1, s1⟩ <;> rcases sH.out with ⟨_, t2, t3, s2⟩ | ⟨t2 | t2 | t2, s2⟩ <;> clear sL sH sT <;> try (exfalso; first | omega | (simp [stX] at t2; done))
        all_goals
          replace s1 := Lib.hid s1
          replace s2 := Lib.hid s2
          go_wp2
          go_round
          case rel =>
            obtain ⟨ha, hb, hc⟩ := HA.out
            have e1 := s1.out
            have e2 := s2.out
            have e3 := s3.out
            clear s1 s2 s3 HA
            (first | exact ⟨0 + 1, a, b, c, by omega, by go_num, by go_num, by go_num, by go_num, by omega, by omega, by omega⟩ | exact ⟨0 + 1, a, b, c + 1, by omega, by go_num, by go_num, by go_num, by go_num, by omega, by omega, by omega⟩ | exact ⟨0 + 1, a, b + 1, c, by omega, by go_num, by go_num, by go_num, by go_num, by omega, by omega, by omega⟩ | exact ⟨0 + 1, a, b + 1, c + 1, by omega, by go_num, by go_num, by go_num, by go_num, by omega, by omega, by omega⟩ | exact ⟨0 + 1, a + 1, b, c, by omega, by go_num, by go_num, by go_num, by go_num, by omega, by omega, by omega⟩ | exact ⟨0 + 1, a + 1, b, c + 1, by omega, by go_num, by go_num, by go_num, by go_num, by omega, by omega, by omega⟩ | exact ⟨0 + 1, a + 1, b + 1, c, by omega, by go_num, by go_num, by go_num, by go_num, by omega, by omega, by omega⟩ | exact ⟨0 + 1, a + 1, b + 1, c + 1, by omega, by go_num, by go_num, by go_num, by go_num, by omega, by omega, by omega⟩)
          case measure => simp [intOf]; omega
      | succ j =>
        have hj : j < S.size := by omega
        have hj1 : j + 1 ≤ S.size := by omega
        obtain ⟨t, ht⟩ : ∃ t, t = S.extract (j + 1 - 8) (j + 1) := ⟨_, rfl⟩
        by_cases h8 : 8 ≤ j + 1
        · have h8I : (8 : Int) ≤ (j : Int) + 1 := by omega
          have hcut : ∀ W, (Instr.slice 9 (.string S) (some (.int .i64 ((j : Int) + 1 - 8))) (some (.int .i64 ((j : Int) + 1))) none).run Tryd.prog W = .ok (.string t) W := fun W => cut_str (S := S) (t := t) (a := ((j : Int) + 1) - 8) (k := j + 1) (by omega) (by omega) hj1 (by rw [ht]; congr 1; omega) W
          by_cases hth : t = thrB
          · have s3 : Hid (cntT ((bys S).take (j + 1)) ((bys S).drop (j + 1)) = 1 + cntT ((bys S).take (j + 1 + 1)) ((bys S).drop (j + 1 + 1))) := by
              rcases sT.out with ⟨_, _, h⟩ | ⟨h | h, _⟩
              · exact h
              · omega
              · exact absurd (ht ▸ hth) h
            clear ht
            subst hth
            unfold thrB at hcut
            rcases st_prev hj with ⟨p1, p2⟩ | ⟨p1, p2⟩ <;> rcases sL.out with ⟨t1, s1⟩ | ⟨t1, s1⟩ <;> rcases sH.out with ⟨p3, t2, t3, s2⟩ | ⟨t2 | t2 | t2, s2⟩ <;> clear sL sH sT <;> try (exfalso; first | omega | (rw [p1] at p3; cases p3; done) | (rw [p1] at t2; cases t2; done))
            all_goals
              replace s1 := Lib.hid s1
              replace s2 := Lib.hid s2
              clear p1
              go_wp2
              go_round
              case rel =>
                obtain ⟨ha, hb, hc⟩ := HA.out
                have e1 := s1.out
                have e2 := s2.out
                have e3 := s3.out
                clear s1 s2 s3 HA
                (first | exact ⟨j + 1 + 1, a, b, c, by omega, by go_num, by go_num, by go_num, by go_num, by omega, by omega, by omega⟩ | exact ⟨j + 1 + 1, a, b, c + 1, by omega, by go_num, by go_num, by go_num, by go_num, by omega, by omega, by omega⟩ | exact ⟨j + 1 + 1, a, b + 1, c, by omega, by go_num, by go_num, by go_num, by go_num, by omega, by omega, by omega⟩ | exact ⟨j + 1 + 1, a, b + 1, c + 1, by omega, by go_num, by go_num, by go_num, by go_num, by omega, by omega, by omega⟩ | exact ⟨j + 1 + 1, a + 1, b, c, by omega, by go_num, by go_num, by go_num, by go_num, by omega, by omega, by omega⟩ | exact ⟨j + 1 + 1, a + 1, b, c + 1, by omega, by go_num, by go_num, by go_num, by go_num, by omega, by omega, by omega⟩ | exact ⟨j + 1 + 1, a + 1, b + 1, c, by omega, by go_num, by go_num, by go_num, by go_num, by omega, by omega, by omega⟩ | exact ⟨j + 1 + 1, a + 1, b + 1, c + 1, by omega, by go_num, by go_num, by go_num, by go_num, by omega, by omega, by omega⟩)
              case measure => simp [intOf]; omega
          · have s3 : Hid (cntT ((bys S).take (j + 1)) ((bys S).drop (j + 1)) = cntT ((bys S).take (j + 1 + 1)) ((bys S).drop (j + 1 + 1))) := by
              rcases sT.out with ⟨_, h, _⟩ | ⟨_, h⟩
              · exact absurd (ht.trans h) hth
              · exact h
            have hq : (t.toList == [116, 104, 114, 101, 97, 100, 32, 123]) = false := by
              have h := str_ne hth
              rw [ByteArray.toList_eq thrB] at h
              exact h
            clear ht hth
            rcases st_prev hj with ⟨p1, p2⟩ | ⟨p1, p2⟩ <;> rcases sL.out with ⟨t1, s1⟩ | ⟨t1, s1⟩ <;> rcases sH.out with ⟨p3, t2, t3, s2⟩ | ⟨t2 | t2 | t2, s2⟩ <;> clear sL sH sT <;> try (exfalso; first | omega | (rw [p1] at p3; cases p3; done) | (rw [p1] at t2; cases t2; done))
            all_goals
              replace s1 := Lib.hid s1
              replace s2 := Lib.hid s2
              clear p1
              go_wp2
              go_round
              case rel =>
                obtain ⟨ha, hb, hc⟩ := HA.out
                have e1 := s1.out
                have e2 := s2.out
                have e3 := s3.out
                clear s1 s2 s3 HA
                (first | exact ⟨j + 1 + 1, a, b, c, by omega, by go_num, by go_num, by go_num, by go_num, by omega, by omega, by omega⟩ | exact ⟨j + 1 + 1, a, b, c + 1, by omega, by go_num, by go_num, by go_num, by go_num, by omega, by omega, by omega⟩ | exact ⟨j + 1 + 1, a, b + 1, c, by omega, by go_num, by go_num, by go_num, by go_num, by omega, by omega, by omega⟩ | exact ⟨j + 1 + 1, a, b + 1, c + 1, by omega, by go_num, by go_num, by go_num, by go_num, by omega, by omega, by omega⟩ | exact ⟨j + 1 + 1, a + 1, b, c, by omega, by go_num, by go_num, by go_num, by go_num, by omega, by omega, by omega⟩ | exact ⟨j + 1 + 1, a + 1, b, c + 1, by omega, by go_num, by go_num, by go_num, by go_num, by omega, by omega, by omega⟩ | exact ⟨j + 1 + 1, a + 1, b + 1, c, by omega, by go_num, by go_num, by go_num, by go_num, by omega, by omega, by omega⟩ | exact ⟨j + 1 + 1, a + 1, b + 1, c + 1, by omega, by go_num, by go_num, by go_num, by go_num, by omega, by omega, by omega⟩)
              case measure => simp [intOf]; omega
        · have s3 : Hid (cntT ((bys S).take (j + 1)) ((bys S).drop (j + 1)) = cntT ((bys S).take (j + 1 + 1)) ((bys S).drop (j + 1 + 1))) := by
            rcases sT.out with ⟨h, _, _⟩ | ⟨_, h⟩
            · exact absurd h h8
            · exact h
          clear ht
          have h8I : ¬ (8 : Int) ≤ (j : Int) + 1 := by omega
          rcases st_prev hj with ⟨p1, p2⟩ | ⟨p1, p2⟩ <;> rcases sL.out with ⟨t1, s1⟩ | ⟨t1, s1⟩ <;> rcases sH.out with ⟨p3, t2, t3, s2⟩ | ⟨t2 | t2 | t2, s2⟩ <;> clear sL sH sT <;> try (exfalso; first | omega | (rw [p1] at p3; cases p3; done) | (rw [p1] at t2; cases t2; done))
          all_goals
            replace s1 := Lib.hid s1
            replace s2 := Lib.hid s2
            clear p1
            go_wp2
            go_round
            case rel =>
              obtain ⟨ha, hb, hc⟩ := HA.out
              have e1 := s1.out
              have e2 := s2.out
              have e3 := s3.out
              clear s1 s2 s3 HA
              (first | exact ⟨j + 1 + 1, a, b, c, by omega, by go_num, by go_num, by go_num, by go_num, by omega, by omega, by omega⟩ | exact ⟨j + 1 + 1, a, b, c + 1, by omega, by go_num, by go_num, by go_num, by go_num, by omega, by omega, by omega⟩ | exact ⟨j + 1 + 1, a, b + 1, c, by omega, by go_num, by go_num, by go_num, by go_num, by omega, by omega, by omega⟩ | exact ⟨j + 1 + 1, a, b + 1, c + 1, by omega, by go_num, by go_num, by go_num, by go_num, by omega, by omega, by omega⟩ | exact ⟨j + 1 + 1, a + 1, b, c, by omega, by go_num, by go_num, by go_num, by go_num, by omega, by omega, by omega⟩ | exact ⟨j + 1 + 1, a + 1, b, c + 1, by omega, by go_num, by go_num, by go_num, by go_num, by omega, by omega, by omega⟩ | exact ⟨j + 1 + 1, a + 1, b + 1, c, by omega, by go_num, by go_num, by go_num, by go_num, by omega, by omega, by omega⟩ | exact ⟨j + 1 + 1, a + 1, b + 1, c + 1, by omega, by go_num, by go_num, by go_num, by go_num, by omega, by omega, by omega⟩)
            case measure => simp [intOf]; omega
    · obtain rfl : k = S.size := by omega
      have d0 : (bys S).drop S.size = [] := List.drop_eq_nil_of_le (by rw [bys_length]; omega)
      rw [d0] at ha hb hc
      have fL : cntL ([] : List UInt8) = 0 := rfl
      have fH : ∀ q, cntH q ([] : List UInt8) = 0 := fun _ => rfl
      have fT : ∀ q, cntT q ([] : List UInt8) = 0 := fun _ => rfl
      rw [fL] at ha
      rw [fH] at hb
      rw [fT] at hc
      have hl10 : ((S[S.size - 1]'(by omega)).toNat : Int) = 10 := by rw [hlast]; rfl
      have eb : (b : Int) = (p.decls.length : Int) + (p.threads.length : Int) := by omega
      have ec : (c : Int) = (p.threads.length : Int) := by omega
      have ea : (b : Int) < (a : Int) := by omega
      have hi1 : ((S.size : Int) - 1).toNat = S.size - 1 := by omega
      clear hlast ha hb hc hcH hcT hcL hLle d0
      have ea' : (p.decls.length : Int) + (p.threads.length : Int) < (a : Int) := by omega
      go_wp2
      go_ret
      exact ⟨rfl, HB.out⟩
end Go.Proofs.YtpgahjjaehoodaaDoor
