/- The walk of TreeSame: on every input it returns true. Conditions: the table of powers holds what its initialiser lays. -/
import Derived.Test.YtiieghaibcbddaaDoorSameWhole
import Derived.Test.YtiieghaibcbddaaDoorWHelp
import Derived.Lib.QuietBelow
import Derived.BigQuiet
namespace Go.Proofs.YtiieghaibcbddaaDoor
open Go.ChangeShapes Go.WideShapes Go.ChangeAt Go.RowKit
set_option linter.unusedVariables false
set_option linter.unusedSimpArgs false

theorem dcls_up {lo B B' : Nat} {w w' : World} {v : Value} {ds : List Dcl} (h : Dcls lo B w v ds) (hb : Below B w w') (hB : B ≤ B') : Dcls 0 B' w' v ds := by
  obtain ⟨ao, cap, rfl, hl, h⟩ := h.on hb
  refine ⟨ao, cap, rfl, hl, fun i d hd => ?_⟩
  obtain ⟨hf, g, off, e, hlo, hg, r⟩ := h i d hd
  exact ⟨hf, g, off, e, Nat.zero_le _, by omega, r⟩
theorem thrs_up {lo B B' m n : Nat} {w w' : World} {v : Value} {ts : List (List Stm)} (h : Thrs lo B m n w v ts) (hb : Below B w w') (hB : B ≤ B') : Thrs 0 B' m n w' v ts := by
  obtain ⟨ao, cap, rfl, hl, h⟩ := h.on hb
  refine ⟨ao, cap, rfl, hl, fun i ss hs => ?_⟩
  obtain ⟨g, off, tao, tcap, e, hlo, hg, hc, h0, h1⟩ := h i ss hs
  exact ⟨g, off, tao, tcap, e, Nat.zero_le _, by omega, hc, h0, h1.carry (Nat.zero_le _) hB (fun _ _ _ _ _ h => h) fun _ _ hr => hr.carry (Nat.zero_le _) hB (Same35.refl _ _ _) (fun _ _ _ _ _ h => h)⟩
theorem prog2 {w : World} {k : Nat} {x0 x1 : Value} (h : w.heap[k]? = some (.cells #[x0, x1] 27 (0, 0))) : w.cell? ⟨k, 0, none⟩ = some x0 ∧ w.cell? ⟨k, 1, none⟩ = some x1 := by
  refine ⟨?_, ?_⟩ <;> (rw [Lib.cell_of_heap h]; rfl)

theorem loop_few {st : Bool → Env → List UInt8 → Mk} {inside : Bool} (hg : ∀ E ns, fullE E → growE E (st inside E ns).2.1) (h : ∀ E ns, fullE E → (st inside E ns).1.length ≤ 7) : ∀ (j : Nat) (E : Env) (ns : List UInt8), fullE E → (loopM st inside j E ns).1.length ≤ j * 7
  | 0, E, ns, _ => by simp [loopM]
  | j + 1, E, ns, hE => by
    have g := (loop_grow hg j E ns hE).full hE
    have h1 := h _ (loopM st inside j E ns).2.2 g
    have h2 := loop_few hg h j E ns hE
    show ((loopM st inside j E ns).1 ++ (st inside (loopM st inside j E ns).2.1 (loopM st inside j E ns).2.2).1).length ≤ _
    rw [List.length_append]; omega
theorem made_few : ∀ (k : Nat) (ns : List UInt8), ∀ ss ∈ (threadsM k ns).2.1, ss.length ≤ 35
  | 0, ns => fun ss hs => by
    have hs' : ss ∈ ([] : List (List Stm)) := hs
    simp at hs'
  | k + 1, ns => fun ss hs => by
    have hs' : ss ∈ (threadsM k ns).2.1 ++ [(blockM (stmtM 5) false ⟨[], [], [], false, k, 0⟩ (threadsM k ns).2.2).1] := hs
    rcases List.mem_append.1 hs' with h | h
    · exact made_few k ns ss h
    · simp only [List.mem_singleton] at h; subst h
      have h1 := nxV_lt (threadsM k ns).2.2 5 (by omega)
      have h2 := loop_few (inside := false) (fun E ns hE => stmt_grow 5 false E ns hE) (fun E ns hE => (stmt_len 5 false E ns hE (by omega) (by omega)).2.1) (nxV (threadsM k ns).2.2 5 + 1) ⟨[], [], [], false, k, 1⟩ (threadsM k ns).2.2.tail ⟨rfl, rfl⟩
      exact Nat.le_trans h2 (by omega)

set_option maxHeartbeats 1000000 in
set_option maxRecDepth 100000 in
theorem same_walk (v0 : Value) (zs0 : List Int) (a1 a2 : Int) (w : World) (h0 : IntsAt w .u8 v0 zs0) (z0 : ∀ n ∈ zs0, (Lit.int .u8 n).wf = true) (n0 : zs0.length * 1 ≤ 140737488351232) (w1 : (Lit.int .i64 a1).wf = true) (w2 : (Lit.int .u8 a2).wf = true) (hV : Vars w.heap.size w) :
    Calls Tryd.prog 3 #[v0, .int .i64 a1, .int .u8 a2] w fun e w' => e = .returned (.bool true) ∧ Below w.heap.size w w' := by
  obtain ⟨m, hm, hm2⟩ : ∃ m, m = min zs0.length 300 ∧ m ≤ zs0.length := ⟨_, rfl, by omega⟩
  obtain ⟨ao, cap, rfl, hlc, hN⟩ := nsAt_of_ints h0 z0 m hm2
  have hmI : min (zs0.length : Int) 300 = (m : Int) := by omega
  have hmc : m ≤ cap := by omega
  obtain ⟨ns, hns⟩ : ∃ ns, ns = (byteL zs0).take m := ⟨_, rfl⟩
  have hnl : ns.length ≤ 300 := by rw [hns]; simp [byteL]; omega
  rw [← hns] at hN
  obtain ⟨p, hp⟩ : ∃ p, p = makeM ns := ⟨_, rfl⟩
  have hml := make_len (1 + nxV ns 3) ns.tail
  have h3 := nxV_lt ns 3 (by omega)
  have hpd : p.decls.length = 4 + 4 * (1 + nxV ns 3) := by rw [hp]; exact hml.1
  have hpt : p.threads.length = 1 + nxV ns 3 := by rw [hp]; exact hml.2
  have hD1 : p.decls.length ≤ 1000 := by omega
  have hT1 : 1 ≤ p.threads.length := by omega
  have hT2' : p.threads.length ≤ 10 := by omega
  have hwf : ∀ ss ∈ p.threads, allS 5 ss := by rw [hp]; exact made_wf _ _
  have hnm : ∀ ss ∈ p.threads, okN ss ∧ 1 ≤ ss.length := by rw [hp]; exact made_names _ _
  have hfew : ∀ ss ∈ p.threads, ss.length ≤ 35 := by rw [hp]; exact made_few _ _
  have hlen := made_len 5 ns hnl
  have hc := made_counts 5 ns (by rw [← hp]; omega)
  rw [← hp] at hlen hc
  have hne : ptext 13 5 p ≠ [] := by
    obtain ⟨_, _, _, Q, hQ⟩ := hc
    rw [hQ]; simp
  have HM := fun (w' : World) (hb : Below w.heap.size w w') => make_any ao zs0.length cap m ns w' (by
    obtain ⟨a, b, c, d, e, f⟩ := hN.on hb.block
    exact ⟨a, b, c, d, e, fun i x hx => by obtain ⟨g, off, h1, h2, h3⟩ := f i x hx; exact ⟨g, off, h1, by have := hb.size; omega, h3⟩⟩) hmI hmc hlc (by omega)
  rw [← hp] at HM
  have b2 := u8_wf w2
  have H0 := awake_any w hV
  have HWf := Lib.hid hwf
  have HNm := Lib.hid hnm
  have HFew := Lib.hid hfew
  have HLen := Lib.hid hlen
  have HNe := Lib.hid hne
  clear hfew hwf hnm hlen hne hc hml hp hN hns hpd hpt hm w2
  go_enter Tryd.func3, Tryd.ntmps3
  go_wp2_with (go_at_call 4; refine H0.mono ?_; rintro e wA ⟨rfl, hbA⟩)
  go_at_call 5
  refine (HM wA hbA).mono ?_
  rintro e w2 ⟨dv, tv, rfl, hD2, hT2, hb2⟩
  have hb02 : Below w.heap.size w w2 := hbA.trans (hb2.mono hbA.size)
  go_wp2_with fail
  go_at_call 5
  refine (HM w2 hb02).mono ?_
  rintro e w3 ⟨dv', tv', rfl, hD3, hT3, hb3⟩
  have hz3 := hb3.size
  have hW : TS p false w2.heap.size w3.heap.size w2 dv tv dv' tv' p ((w3.alloc (.cells #[dv, tv] 27)).alloc (.cells #[dv', tv'] 27)) := by
    have hbb : Below w3.heap.size w3 ((w3.alloc (.cells #[dv, tv] 27)).alloc (.cells #[dv', tv'] 27)) := ((Below.refl _ _).alloc (Nat.le_refl _) _).alloc (by simp) _
    refine ⟨hb3.trans (hbb.mono hz3), hz3, by simp only [alloc_size]; omega, ?_, ?_, hD3.on hbb, hT3.on hbb, listR_refl dA_refl _, listR_refl (fun x => listR_refl (eqA_refl false 5) x) _⟩
    · simp only [alloc_at, alloc_size]; rw [if_neg (by omega)]; simp
    · simp only [alloc_at, alloc_size]; simp
  have HD2 := Lib.hid hD2
  have HT2 := Lib.hid hT2
  obtain ⟨dao, dcap, rfl, _⟩ := hD2
  obtain ⟨tao, tcap, rfl, _⟩ := hT2
  obtain ⟨dao', dcap', rfl, _⟩ := hD3
  obtain ⟨tao', tcap', rfl, _⟩ := hT3
  have HW := Lib.hid hW
  clear hW HM
  go_wp2
  obtain ⟨S2, hS2⟩ : ∃ S2, S2 = w2.heap.size := ⟨_, rfl⟩
  obtain ⟨S3, hS3⟩ : ∃ S3, S3 = w3.heap.size := ⟨_, rfl⟩
  rw [← hS2, ← hS3] at HW
  rw [← hS3]
  have HS2 := Lib.hid hS2
  have HS3 := Lib.hid hS3
  clear hS2 hS3 hb3 hz3 h0 hlc hmI hmc hnl z0 hm2
  go_loopw [22] (fun iv wr => ∃ i : Nat, i ≤ p.decls.length ∧ iv = .int .i64 i ∧ ∃ q, TS p false S2 S3 w2 (.slice dao p.decls.length dcap) (.slice tao p.threads.length tcap) (.slice dao' p.decls.length dcap') (.slice tao' p.threads.length tcap') q wr) (fun iv _ => p.decls.length - (intOf iv).toNat)
  case atStart => exact ⟨0, Nat.zero_le _, rfl, p, HW.out⟩
  case round =>
    obtain ⟨i, hi, rfl, q, hT⟩ := hrel
    obtain ⟨q0, q1⟩ := prog2 hT.2.2.2.2.1
    by_cases hlt : i < p.decls.length
    · obtain ⟨g, off, cap1, x, e1, hc1, hf1, hn1⟩ := hT.decl (i := i) (by rw [← hT.2.2.2.2.2.2.2.1.1]; exact hlt)
      simp only [Value.slice.injEq] at e1
      obtain ⟨rfl, _, rfl⟩ := e1
      obtain ⟨q', hT'⟩ := hn1 a1
      have HT' := Lib.hid hT'
      clear hT hT' hn1
      go_wp2
      go_roundw
      case rel => exact ⟨i + 1, by omega, by go_num, q', HT'.out⟩
      case measure => simp [intOf]; omega
    · have HT := Lib.hid hT
      clear hT
      go_wp2
      go_loopw [35] (fun iv wr => ∃ k : Nat, k ≤ p.threads.length ∧ iv = .int .i64 k ∧ ∃ q, TS p false S2 S3 w2 (.slice dao p.decls.length dcap) (.slice tao p.threads.length tcap) (.slice dao' p.decls.length dcap') (.slice tao' p.threads.length tcap') q wr) (fun iv _ => p.threads.length - (intOf iv).toNat)
      case atStart => exact ⟨0, Nat.zero_le _, rfl, q, HT.out⟩
      case round =>
        obtain ⟨k, hk, rfl, qk, hTk⟩ := hrel
        obtain ⟨q0, q1⟩ := prog2 hTk.2.2.2.2.1
        by_cases hltk : k < p.threads.length
        · obtain ⟨ps, hps⟩ : ∃ ps, p.threads[k]? = some ps := ⟨p.threads[k], by simp [hltk]⟩
          have hps1 := (HNm.out ps (List.mem_of_getElem? hps)).2
          have hps2 := HFew.out ps (List.mem_of_getElem? hps)
          obtain ⟨ss, hss⟩ : ∃ ss, qk.threads[k]? = some ss := ⟨qk.threads[k]'(by rw [← hTk.2.2.2.2.2.2.2.2.1]; exact hltk), by simp [← hTk.2.2.2.2.2.2.2.2.1, hltk]⟩
          have hsl : ps.length = ss.length := (hTk.2.2.2.2.2.2.2.2.2 k ps ss hps hss).1
          obtain ⟨tg, toff, tc0, g, tc, x, y, e1, hc0, hc6, hc1, hf6, hf1, hA, hNo⟩ := hTk.stmt hss (i := 0) (by omega)
          rw [← hsl] at hc0
          simp only [Value.slice.injEq] at e1
          obtain ⟨rfl, _, rfl⟩ := e1
          have HTk := Lib.hid hTk
          have HSl := Lib.hid hsl
          clear hTk hsl hA hNo hc6 hc1 hf6 hf1 hss
          go_wp2
          go_loopw [44] (fun iv wr => ∃ i : Nat, i ≤ ps.length ∧ iv = .int .i64 i ∧ ∃ q, TS p false S2 S3 w2 (.slice dao p.decls.length dcap) (.slice tao p.threads.length tcap) (.slice dao' p.decls.length dcap') (.slice (some ⟨tg, toff, none⟩) p.threads.length tcap') q wr) (fun iv _ => ps.length - (intOf iv).toNat)
          case atStart => exact ⟨0, Nat.zero_le _, rfl, qk, HTk.out⟩
          case round =>
            obtain ⟨j, hj, rfl, qi, hTi⟩ := hrel
            obtain ⟨q0, q1⟩ := prog2 hTi.2.2.2.2.1
            by_cases hlti : j < ps.length
            · obtain ⟨ss, hss⟩ : ∃ ss, qi.threads[k]? = some ss := ⟨qi.threads[k]'(by rw [← hTi.2.2.2.2.2.2.2.2.1]; exact hltk), by simp [← hTi.2.2.2.2.2.2.2.2.1, hltk]⟩
              have hsl : ps.length = ss.length := (hTi.2.2.2.2.2.2.2.2.2 k ps ss hps hss).1
              obtain ⟨tg', toff', tc0, gi, tci, x, y, e1, hc0i, hc6, hc1, hf6, hf1, hA, hNo⟩ := hTi.stmt hss (i := j) (by omega)
              rw [← hsl] at hc0i
              simp only [Value.slice.injEq, Option.some.injEq, Addr.mk.injEq, and_true] at e1
              obtain ⟨⟨rfl, rfl⟩, _, rfl⟩ := e1
              obtain ⟨q', hT'⟩ := hA a1
              have HT' := Lib.hid hT'
              clear hTi hT' hA hNo hsl hss hc1 hf1
              go_wp2
              go_roundw
              case rel => exact ⟨j + 1, by omega, by go_num, q', HT'.out⟩
              case measure => simp [intOf]; omega
            · have HTi := Lib.hid hTi
              clear hTi
              go_wp2
              go_roundw
              case rel => exact ⟨k + 1, by omega, by go_num, qi, HTi.out⟩
              case measure => simp [intOf]; omega
        · have hb02' : Below w.heap.size w wr := hb02.trans ((HS2.out ▸ hTk.1 : Below w2.heap.size w2 wr).mono hb02.size)
          have zS : S2 ≤ wr.heap.size := by have := hTk.2.1; have := hTk.2.2.1; omega
          have PD := dcls_up (B' := wr.heap.size) HD2.out (HS2.out ▸ hTk.1 : Below w2.heap.size w2 wr) (by have := HS2.out; omega)
          have PT := thrs_up (B' := wr.heap.size) HT2.out (HS2.out ▸ hTk.1 : Below w2.heap.size w2 wr) (by have := HS2.out; omega)
          have QD := dcls_up (B' := wr.heap.size) hTk.2.2.2.2.2.1 (Below.refl _ _) (by have := hTk.2.2.1; omega)
          have QT := thrs_up (B' := wr.heap.size) hTk.2.2.2.2.2.2.1 (Below.refl _ _) (by have := hTk.2.2.1; omega)
          have hpq := peqP_at HWf.out hTk.2.2.2.2.2.2.2.1 hTk.2.2.2.2.2.2.2.2
          have htx := ptext_at hTk.2.2.2.2.2.2.2.1 hTk.2.2.2.2.2.2.2.2
          have hVr : Vars wr.heap.size wr := (hV.on hb02').mono hb02'.size
          obtain ⟨S, hS⟩ : ∃ S, S = bstr (ptext 13 5 p) := ⟨_, rfl⟩
          have C1 : ∀ d os, Calls Tryd.prog 6 _ _ _ := fun d os => Calls.regrown_of (by have h := same_any 13 5 p qk _ _ _ _ _ (dcls_later PD (below_regrown wr d os)) (thrs_later PT (below_regrown wr d os)) (dcls_later QD (below_regrown wr d os)) (thrs_later QT (below_regrown wr d os)); rw [hpq.1] at h; exact h)
          have C2 : ∀ d os, Calls Tryd.prog 6 _ _ _ := fun d os => Calls.regrown_of (by have h := same_any 13 5 qk p _ _ _ _ _ (dcls_later QD (below_regrown wr d os)) (thrs_later QT (below_regrown wr d os)) (dcls_later PD (below_regrown wr d os)) (thrs_later PT (below_regrown wr d os)); rw [hpq.2] at h; exact h)
          have C3 : ∀ d os, Calls Tryd.prog 7 _ _ _ := fun d os => Calls.regrown_of (by have h := text_any 13 5 p _ _ _ (dcls_later PD (below_regrown wr d os)) (thrs_later PT (below_regrown wr d os)) ((hVr.on (below_regrown wr d os)).mono (below_regrown wr d os).size) (by omega) HNe.out (by have := HLen.out; omega); rw [← hS] at h; exact h)
          have C4 : ∀ d os, Calls Tryd.prog 7 _ _ _ := fun d os => Calls.regrown_of (by have h := text_any 13 5 qk _ _ _ (dcls_later QD (below_regrown wr d os)) (thrs_later QT (below_regrown wr d os)) ((hVr.on (below_regrown wr d os)).mono (below_regrown wr d os).size) (by omega) (by rw [← htx]; exact HNe.out) (by rw [← htx]; have := HLen.out; omega); rw [← htx, ← hS] at h; exact h)
          obtain ⟨r0, r1⟩ := prog2 hTk.2.2.2.1
          have P0 := cell_regrown r0
          have P1 := cell_regrown r1
          have Q0 := cell_regrown q0
          have Q1 := cell_regrown q1
          have HTk := Lib.hid hTk
          have HVr := Lib.hid hVr
          have HPD := Lib.hid PD
          have HPT := Lib.hid PT
          clear hTk PD PT QD QT hpq htx hVr hS
          go_wp2_with fail
          refine wp_region_quiet_below (by kernel_rfl) (by kernel_rfl) ?_
          repeat (go_big_quiet_step (first | with_reducible exact C1 _ _ | with_reducible exact C2 _ _ | with_reducible exact C3 _ _ | with_reducible exact C4 _ _))
          refine wpQuiet_nil ?_
          intro _ hw'
          obtain ⟨⟨dq, osq⟩, hw''⟩ := hw'
          subst hw''
          obtain ⟨W2, hW2⟩ : ∃ W2, W2 = Sort.grow (redrawn wr dq) osq := ⟨_, rfl⟩
          have hB2 : Below wr.heap.size wr W2 := by rw [hW2]; exact below_regrown wr dq osq
          show Exit.then _ _ _ _ (Sort.grow (redrawn wr dq) osq)
          rw [← hW2]
          have hT2 := HTk.out.below hB2
          have PD2 := dcls_later HPD.out hB2
          have PT2 := thrs_later HPT.out hB2
          have hb2w : Below w.heap.size w W2 := hb02'.trans (hB2.mono hb02'.size)
          obtain ⟨s0, s1⟩ := prog2 hT2.2.2.2.2.1
          clear hW2 C1 C2 C3 C4 P0 P1 Q0 Q1 HTk HPD HPT HVr r0 r1 q0 q1 hB2 hb02' zS
          obtain ⟨c, hcl, hcI⟩ : ∃ c : Nat, c < p.threads.length ∧ a2 % (p.threads.length : Int) = (c : Int) := ⟨(a2 % (p.threads.length : Int)).toNat, by have := Int.emod_lt_of_pos a2 (by omega : (0 : Int) < p.threads.length); have := Int.emod_nonneg a2 (by omega : (p.threads.length : Int) ≠ 0); omega, by have := Int.emod_nonneg a2 (by omega : (p.threads.length : Int) ≠ 0); omega⟩
          obtain ⟨ps, hps⟩ : ∃ ps, p.threads[c]? = some ps := ⟨p.threads[c], by simp [hcl]⟩
          have hps1 := (HNm.out ps (List.mem_of_getElem? hps)).2
          have hps2 := HFew.out ps (List.mem_of_getElem? hps)
          obtain ⟨e, hel, heI⟩ : ∃ e : Nat, e < ps.length ∧ (a2 / 4) % (ps.length : Int) = (e : Int) := ⟨((a2 / 4) % (ps.length : Int)).toNat, by have := Int.emod_lt_of_pos (a2 / 4) (by omega : (0 : Int) < ps.length); have := Int.emod_nonneg (a2 / 4) (by omega : (ps.length : Int) ≠ 0); omega, by have := Int.emod_nonneg (a2 / 4) (by omega : (ps.length : Int) ≠ 0); omega⟩
          obtain ⟨ss, hss⟩ : ∃ ss, qk.threads[c]? = some ss := ⟨qk.threads[c]'(by rw [← hT2.2.2.2.2.2.2.2.2.1]; exact hcl), by simp [← hT2.2.2.2.2.2.2.2.2.1, hcl]⟩
          have hsl : ps.length = ss.length := (hT2.2.2.2.2.2.2.2.2.2 c ps ss hps hss).1
          obtain ⟨tg, toff, tc0, g, tc, x, y, e1, hc0, hc6, hc1, hf6, hf1, hA, hNo⟩ := hT2.stmt hss (i := e) (by omega)
          rw [← hsl] at hc0
          simp only [Value.slice.injEq] at e1
          obtain ⟨rfl, hee, rfl⟩ := e1
          clear hee
          have HT2s := Lib.hid hT2
          have HSl := Lib.hid hsl
          have HSs := Lib.hid hss
          have HPs := Lib.hid hps
          have HC0 := Lib.hid hc0
          clear hT2 hA hNo hc1 hf1 hc6 hf6 hss hsl hps
          go_wp2_with fail
          have hcM : Int.tmod a2 (p.threads.length : Int) = (c : Int) := by rw [Int.tmod_eq_emod_of_nonneg (by omega)]; exact hcI
          have heM : Int.tmod (a2 / 4) (ps.length : Int) = (e : Int) := by rw [Int.tmod_eq_emod_of_nonneg (by omega)]; exact heI
          have hz1 : ¬ (p.threads.length : Int) = 0 := by omega
          have hz2 : ¬ (ps.length : Int) = 0 := by omega
          have hz3 : ¬ p.threads.length = 0 := by omega
          have hz4 : ¬ ps.length = 0 := by omega
          go_quiet (fail)
          obtain ⟨W3, hW3⟩ : ∃ W3, W3 = W2.drewN nq := ⟨_, rfl⟩
          have hB3 : Below W2.heap.size W2 W3 := by rw [hW3]; exact ⟨rfl, rfl, rfl, Nat.le_refl _, fun _ _ => rfl⟩
          rw [← hW3]
          have hT3 := HT2s.out.below hB3
          have PD3 := dcls_later PD2 hB3
          have PT3 := thrs_later PT2 hB3
          have hb3w : Below w.heap.size w W3 := hb2w.trans (hB3.mono hb2w.size)
          have hsl := HSl.out
          obtain ⟨tg', toff', tc0', g', tc', x', y', e1, hc0', hc6, hc1, hf6, hf1, hA, hNo⟩ := hT3.stmt HSs.out (i := e) (by omega)
          rw [← hsl] at hc0'
          simp only [Value.slice.injEq, Option.some.injEq, Addr.mk.injEq, and_true] at e1
          obtain ⟨⟨rfl, rfl⟩, hee, rfl⟩ := e1
          clear hee hsl
          have hgg : W3.cell? ⟨tg, toff + c, none⟩ = W2.cell? ⟨tg, toff + c, none⟩ := by rw [hW3]; rfl
          rw [hgg, HC0.out] at hc0'
          simp only [Option.some.injEq, Value.slice.injEq, Addr.mk.injEq, and_true, true_and] at hc0'
          obtain ⟨rfl, rfl⟩ := hc0'
          obtain ⟨q', hT', ss', s', hss', hs', hn'⟩ := hNo rfl
          obtain ⟨sp, hsp⟩ : ∃ sp, ps[e]? = some sp := ⟨ps[e], by simp [hel]⟩
          have hno := peqP_name HPs.out hss' hsp hs' (by rw [hn']; exact (HNm.out ps (List.mem_of_getElem? HPs.out)).1 sp (List.mem_of_getElem? hsp))
          obtain ⟨W4, hW4⟩ : ∃ W4, W4 = W3.setCell ⟨g, e * 7 + 1, none⟩ (.string otherS) := ⟨_, rfl⟩
          rw [← hW4] at hT'
          have hb24 : Below w2.heap.size w2 W4 := HS2.out ▸ hT'.1
          have hb4 : Below w.heap.size w W4 := hb02.trans (hb24.mono hb02.size)
          have zS : S2 ≤ W4.heap.size := by have := hT'.2.1; have := hT'.2.2.1; omega
          have PD := dcls_up (B' := W4.heap.size) HD2.out hb24 (by have := HS2.out; omega)
          have PT := thrs_up (B' := W4.heap.size) HT2.out hb24 (by have := HS2.out; omega)
          have QD := dcls_up (B' := W4.heap.size) hT'.2.2.2.2.2.1 (Below.refl _ _) (by have := hT'.2.2.1; omega)
          have QT := thrs_up (B' := W4.heap.size) hT'.2.2.2.2.2.2.1 (Below.refl _ _) (by have := hT'.2.2.1; omega)
          have CF := same_any 13 5 p q' _ _ _ _ _ PD PT QD QT
          rw [hno] at CF
          obtain ⟨t0, t1⟩ := prog2 hT'.2.2.2.1
          obtain ⟨t2, t3⟩ := prog2 hT'.2.2.2.2.1
          have hbE : ∀ wE, Below W4.heap.size W4 wE → Below w.heap.size w wE := fun wE h => hb4.trans (h.mono hb4.size)
          rw [hW4] at t0 t1 t2 t3 CF hbE
          unfold otherS at t0 t1 t2 t3 CF hbE
          clear hT3 hT' hA hNo hc6 hf6 hss' hs' hn' hno hsp hgg hW3 hB3 PD2 PT2 hc0 HC0 HT2s s0 s1 PD PT QD QT hb4 hb24 zS hW4 W4
          go_wp2_with (go_at_call 6; refine CF.mono ?_; rintro eE wE ⟨rfl, hbL⟩)
          go_ret
          exact ⟨rfl, hbE wE hbL⟩
end Go.Proofs.YtiieghaibcbddaaDoor
