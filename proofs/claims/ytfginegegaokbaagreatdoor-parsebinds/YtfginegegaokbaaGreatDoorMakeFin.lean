/- How the maker's stmt ends, where its order is drawn. Conditions: the maker lies in a block of its own. -/
import Derived.Test.YtfginegegaokbaaGreatDoorMakeBlock
namespace Go.Proofs.YtfginegegaokbaaGreatDoor
open Go.ChangeShapes Go.WideShapes Go.ChangeAt Go.RowKit
set_option linter.unusedVariables false
set_option linter.unusedSimpArgs false

theorem alloc_keep {w : World} {k : Nat} {o : Obj} (h : w.heap[k]? = some o) (x : Obj) : (w.alloc x).heap[k]? = some o := (Lib.alloc_old w x k (heap_lt h)).trans h
theorem KeepM.undrew {B : Nat} {w w' : World} (h : KeepM B w.drew w') : KeepM B w w' := ⟨⟨h.1.os, h.1.tape, h.1.output, h.1.size, h.1.block⟩, h.2⟩
theorem made_fin {B bm n g : Nat} {w w4 : World} {s : Stm} {E : Env} {ns : List UInt8} {u0 u1 u2 u3 u4 u5 u6 : Value} (hK : KeepM B w w4) (hM : MakerAt B bm E ns w4) (hg : w4.heap[g]? = some (.cells #[u0, u1, u2, u3, u4, u5, u6] 60 (0, 0))) (hgl : w.heap.size ≤ g)
    (hS : SRep w.heap.size w4.heap.size w4 13 n (.agg #[u0, u1, u2, u3, u4, u5, u6]) s) : MadeS B bm n w ([s], E, ns) (.returned (.slice (some ⟨g, 0, none⟩) 1 1)) w4 :=
  ⟨_, rfl, stms1 hg hgl (heap_lt hg) hS, hM, hK⟩
theorem ERep.keep {B lo hi lo' n : Nat} {w w' : World} {v : Value} {t : Tree} (h : ERep lo hi w n v t) (hlo : lo' ≤ lo) (hhi : hi ≤ w.heap.size) (hK : KeepM B w w') : ERep lo' w'.heap.size w' n v t := h.carry hlo (by have := hK.size; omega) (hK.same35 lo hi)
theorem Stms.keep {B lo hi lo' n : Nat} {w w' : World} {v : Value} {ss : List Stm} (h : Stms lo hi w (fun v' s' => SRep lo hi w 13 n v' s') v ss) (hlo : lo' ≤ lo) (hhi : hi ≤ w.heap.size) (hK : KeepM B w w') : Stms lo' w'.heap.size w' (fun v' s' => SRep lo' w'.heap.size w' 13 n v' s') v ss :=
  h.carry hlo (by have := hK.size; omega) (hK.same45 lo hi) fun _ _ hr => hr.carry hlo (by have := hK.size; omega) (hK.same35 lo hi) (hK.same45 lo hi)
theorem keep_new {B p : Nat} {w w' : World} {cs : Array Value} {fr : Nat × Nat} (hK : KeepM B w w') (h : w.heap[p]? = some (.cells cs 57 fr)) : w'.heap[p]? = some (.cells cs 57 fr) := hK.2 p cs _ fr h (by decide) (by decide) (by decide) (by decide)
theorem KeepM.one {B : Nat} {w w' : World} (o : Obj) (hB : B ≤ w.heap.size) (hb : Below (w.alloc o).heap.size (w.alloc o) w') : KeepM B w w' := ((KeepM.refl B w).alloc hB o).trans (KeepM.of_below (by rw [alloc_size]; omega) hb)

section
variable {B bm n g : Nat} {w w1 w2 wE w3 w4 : World} {k : Int} {s : ByteArray} {E : Env} {ns : List UInt8} {t : Tree} {x0 x1 x2 x3 x4 x5 : Value}
/-- A local: its name is made ahead of the list. -/
theorem local_A (hs : s.size ≤ 35184372088832) (hB : B ≤ w.heap.size) (hK : KeepM B w w2) (hE : ERep w1.heap.size w2.heap.size w2 13 (.agg #[x0, x1, x2, x3, x4, x5]) t) (hz : w.heap.size ≤ w1.heap.size) (hW : w2.alloc (.cells #[x0, x1, x2, x3, x4, x5] 57) = wE)
    (hK3 : KeepM B wE w3) (hM3 : MakerAt B bm E ns w3) (hb4 : Below (w3.alloc (.cells #[x0, x1, x2, x3, x4, x5] 57)).heap.size (w3.alloc (.cells #[x0, x1, x2, x3, x4, x5] 57)) w4) (hgl : (w3.alloc (.cells #[x0, x1, x2, x3, x4, x5] 57)).heap.size ≤ g)
    (hg4 : w4.heap[g]? = some (.cells #[.int .i64 k, .string s, .slice (some ⟨w3.heap.size, 0, none⟩) 1 1, .int .i64 0, .slice none 0 0, .slice none 0 0, .int .i64 0] 60 (0, 0))) :
    MadeS B bm (n + 1) w ([stmE k s [t]], E, ns) (.returned (.slice (some ⟨g, 0, none⟩) 1 1)) w4 := by
  subst hW
  have z2 := hK.size
  have z3 := hK3.size
  have z4 := hb4.size
  rw [alloc_size] at z3 z4 hgl
  have hK23 : KeepM B w2 w3 := ((KeepM.refl B w2).alloc (by omega) _).trans hK3
  have hK34 : KeepM B w3 w4 := KeepM.one _ (by omega) hb4
  have hp : w4.heap[w3.heap.size]? = some (.cells #[x0, x1, x2, x3, x4, x5] 57 (0, 0)) := by rw [hb4.block _ (by rw [alloc_size]; omega), alloc_at, if_pos rfl]
  have hb : Below w3.heap.size w3 w4 := ((Below.refl w3.heap.size w3).alloc (Nat.le_refl _) _).trans (hb4.mono (by rw [alloc_size]; omega))
  exact made_fin ((hK.trans hK23).trans hK34) (hM3.below hb) hg4 (by omega) (srepE (es := [t]) hs (kids1 hp (by omega) (by omega) (hE.keep hz (Nat.le_refl _) (hK23.trans hK34))))
/-- .. behind it. -/
theorem local_B (hs : s.size ≤ 35184372088832) (hB : B ≤ w.heap.size) (hK : KeepM B w w2) (hE : ERep w1.heap.size w2.heap.size w2 13 (.agg #[x0, x1, x2, x3, x4, x5]) t) (hz : w.heap.size ≤ w1.heap.size) (hW : w2.alloc (.cells #[x0, x1, x2, x3, x4, x5] 57) = wE)
    (hK3 : KeepM B (wE.alloc (.cells #[x0, x1, x2, x3, x4, x5] 57)) w3) (hM3 : MakerAt B bm E ns w3) (hb4 : Below w3.heap.size w3 w4) (hgl : w3.heap.size ≤ g)
    (hg4 : w4.heap[g]? = some (.cells #[.int .i64 k, .string s, .slice (some ⟨wE.heap.size, 0, none⟩) 1 1, .int .i64 0, .slice none 0 0, .slice none 0 0, .int .i64 0] 60 (0, 0))) :
    MadeS B bm (n + 1) w ([stmE k s [t]], E, ns) (.returned (.slice (some ⟨g, 0, none⟩) 1 1)) w4 := by
  subst hW
  have z2 := hK.size
  have z3 := hK3.size
  have z4 := hb4.size
  have hp3 := keep_new hK3 (p := (w2.alloc (.cells #[x0, x1, x2, x3, x4, x5] 57)).heap.size) (heap_alloc_new _ _)
  have hK23 : KeepM B w2 w3 := (((KeepM.refl B w2).alloc (by omega) _).alloc (by rw [alloc_size]; omega) _).trans hK3
  have hK34 : KeepM B w3 w4 := KeepM.of_below (by rw [alloc_size, alloc_size] at z3; omega) hb4
  rw [alloc_size] at z3 hp3 hg4
  rw [alloc_size] at z3
  exact made_fin ((hK.trans hK23).trans hK34) (hM3.below hb4) hg4 (by omega) (srepE (es := [t]) hs (kids1 (keep_new hK34 hp3) (by omega) (by omega) (hE.keep hz (Nat.le_refl _) (hK23.trans hK34))))
/-- A cell that is stored into. -/
theorem store_A {t' : Tree} {y0 y1 y2 y3 y4 y5 : Value} (hs : s.size ≤ 35184372088832) (hB : B ≤ w.heap.size) (hK : KeepM B w w2) (hE : ERep w1.heap.size w2.heap.size w2 12 (.agg #[x0, x1, x2, x3, x4, x5]) t) (hz : w.heap.size ≤ w1.heap.size) (hW : w2.alloc (.cells #[x0, x1, x2, x3, x4, x5] 57) = wE)
    (hE3 : ERep wE.heap.size w3.heap.size w3 13 (.agg #[y0, y1, y2, y3, y4, y5]) t') (hK3 : KeepM B wE w3) (hM3 : MakerAt B bm E ns w3) (hb4 : Below (w3.alloc (.cells #[x0, x1, x2, x3, x4, x5, y0, y1, y2, y3, y4, y5] 57)).heap.size (w3.alloc (.cells #[x0, x1, x2, x3, x4, x5, y0, y1, y2, y3, y4, y5] 57)) w4) (hgl : (w3.alloc (.cells #[x0, x1, x2, x3, x4, x5, y0, y1, y2, y3, y4, y5] 57)).heap.size ≤ g)
    (hg4 : w4.heap[g]? = some (.cells #[.int .i64 k, .string s, .slice (some ⟨w3.heap.size, 0, none⟩) 2 2, .int .i64 0, .slice none 0 0, .slice none 0 0, .int .i64 0] 60 (0, 0))) :
    MadeS B bm (n + 1) w ([stmE k s [t, t']], E, ns) (.returned (.slice (some ⟨g, 0, none⟩) 1 1)) w4 := by
  subst hW
  have z2 := hK.size
  have z3 := hK3.size
  have z4 := hb4.size
  rw [alloc_size] at z3 z4 hgl hE3
  have hK23 : KeepM B w2 w3 := ((KeepM.refl B w2).alloc (by omega) _).trans hK3
  have hK34 : KeepM B w3 w4 := KeepM.one _ (by omega) hb4
  have hp : w4.heap[w3.heap.size]? = some (.cells #[x0, x1, x2, x3, x4, x5, y0, y1, y2, y3, y4, y5] 57 (0, 0)) := by rw [hb4.block _ (by rw [alloc_size]; omega), alloc_at, if_pos rfl]
  have hb : Below w3.heap.size w3 w4 := ((Below.refl w3.heap.size w3).alloc (Nat.le_refl _) _).trans (hb4.mono (by rw [alloc_size]; omega))
  exact made_fin ((hK.trans hK23).trans hK34) (hM3.below hb) hg4 (by omega) (srepE (es := [t, t']) hs (kids2 hp (by omega) (by omega) ((hE.up (by omega)).keep hz (Nat.le_refl _) (hK23.trans hK34)) (hE3.keep (by omega) (Nat.le_refl _) hK34)))
/-- A branch: what stands at its end, wherever the list of its condition was made. -/
theorem if_fin {w5 : World} {wa wb : World} {b1 b2 : List Stm} {v1 v2 : Value} {p : Nat} (hB : B ≤ w.heap.size) (hK : KeepM B w w2) (hE : ERep w1.heap.size w2.heap.size w2 13 (.agg #[x0, x1, x2, x3, x4, x5]) t) (hz : w.heap.size ≤ w1.heap.size)
    (hKa : KeepM B w2 wa) (hS1 : Stms wa.heap.size w3.heap.size w3 (fun v' s' => SRep wa.heap.size w3.heap.size w3 13 n v' s') v1 b1) (hK3 : KeepM B wa w3) (hKb : KeepM B w3 wb) (hS2 : Stms wb.heap.size w4.heap.size w4 (fun v' s' => SRep wb.heap.size w4.heap.size w4 13 n v' s') v2 b2) (hK4 : KeepM B wb w4) (hK5 : KeepM B w4 w5) (hM : MakerAt B bm E ns w5)
    (hp : w5.heap[p]? = some (.cells #[x0, x1, x2, x3, x4, x5] 57 (0, 0))) (hpl : w.heap.size ≤ p) (hgl : w.heap.size ≤ g)
    (hg5 : w5.heap[g]? = some (.cells #[.int .i64 3, .string ⟨#[]⟩, .slice (some ⟨p, 0, none⟩) 1 1, .int .i64 0, v1, v2, .int .i64 0] 60 (0, 0))) :
    MadeS B bm (n + 1) w ([⟨3, ⟨#[]⟩, [t], 0, b1, b2, 0⟩], E, ns) (.returned (.slice (some ⟨g, 0, none⟩) 1 1)) w5 := by
  have z2 := hK.size
  have za := hKa.size
  have z3 := hK3.size
  have zb := hKb.size
  refine made_fin (((((hK.trans hKa).trans hK3).trans hKb).trans hK4).trans hK5) hM hg5 hgl ?_
  have e1 : ∃ ao cap, v1 = .slice ao b1.length cap := by obtain ⟨ao, cap, e, _⟩ := hS1; exact ⟨ao, cap, e⟩
  have e2 : ∃ ao cap, v2 = .slice ao b2.length cap := by obtain ⟨ao, cap, e, _⟩ := hS2; exact ⟨ao, cap, e⟩
  obtain ⟨ao1, cap1, rfl⟩ := e1
  obtain ⟨ao2, cap2, rfl⟩ := e2
  refine ⟨by simp, by simp, by simp [ByteArray.size], _, _, _, _, _, _, rfl, kids1 hp hpl (heap_lt hp) (hE.keep hz (Nat.le_refl _) ((((hKa.trans hK3).trans hKb).trans hK4).trans hK5)), ?_, ?_⟩
  · exact hS1.keep (by omega) (Nat.le_refl _) ((hKb.trans hK4).trans hK5)
  · exact hS2.keep (by omega) (Nat.le_refl _) hK5
end

section
variable {B bm n g : Nat} {w w1 w2 wE w3 w4 w5 : World} {E : Env} {ns : List UInt8} {t : Tree} {x0 x1 x2 x3 x4 x5 v1 v2 : Value} {b1 b2 : List Stm}
theorem if_A (hB : B ≤ w.heap.size) (hK : KeepM B w w2) (hE : ERep w1.heap.size w2.heap.size w2 13 (.agg #[x0, x1, x2, x3, x4, x5]) t) (hz : w.heap.size ≤ w1.heap.size) (hW : w2.alloc (.cells #[x0, x1, x2, x3, x4, x5] 57) = wE)
    (hS1 : Stms (wE.alloc (.cells #[x0, x1, x2, x3, x4, x5] 57)).heap.size w3.heap.size w3 (fun v' s' => SRep (wE.alloc (.cells #[x0, x1, x2, x3, x4, x5] 57)).heap.size w3.heap.size w3 13 n v' s') v1 b1) (hK3 : KeepM B (wE.alloc (.cells #[x0, x1, x2, x3, x4, x5] 57)) w3) (hS2 : Stms w3.heap.size w4.heap.size w4 (fun v' s' => SRep w3.heap.size w4.heap.size w4 13 n v' s') v2 b2) (hK4 : KeepM B w3 w4) (hM : MakerAt B bm E ns w4)
    (hb5 : Below w4.heap.size w4 w5) (hgl : w4.heap.size ≤ g)
    (hg5 : w5.heap[g]? = some (.cells #[.int .i64 3, .string ⟨#[]⟩, .slice (some ⟨wE.heap.size, 0, none⟩) 1 1, .int .i64 0, v1, v2, .int .i64 0] 60 (0, 0))) :
    MadeS B bm (n + 1) w ([⟨3, ⟨#[]⟩, [t], 0, b1, b2, 0⟩], E, ns) (.returned (.slice (some ⟨g, 0, none⟩) 1 1)) w5 := by
  subst hW
  have z2 := hK.size
  have z3 := hK3.size
  have z4 := hK4.size
  have z5 := hb5.size
  simp only [alloc_size] at z3 z4 z5 hgl
  have hp3 := keep_new hK3 (p := (w2.alloc (.cells #[x0, x1, x2, x3, x4, x5] 57)).heap.size) (heap_alloc_new _ _)
  have hKE : KeepM B w2 ((w2.alloc (.cells #[x0, x1, x2, x3, x4, x5] 57)).alloc (.cells #[x0, x1, x2, x3, x4, x5] 57)) := ((KeepM.refl B w2).alloc (by omega) _).alloc (by rw [alloc_size]; omega) _
  have hK5 : KeepM B w4 w5 := KeepM.of_below (by omega) hb5
  exact if_fin hB hK hE hz hKE hS1 hK3 (KeepM.refl B w3) hS2 hK4 hK5 (hM.below hb5) (keep_new hK5 (keep_new hK4 hp3)) (by rw [alloc_size]; omega) (by omega) hg5
theorem if_B (hB : B ≤ w.heap.size) (hK : KeepM B w w2) (hE : ERep w1.heap.size w2.heap.size w2 13 (.agg #[x0, x1, x2, x3, x4, x5]) t) (hz : w.heap.size ≤ w1.heap.size) (hW : w2.alloc (.cells #[x0, x1, x2, x3, x4, x5] 57) = wE)
    (hS1 : Stms wE.heap.size w3.heap.size w3 (fun v' s' => SRep wE.heap.size w3.heap.size w3 13 n v' s') v1 b1) (hK3 : KeepM B wE w3) (hS2 : Stms (w3.alloc (.cells #[x0, x1, x2, x3, x4, x5] 57)).heap.size w4.heap.size w4 (fun v' s' => SRep (w3.alloc (.cells #[x0, x1, x2, x3, x4, x5] 57)).heap.size w4.heap.size w4 13 n v' s') v2 b2) (hK4 : KeepM B (w3.alloc (.cells #[x0, x1, x2, x3, x4, x5] 57)) w4) (hM : MakerAt B bm E ns w4)
    (hb5 : Below w4.heap.size w4 w5) (hgl : w4.heap.size ≤ g)
    (hg5 : w5.heap[g]? = some (.cells #[.int .i64 3, .string ⟨#[]⟩, .slice (some ⟨w3.heap.size, 0, none⟩) 1 1, .int .i64 0, v1, v2, .int .i64 0] 60 (0, 0))) :
    MadeS B bm (n + 1) w ([⟨3, ⟨#[]⟩, [t], 0, b1, b2, 0⟩], E, ns) (.returned (.slice (some ⟨g, 0, none⟩) 1 1)) w5 := by
  subst hW
  have z2 := hK.size
  have z3 := hK3.size
  have z4 := hK4.size
  have z5 := hb5.size
  simp only [alloc_size] at z3 z4 z5 hgl
  have hp4 := keep_new hK4 (p := w3.heap.size) (heap_alloc_new _ _)
  have hKE : KeepM B w2 (w2.alloc (.cells #[x0, x1, x2, x3, x4, x5] 57)) := (KeepM.refl B w2).alloc (by omega) _
  have hK5 : KeepM B w4 w5 := KeepM.of_below (by omega) hb5
  exact if_fin hB hK hE hz hKE hS1 hK3 ((KeepM.refl B w3).alloc (by omega) _) hS2 hK4 hK5 (hM.below hb5) (keep_new hK5 hp4) (by omega) (by omega) hg5
theorem if_C (hB : B ≤ w.heap.size) (hK : KeepM B w w2) (hE : ERep w1.heap.size w2.heap.size w2 13 (.agg #[x0, x1, x2, x3, x4, x5]) t) (hz : w.heap.size ≤ w1.heap.size) (hW : w2.alloc (.cells #[x0, x1, x2, x3, x4, x5] 57) = wE)
    (hS1 : Stms wE.heap.size w3.heap.size w3 (fun v' s' => SRep wE.heap.size w3.heap.size w3 13 n v' s') v1 b1) (hK3 : KeepM B wE w3) (hS2 : Stms w3.heap.size w4.heap.size w4 (fun v' s' => SRep w3.heap.size w4.heap.size w4 13 n v' s') v2 b2) (hK4 : KeepM B w3 w4) (hM : MakerAt B bm E ns w4)
    (hb5 : Below (w4.alloc (.cells #[x0, x1, x2, x3, x4, x5] 57)).heap.size (w4.alloc (.cells #[x0, x1, x2, x3, x4, x5] 57)) w5) (hgl : (w4.alloc (.cells #[x0, x1, x2, x3, x4, x5] 57)).heap.size ≤ g)
    (hg5 : w5.heap[g]? = some (.cells #[.int .i64 3, .string ⟨#[]⟩, .slice (some ⟨w4.heap.size, 0, none⟩) 1 1, .int .i64 0, v1, v2, .int .i64 0] 60 (0, 0))) :
    MadeS B bm (n + 1) w ([⟨3, ⟨#[]⟩, [t], 0, b1, b2, 0⟩], E, ns) (.returned (.slice (some ⟨g, 0, none⟩) 1 1)) w5 := by
  subst hW
  have z2 := hK.size
  have z3 := hK3.size
  have z4 := hK4.size
  have z5 := hb5.size
  simp only [alloc_size] at z3 z4 z5 hgl
  have hKE : KeepM B w2 (w2.alloc (.cells #[x0, x1, x2, x3, x4, x5] 57)) := (KeepM.refl B w2).alloc (by omega) _
  have hK5 : KeepM B w4 w5 := KeepM.one _ (by omega) hb5
  have hp : w5.heap[w4.heap.size]? = some (.cells #[x0, x1, x2, x3, x4, x5] 57 (0, 0)) := by rw [hb5.block _ (by rw [alloc_size]; omega), alloc_at, if_pos rfl]
  have hb : Below w4.heap.size w4 w5 := ((Below.refl w4.heap.size w4).alloc (Nat.le_refl _) _).trans (hb5.mono (by rw [alloc_size]; omega))
  exact if_fin hB hK hE hz hKE hS1 hK3 (KeepM.refl B w3) hS2 hK4 hK5 (hM.below hb) hp (by omega) (by omega) hg5
end
end Go.Proofs.YtfginegegaokbaaGreatDoor
