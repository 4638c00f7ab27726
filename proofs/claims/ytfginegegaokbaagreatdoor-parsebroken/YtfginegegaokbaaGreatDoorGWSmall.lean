/- Own texts laid together: PGrow, WNums, WCells, WTold. Conditions: as each theorem says. -/
import Derived.Test.YtfginegegaokbaaGreatDoorGMakeZ
import Derived.Test.YtfginegegaokbaaGreatDoorIntsFrame
import Derived.Test.YtfginegegaokbaaGreatDoorGPReadA
import Derived.Test.YtfginegegaokbaaGreatDoorGPProgA
set_option linter.unusedVariables false
set_option linter.unusedSimpArgs false
namespace Go.Proofs.YtfginegegaokbaaGreatDoor.Pr
open Go.ChangeShapes Go.WideShapes Go.ChangeAt Go.RowKit
theorem SRep.wide {lo B m m' : Nat} {w : World} (hm : m <= m') : ∀ {n n' : Nat} {v : Value} {s : Stm}, n <= n' -> SRep lo B w m n v s -> SRep lo B w m' n' v s
  | 0, _, _, _, _, h => h.elim
  | n + 1, 0, _, _, hn, _ => by omega
  | n + 1, n' + 1, _, _, hn, ⟨h1, h2, h3, eao, ecap, bao, bcap, lao, lcap, h4, h5, h6, h7⟩ =>
    ⟨h1, h2, h3, eao, ecap, bao, bcap, lao, lcap, h4, h5.carry (Nat.le_refl _) (Nat.le_refl _) (fun _ _ _ _ _ h => h) (fun _ _ hr => ERep.up hr hm), h6.carry (Nat.le_refl _) (Nat.le_refl _) (fun _ _ _ _ _ h => h) (fun _ _ hr => SRep.wide hm (by omega) hr), h7.carry (Nat.le_refl _) (Nat.le_refl _) (fun _ _ _ _ _ h => h) (fun _ _ hr => SRep.wide hm (by omega) hr)⟩
theorem Dcls.grow {lo B B' : Nat} {w w' : World} {v : Value} {ds : List Dcl} (h : Dcls lo B w v ds) (hb : Below B w w') (hB : B <= B') : Dcls 0 B' w' v ds := by
  obtain ⟨ao, cap, rfl, hl, h⟩ := h.on hb
  refine ⟨ao, cap, rfl, hl, fun i d hd => ?_⟩
  obtain ⟨hf, g, off, e, hlo, hg, r⟩ := h i d hd
  exact ⟨hf, g, off, e, Nat.zero_le _, by omega, r⟩
theorem Thrs.grow {lo B B' m n m' n' : Nat} {w w' : World} {v : Value} {ts : List (List Stm)} (h : Thrs lo B m n w v ts) (hb : Below B w w') (hB : B <= B') (hm : m <= m') (hn : n <= n') : Thrs 0 B' m' n' w' v ts := by
  obtain ⟨ao, cap, rfl, hl, h⟩ := h.on hb
  refine ⟨ao, cap, rfl, hl, fun i ss hs => ?_⟩
  obtain ⟨g, off, tao, tcap, e, hlo, hg, hc, h0, h1⟩ := h i ss hs
  exact ⟨g, off, tao, tcap, e, Nat.zero_le _, by omega, hc, h0, h1.carry (Nat.zero_le _) hB (fun _ _ _ _ _ h => h) fun _ _ hr => SRep.wide hm hn (hr.carry (Nat.zero_le _) hB (Same35.refl _ _ _) (fun _ _ _ _ _ h => h))⟩
end Go.Proofs.YtfginegegaokbaaGreatDoor.Pr
namespace Go.Proofs.YtfginegegaokbaaGreatDoor
open Go.ChangeShapes Go.WideShapes Go.ChangeAt Go.RowKit
def byteL (zs : List Int) : List UInt8 := zs.map fun z => UInt8.ofNat z.toNat
theorem u8_wf {z : Int} (h : (Lit.int .u8 z).wf = true) : 0 <= z /\ z < 256 := by
  simp [Lit.wf] at h
  have h1 : IntKind.u8.min = 0 := rfl
  have h2 : IntKind.u8.max = 255 := rfl
  omega
theorem nsAt_of_ints {w : World} {v : Value} {zs : List Int} (h : IntsAt w .u8 v zs) (hz : ∀ n ∈ zs, (Lit.int .u8 n).wf = true) (m : Nat) (hm : m <= zs.length) :
    ∃ ao cap, v = .slice ao zs.length cap /\ zs.length <= cap /\ NsAt w.heap.size w (.slice ao m cap) ((byteL zs).take m) := by
  obtain ⟨ao, cap, rfl, hc, hcm, hl, hi⟩ := h
  refine ⟨ao, cap, rfl, hc, ao, cap, by simp [byteL]; omega, by simp [byteL]; omega, by unfold maxLen at hcm; omega, fun i x hx => ?_⟩
  have him : i < m := by
    rcases Nat.lt_or_ge i m with h | h
    · exact h
    · rw [List.getElem?_eq_none (by simp; omega)] at hx; cases hx
  obtain ⟨b, off, rfl, hb, hcell⟩ := hi i (by omega)
  refine ⟨b, off, rfl, hb, ?_⟩
  have hx' : (byteL zs)[i]? = some x := by rw [List.getElem?_take, if_pos him] at hx; exact hx
  have hiz : i < zs.length := by omega
  simp [byteL, hiz] at hx'
  have hw := u8_wf (hz zs[i] (List.getElem_mem hiz))
  have hg : zs.getD i 0 = zs[i] := by simp [hiz]
  rw [hcell, hg, <- hx']
  congr 2
  simp
  omega
end Go.Proofs.YtfginegegaokbaaGreatDoor
namespace Go.Proofs.YtfginegegaokbaaGreatDoor.Pr
open Go.ChangeShapes Go.WideShapes Go.ChangeAt Go.RowKit
theorem some_at {α : Type} {l : List α} {i : Nat} (h : i < l.length) : ∃ x, l[i]? = some x := ⟨_, List.getElem?_eq_getElem h⟩
theorem tok_cells {w w' : World} {g i : Nat} {ts : List Lx.Tok} {t : Lx.Tok} (h : ToksAt w g 0 ts) (ht : ts[i]? = some t) (hg : g < w.heap.size) (hb : Below w.heap.size w w') :
    fitT t /\ w'.cell? ⟨g, i * 4, none⟩ = some (.int .i64 (t.kind : Int)) /\ w'.cell? ⟨g, i * 4 + 1, none⟩ = some (.string (bstr t.text)) /\ w'.cell? ⟨g, i * 4 + 2, none⟩ = some (.int .u64 (t.value : Int)) /\ w'.cell? ⟨g, i * 4 + 3, none⟩ = some (.int .i64 (t.at_ : Int)) := by
  obtain ⟨hf, c0, c1, c2, c3⟩ := h.2 i t ht
  rw [Nat.zero_add] at c0 c1 c2 c3
  have key : ∀ o, w'.cell? ⟨g, o, none⟩ = w.cell? ⟨g, o, none⟩ := fun o => hb.cell (p := ⟨g, o, none⟩) hg
  exact ⟨hf, (key _).trans c0, (key _).trans c1, (key _).trans c2, (key _).trans c3⟩
set_option maxHeartbeats 1000000 in
theorem told_any (n : Nat) (h : n = 1 \/ n = 2 \/ n = 6) (w : World) : Calls Tryz.prog 16 #[.int .i64 (n : Int)] w fun e w' => e = .returned (.bool true) /\ w' = w := by
  rcases h with rfl | rfl | rfl
  all_goals
    go_enter Tryz.func16, Tryz.ntmps16
    go_wp2
    go_ret
    exact ⟨rfl, rfl⟩
end Go.Proofs.YtfginegegaokbaaGreatDoor.Pr
