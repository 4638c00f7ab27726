/- How a slice of integers among the arguments is opened, how it reads behind a call that makes new memory alone, and what the forms' bounds give. Conditions: as each theorem says. -/
import Derived.Test.YtlepckjmdjjolaaGreatDoorCards
import Derived.Test.YtlepckjmdjjolaaGreatDoorTie
import Derived.WalkKit
import Derived.ProofKit
import Derived.OpenShut
import Derived.SizedLaws
import Derived.JoinedCond
import Derived.ChangeSame
import Derived.ChangeVars
import Derived.JoinedOf
import Derived.RowKit
import Derived.RowKitTokens
import Derived.LaidLaws
import Derived.LaidMore
namespace Go.Proofs.YtlepckjmdjjolaaGreatDoor
open Go.ChangeShapes Go.WideShapes Go.ChangeAt Go.RowKit
set_option linter.unusedVariables false

/-- The slice value v holds the integers zs, in old memory. -/
def IntsAt (w : World) (k : IntKind) (v : Value) (zs : List Int) : Prop :=
  ∃ ao cap, v = .slice ao zs.length cap ∧ zs.length ≤ cap ∧ cap ≤ maxLen ∧ zs.length ≤ maxLen ∧ ∀ j, j < zs.length → ∃ b off, ao = some ⟨b, off, none⟩ ∧ b < w.heap.size ∧ w.cell? ⟨b, off + j, none⟩ = some (.int k (zs.getD j 0))

theorem getD_take {zs : List Int} {len j : Nat} (h : j < len) : (zs.take len).getD j 0 = zs.getD j 0 := by
  simp [List.getD, h]

theorem ints_open {H : Type} {enc : TypeId × Value → H} {P : Program} {W : World} {base : Nat} {t e : TypeId} {k : IntKind} {v : Value} {d : DataW H} {p : List MemPlace}
    (ht : P.underlying t = some (.slice e)) (he : P.underlying e = some (.int k)) (hc : P.cellsOf e = 1)
    (hval : Value.okWide P W .any base t v) (h : DataW.Trod enc P W 0 (fun _ => true) true t v d p) (hlt : ∀ x ∈ p, x.block < W.heap.size) :
    ∃ zs : List Int, IntsAt W k v zs ∧ (∀ n ∈ zs, (Lit.int k n).wf = true) ∧ ((d = .nil ∧ zs = []) ∨ ∃ sp, d = .slice (lits k zs) sp) := by
  obtain ⟨a0, len, cap, rfl⟩ := okWide_slice ht hval
  obtain ⟨fuel, hf⟩ := h
  rcases open_ints ht he hc hf with ⟨hcs, hx⟩ | ⟨a, len', cap', zs, hcs, _, hl, hm, hz, hx, hcell, hwz⟩
  · simp [Value.cells] at hcs
    obtain ⟨rfl, rfl, rfl⟩ := hcs
    simp only [Prod.mk.injEq] at hx
    obtain ⟨rfl, rfl⟩ := hx
    exact ⟨[], ⟨none, 0, rfl, by simp, by simp, by simp, fun j hj => by simp at hj⟩, by simp, .inl ⟨rfl, rfl⟩⟩
  · simp [Value.cells] at hcs
    obtain ⟨rfl, rfl, rfl⟩ := hcs
    simp only [Prod.mk.injEq] at hx
    obtain ⟨rfl, rfl⟩ := hx
    simp only [if_true] at hz
    have hlen : (zs.take len).length = len := by simp; omega
    refine ⟨zs.take len, ⟨some a, cap, by rw [hlen], by rw [hlen]; omega, hm, by rw [hlen]; omega, fun j hj => ?_⟩, fun n hn => hwz n (List.mem_of_mem_take hn), .inr ⟨_, rfl⟩⟩
    rw [hlen] at hj
    obtain ⟨b, off, spot⟩ := a
    have hspot : spot = none := by simpa [Addr.add] using World.cell?_spot (hcell 0 (by omega))
    subst hspot
    have hbW : b < W.heap.size := hlt (.cell b off) (MemPlace.mem_row.2 ⟨0, by omega, by simp⟩)
    refine ⟨b, off, rfl, hbW, ?_⟩
    rw [← add_plain, getD_take hj]
    exact hcell j (by omega)

/-- The form's own reach: what was read takes at most 2^47 - 4096 bytes. -/
theorem ints_reach {H : Type} {P : Program} {ts : List TypeId} {ds : List (DataW H)} {j : Nat} {t e : TypeId} {k : IntKind} {d : DataW H} {zs : List Int}
    (hsz : (DataW.weightsEach P ts ds).all (· ≤ reachBytes) = true) (hj : ts[j]? = some t) (hd : ds[j]? = some d) (ht : P.underlying t = some (.slice e))
    (h : (d = .nil ∧ zs = []) ∨ ∃ sp, d = .slice (lits k zs) sp) : zs.length * P.bytesOf e ≤ 140737488351232 := by
  rcases h with ⟨_, rfl⟩ | ⟨sp, rfl⟩
  · simp
  · have := sized_slice hsz hj hd ht
    simp only [lits, List.length_map, reachBytes] at this
    exact Nat.le_trans (Nat.mul_le_mul_right _ (Nat.le_add_right _ _)) this

/-- What a slice of integers weighs in the second form's bound: one for each. -/
theorem bulk_lits {H : Type} (k : IntKind) (zs : List Int) : Rows.uptoBulkAll (lits (H := H) k zs) = zs.length := by
  induction zs with
  | nil => rfl
  | cons z zs ih =>
    have e : Rows.uptoBulkAll (lits (H := H) k (z :: zs)) = 1 + Rows.uptoBulkAll (lits (H := H) k zs) := rfl
    rw [e, ih, List.length_cons]; omega

theorem bulk_mem {H : Type} {d : DataW H} : ∀ {l : List (DataW H)}, d ∈ l → Rows.uptoBulk d ≤ Rows.uptoBulkAll l
  | x :: r, h => by
    have e : Rows.uptoBulkAll (x :: r) = Rows.uptoBulk x + Rows.uptoBulkAll r := rfl
    rcases List.mem_cons.1 h with rfl | h'
    · omega
    · have := bulk_mem h'; omega

theorem bulk_bound {H : Type} {l : List (DataW H)} (hk : Rows.uptoSmall H l = true) : Rows.uptoBulkAll l ≤ 1048576 := of_decide_eq_true hk

/-- The second form's bound, at a slice of integers. -/
theorem ints_few {H : Type} {ds : List (DataW H)} {k : IntKind} {d : DataW H} {zs : List Int} (hk : Rows.uptoSmall H ds = true) (hm : d ∈ ds)
    (h : (d = .nil ∧ zs = []) ∨ ∃ sp, d = .slice (lits k zs) sp) : zs.length ≤ 1048576 := by
  rcases h with ⟨_, rfl⟩ | ⟨sp, rfl⟩
  · simp
  · have h1 := bulk_mem hm
    have h2 := bulk_bound hk
    have e : Rows.uptoBulk (DataW.slice (lits (H := H) k zs) sp) = Rows.uptoBulkAll (lits (H := H) k zs) + Rows.uptoBulkAll sp + 1 := rfl
    rw [e, bulk_lits] at h1
    omega

/-- The second form's bound, at a string. -/
theorem string_few {H : Type} {ds : List (DataW H)} {a : ByteArray} (hk : Rows.uptoSmall H ds = true) (hm : DataW.lit (.string a.data.toList) ∈ ds) : a.size ≤ 1048576 := by
  have h1 := bulk_mem hm
  have h2 := bulk_bound hk
  have e : Rows.uptoBulk (DataW.lit (H := H) (.string a.data.toList)) = a.data.toList.length + 1 := rfl
  have e2 : a.data.toList.length = a.size := by rw [Array.length_toList]; rfl
  omega

/-- The form's own reach, at a string. -/
theorem string_reach {H : Type} {P : Program} {ts : List TypeId} {ds : List (DataW H)} {j : Nat} {t : TypeId} {a : ByteArray}
    (hsz : (DataW.weightsEach P ts ds).all (· ≤ reachBytes) = true) (hj : ts[j]? = some t) (hd : ds[j]? = some (.lit (.string a.data.toList))) : a.size ≤ 140737488351232 := by
  have h := sized_string hsz hj hd
  have e2 : a.data.toList.length = a.size := by rw [Array.length_toList]; rfl
  simp only [reachBytes] at h
  omega
end Go.Proofs.YtlepckjmdjjolaaGreatDoor
