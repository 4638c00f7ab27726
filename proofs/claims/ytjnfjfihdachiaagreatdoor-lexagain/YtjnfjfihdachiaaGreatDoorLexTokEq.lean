/- Two tokens that are the same compare as such. Conditions: none. -/
import Derived.Test.YtjnfjfihdachiaaGreatDoorLexFrame
import Derived.Laws.StructEq
namespace Go.Proofs.YtjnfjfihdachiaaGreatDoor
open Go.ChangeShapes Go.WideShapes Go.ChangeAt Go.RowKit

theorem tokU : Tryz.prog.underlying 32 = some (.struct (Tryz.prog.fieldsOf 32)) := by kernel_rfl
theorem tokH : Tryz.prog.stoodInHeld 32 = false := by kernel_rfl
theorem tokG : Tryz.prog.eqGuardType Tryz.prog.depth 32 = false := by kernel_rfl
theorem tokF : (Tryz.prog.fieldsOf 32).toList.map (fun f => (f.name, f.type, f.offset)) = [("Kind", 29, 0), ("Text", 9, 1), ("Value", 30, 2), ("At", 3, 3)] := by kernel_rfl
theorem tok_same (a c d : Int) (b : ByteArray) (w : World) : (Op.equalIn 10000 32 (.agg #[.int .i64 a, .string b, .int .u64 c, .int .i64 d]) (.agg #[.int .i64 a, .string b, .int .u64 c, .int .i64 d])).run Tryz.prog w = .ok true w := by
  rw [run_equalIn_agg w 9999 32 _ _ tokU tokH]
  have hF := tokF
  generalize (Tryz.prog.fieldsOf 32).toList = fs at hF
  obtain ⟨f0, r0, rfl, h0, hF⟩ := List.map_eq_cons_iff.1 hF
  obtain ⟨f1, r1, rfl, h1, hF⟩ := List.map_eq_cons_iff.1 hF
  obtain ⟨f2, r2, rfl, h2, hF⟩ := List.map_eq_cons_iff.1 hF
  obtain ⟨f3, r3, rfl, h3, hF⟩ := List.map_eq_cons_iff.1 hF
  obtain rfl := List.map_eq_nil_iff.1 hF
  simp only [Prod.mk.injEq] at h0 h1 h2 h3
  obtain ⟨n0, t0, o0⟩ := h0
  obtain ⟨n1, t1, o1⟩ := h1
  obtain ⟨n2, t2, o2⟩ := h2
  obtain ⟨n3, t3, o3⟩ := h3
  simp [Op.eqFields, n0, t0, o0, n1, t1, o1, n2, t2, o2, n3, t3, o3, go_sem]
end Go.Proofs.YtjnfjfihdachiaaGreatDoor
