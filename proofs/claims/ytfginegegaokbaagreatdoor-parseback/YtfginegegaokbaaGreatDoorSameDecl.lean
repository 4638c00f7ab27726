/- What tree.sameDecl answers, when it is called. Conditions: none. -/
import Derived.Test.YtfginegegaokbaaGreatDoorSameStmt
import Derived.Test.YtfginegegaokbaaGreatDoorTextAll
import Derived.Laws.StructEq
namespace Go.Proofs.YtfginegegaokbaaGreatDoor
open Go.ChangeShapes Go.WideShapes Go.ChangeAt Go.RowKit
set_option linter.unusedVariables false
set_option linter.unusedSimpArgs false

theorem dclU : Tryz.prog.underlying 68 = some (.struct (Tryz.prog.fieldsOf 68)) := by kernel_rfl
theorem dclH : Tryz.prog.stoodInHeld 68 = false := by kernel_rfl
theorem dclG : Tryz.prog.eqGuardType Tryz.prog.depth 68 = false := by kernel_rfl
theorem dclF : (Tryz.prog.fieldsOf 68).toList.map (fun f => (f.name, f.type, f.offset)) = [("Lock", 4, 0), ("Label", 66, 1), ("Name", 9, 2), ("Size", 3, 3), ("By", 9, 4), ("At", 3, 5)] := by kernel_rfl
/-- The same declaration but for where it stands. -/
def deqD (d e : Dcl) : Bool := decide (d.lock = e.lock) && decide (d.label = e.label) && decide (d.name = e.name) && decide (d.size = e.size) && decide (d.by_ = e.by_)
theorem bq_true (a : ByteArray) : (a.toList == a.toList) = true := by simp
theorem decl_eq (a0 b0 : Bool) (a1 b1 a3 b3 : Int) (a2 b2 a4 b4 : ByteArray) (w : World) : (Op.equalIn 10000 68 (.agg #[.bool a0, .int .i64 a1, .string a2, .int .i64 a3, .string a4, .int .i64 0]) (.agg #[.bool b0, .int .i64 b1, .string b2, .int .i64 b3, .string b4, .int .i64 0])).run Tryz.prog w = .ok (decide (a0 = b0) && decide (a1 = b1) && decide (a2 = b2) && decide (a3 = b3) && decide (a4 = b4)) w := by
  rw [run_equalIn_agg w 9999 68 _ _ dclU dclH]
  have hF := dclF
  generalize (Tryz.prog.fieldsOf 68).toList = fs at hF
  obtain ⟨f0, r0, rfl, h0, hF⟩ := List.map_eq_cons_iff.1 hF
  obtain ⟨f1, r1, rfl, h1, hF⟩ := List.map_eq_cons_iff.1 hF
  obtain ⟨f2, r2, rfl, h2, hF⟩ := List.map_eq_cons_iff.1 hF
  obtain ⟨f3, r3, rfl, h3, hF⟩ := List.map_eq_cons_iff.1 hF
  obtain ⟨f4, r4, rfl, h4, hF⟩ := List.map_eq_cons_iff.1 hF
  obtain ⟨f5, r5, rfl, h5, hF⟩ := List.map_eq_cons_iff.1 hF
  obtain rfl := List.map_eq_nil_iff.1 hF
  simp only [Prod.mk.injEq] at h0 h1 h2 h3 h4 h5
  obtain ⟨n0, t0, o0⟩ := h0
  obtain ⟨n1, t1, o1⟩ := h1
  obtain ⟨n2, t2, o2⟩ := h2
  obtain ⟨n3, t3, o3⟩ := h3
  obtain ⟨n4, t4, o4⟩ := h4
  obtain ⟨n5, t5, o5⟩ := h5
  by_cases e0 : a0 = b0
  · subst e0
    by_cases e1 : a1 = b1
    · subst e1
      by_cases e2 : a2 = b2
      · subst e2
        by_cases e3 : a3 = b3
        · subst e3
          by_cases e4 : a4 = b4
          · subst e4
            simp [Op.eqFields, n0, t0, o0, n1, t1, o1, n2, t2, o2, n3, t3, o3, n4, t4, o4, n5, t5, o5, go_sem]
          · have q := str_ne' e4
            simp [Op.eqFields, n0, t0, o0, n1, t1, o1, n2, t2, o2, n3, t3, o3, n4, t4, o4, n5, t5, o5, go_sem, e4, q]
        · simp [Op.eqFields, n0, t0, o0, n1, t1, o1, n2, t2, o2, n3, t3, o3, n4, t4, o4, n5, t5, o5, go_sem, e3]
      · have q := str_ne' e2
        simp [Op.eqFields, n0, t0, o0, n1, t1, o1, n2, t2, o2, n3, t3, o3, n4, t4, o4, n5, t5, o5, go_sem, e2, q]
    · simp [Op.eqFields, n0, t0, o0, n1, t1, o1, n2, t2, o2, n3, t3, o3, n4, t4, o4, n5, t5, o5, go_sem, e1]
  · simp [Op.eqFields, n0, t0, o0, n1, t1, o1, n2, t2, o2, n3, t3, o3, n4, t4, o4, n5, t5, o5, go_sem, e0]
set_option maxHeartbeats 1000000 in
set_option maxRecDepth 100000 in
theorem sameDecl_any (d e : Dcl) (w : World) :
    Calls Tryz.prog 32 #[.agg #[.bool d.lock, .int .i64 d.label, .string d.name, .int .i64 d.size, .string d.by_, .int .i64 d.at_], .agg #[.bool e.lock, .int .i64 e.label, .string e.name, .int .i64 e.size, .string e.by_, .int .i64 e.at_]] w fun x w' => x = .returned (.bool (deqD d e)) ∧ Below w.heap.size w w' := by
  have hq := fun w => decl_eq d.lock e.lock d.label e.label d.size e.size d.name e.name d.by_ e.by_ w
  have HD : Hid (deqD d e = (decide (d.lock = e.lock) && decide (d.label = e.label) && decide (d.name = e.name) && decide (d.size = e.size) && decide (d.by_ = e.by_))) := rfl
  have hG := dclG
  go_enter Tryz.func32, Tryz.ntmps32
  go_wp2
  go_ret
  refine ⟨by rw [HD.out]; simp, ?_⟩
  repeat (first | exact Below.refl _ _ | refine Below.setCell ?_ (by simp) _ | refine Below.alloc ?_ (by simp) _)
end Go.Proofs.YtfginegegaokbaaGreatDoor
