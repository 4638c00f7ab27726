/- What the maker's enter, and the closure that makes one statement a list, do when they are called. Conditions: the maker lies in a block of its own. -/
import Derived.Test.YtfginegegaokbaaGreatDoorMakeEnter
namespace Go.Proofs.YtfginegegaokbaaGreatDoor
open Go.ChangeShapes Go.WideShapes Go.ChangeAt Go.RowKit
set_option linter.unusedVariables false
set_option linter.unusedSimpArgs false

theorem cat_x2 (a b : UInt8) : (⟨#[a]⟩ : ByteArray) ++ ⟨#[b]⟩ = ⟨#[a, b]⟩ := by apply ByteArray.ext; simp [ByteArray.data_append]
theorem cat_x3 (a b c : UInt8) : (⟨#[a, b]⟩ : ByteArray) ++ ⟨#[c]⟩ = ⟨#[a, b, c]⟩ := by apply ByteArray.ext; simp [ByteArray.data_append]
theorem cat_x4 (a b c d : UInt8) : (⟨#[a, b, c]⟩ : ByteArray) ++ ⟨#[d]⟩ = ⟨#[a, b, c, d]⟩ := by apply ByteArray.ext; simp [ByteArray.data_append]
theorem einv_maker {X : EC} {g : EG} {w : World} (h : EInv X true true true true true true true true true g w) (ht : X.E.thread ≤ 9) (hd : X.E.deep ≤ 100) (hl : X.E.loc.length ≤ 99) (hn : X.nm = nameX X.E) : MakerAt X.B X.bm (enterE X.E X.sec X.cnt) X.ns w := by
  obtain ⟨h1, h2, h3, h4, r1, r2, r3, r4, r5, r6, b1, b2, b3⟩ := h
  have e : (enterE X.E X.sec X.cnt).loc.length = X.E.loc.length + 1 := by simp [enterE]
  refine ⟨h2, X.nv, g.l, g.s, g.c, h3, h4, ?_, ?_, ?_, ht, hd, by rw [e]; omega⟩
  · rw [e]; simpa [enterE, hn] using r2 rfl
  · rw [e]; simpa [enterE] using r4 rfl
  · rw [e]; simpa [enterE] using r6 rfl

theorem EInv.drewN {X : EC} {l8 l9 l15 l16 l22 l23 l26 l29 l32 : Bool} {g : EG} {w : World} (h : EInv X l8 l9 l15 l16 l22 l23 l26 l29 l32 g w) : ∀ n, EInv X l8 l9 l15 l16 l22 l23 l26 l29 l32 g (w.drewN n)
  | 0 => h
  | n + 1 => (EInv.drewN h n).drew
set_option maxHeartbeats 2000000 in
set_option maxRecDepth 100000 in
theorem enter_any (B bm : Nat) (E : Env) (ns : List UInt8) (sec : Bool) (cnt : Int) (w : World) (h : MakerAt B bm E ns w) (hlen : E.loc.length ≤ 99) :
    Calls Tryz.prog 70 #[.pointer (some ⟨bm, 0, none⟩), .bool sec, .int .i64 cnt] w fun e w' => e = .returned (.string (nameX E)) ∧ MakerAt B bm (enterE E sec cnt) ns w' ∧ KeepM B w w' := by
  have hB := h.base
  obtain ⟨h1, nv, lv, sv, cv, h2, h3, h4, h5, h6, h7, h8, h9⟩ := h
  obtain ⟨a0, a1, a2, a3, a4, a5, a6⟩ := seven_cells h2
  obtain ⟨lao, lcap, rfl, _⟩ := own_slice h4
  have D1 := fun w => digit_any E.thread (by omega) w
  have D2 : ∀ w, Calls Tryz.prog 22 #[.int .i64 ((E.loc.length : Int) / 10)] w _ := fun w => digit_any (E.loc.length / 10) (by omega) w
  have D3 := fun w => digit_any E.loc.length (by omega) w
  have c2 := cat_x2 120 (digitB E.thread)
  have c3 := cat_x3 120 (digitB E.thread) (digitB (E.loc.length / 10))
  have c4 := cat_x4 120 (digitB E.thread) (digitB (E.loc.length / 10)) (digitB E.loc.length)
  have I0 : Hid (EInv ⟨B, bm, w, E, ns, nameX E, sec, cnt, nv, .slice lao E.loc.length lcap, sv, cv⟩ false false false false false false false false false ⟨0, 0, 0, .slice lao E.loc.length lcap, sv, cv⟩ w) :=
    ⟨KeepM.refl _ _, h1, h2, h3, fun _ => h4, (fun e => by cases e), fun _ => h5, (fun e => by cases e), fun _ => h6, (fun e => by cases e), (fun e => by cases e), (fun e => by cases e), (fun e => by cases e)⟩
  clear h2 h3 h4 h5 h6
  go_enter Tryz.func70, Tryz.ntmps70
  go_wp2
  go_quiet ((first | (go_at_call 22; exact Calls.quiet_of_same (D1 _)) | (go_at_call 22; exact Calls.quiet_of_same (D2 _)) | (go_at_call 22; exact Calls.quiet_of_same (D3 _))))
  go_wp2
  refine enter_region ⟨B, bm, w, E, ns, nameX E, sec, cnt, nv, .slice lao E.loc.length lcap, sv, cv⟩ (EInv.drewN I0.out _) (by rfl) (by rfl) (by rfl) (by rfl) (by rfl) hlen ?_
  intro g w' hI
  have hM := einv_maker hI h7 h8 hlen rfl
  have hKp := hI.1
  have HI := Lib.hid (And.intro hM hKp)
  clear hI hM hKp I0
  rw [writeAll_enter]
  simp only [enterV, List.setIfInBounds_toArray, List.set_cons_zero, List.set_cons_succ]
  go_wp2
  go_ret
  exact ⟨rfl, HI.out⟩
end Go.Proofs.YtfginegegaokbaaGreatDoor
