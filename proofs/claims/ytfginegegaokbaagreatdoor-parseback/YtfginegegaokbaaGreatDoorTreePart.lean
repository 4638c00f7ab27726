/- What page.part, cell, pick, binary and expr write, when they are called. Conditions: the page is one that the call has made; the tree lies in memory below it; the texts stay short of 2 to the 46th bytes. -/
import Derived.Test.YtfginegegaokbaaGreatDoorTreeRep
namespace Go.Proofs.YtfginegegaokbaaGreatDoor
open Go.ChangeShapes Go.WideShapes Go.ChangeAt Go.RowKit
set_option linter.unusedVariables false
set_option linter.unusedSimpArgs false

set_option maxHeartbeats 2000000 in
set_option maxRecDepth 100000 in
theorem part_of {n : Nat} (ih : ExprC n) (B b : Nat) (l : List UInt8) (d : Int) (ks : List Tree) (v : Value) (i p : Nat) (w : World) (hP : PageAt B b l d w) (hK : Kids 0 B w (fun v' t' => ERep 0 B w n v' t') v ks) (hV : Vars B w) (hi : i ≤ 2) (hp : p ≤ 100)
    (hlen : l.length + (epart n ks i p).length ≤ 70368744177664) :
    Calls Tryz.prog 81 #[.pointer (some ⟨b, 0, none⟩), v, .int .i64 i, .int .i64 p] w (Wrote B b l d w (epart n ks i p)) := by
  obtain ⟨ao, cap, rfl, hkl, hK⟩ := hK
  by_cases hlt : i < ks.length
  · obtain ⟨k, hk⟩ : ∃ k, ks[i]? = some k := ⟨ks[i], by simp [hlt]⟩
    obtain ⟨g, off, c0, c1, c2, c3, c4, c5, rfl, _, hg, _, h0, h1, h2, h3, h4, h5, hr⟩ := hK i k hk
    rw [epart_some hk] at hlen ⊢
    clear hK hk
    go_enter Tryz.func81, Tryz.ntmps81
    go_wp2_with (go_at_call 102; refine (ih B b l d k _ p _ hP hr hV hp hlen).mono ?_; rintro e w' ⟨rfl, hP', hb'⟩)
    go_end0
    exact ⟨rfl, hP', hb'⟩
  · have hnone : ks[i]? = none := by simp; omega
    rw [epart_none hnone] at hlen ⊢
    simp only [List.length_cons, List.length_nil] at hlen
    clear hK hnone
    go_enter Tryz.func81, Tryz.ntmps81
    go_wp2_with (go_at_call 48; refine (writeString_any B b l d ⟨#[63]⟩ _ hP (by simp [ByteArray.size]; omega)).mono ?_; rintro e w' ⟨rfl, hP', hb'⟩)
    go_end0
    exact ⟨rfl, hP'.page, hb'⟩
theorem part_at {n : Nat} (ih : ExprC n) (B b : Nat) (l : List UInt8) (d : Int) (ks : List Tree) (v : Value) (i p : Nat) (q : Int) (hq : Hid (q = p)) (w : World) (hP : PageAt B b l d w) (hK : Kids 0 B w (fun v' t' => ERep 0 B w n v' t') v ks) (hV : Vars B w) (hi : i ≤ 2) (hp : p ≤ 100)
    (hlen : l.length + (epart n ks i p).length ≤ 70368744177664) :
    Calls Tryz.prog 81 #[.pointer (some ⟨b, 0, none⟩), v, .int .i64 i, .int .i64 q] w (Wrote B b l d w (epart n ks i p)) := by
  rw [hq.out]
  exact part_of ih B b l d ks v i p w hP hK hV hi hp hlen
end Go.Proofs.YtfginegegaokbaaGreatDoor
