/- Numbers that came in, as a maker has them; what the statements ask of one expression. -/
import Derived.Test.YtiieghaibcbddaaDoorMakeSecAll
import Derived.Test.YtiieghaibcbddaaDoorTreeWf
import Derived.Test.YtiieghaibcbddaaDoorTreeFrame
namespace Go.Proofs.YtiieghaibcbddaaDoor
open Go.ChangeShapes Go.WideShapes Go.ChangeAt Go.RowKit
set_option linter.unusedVariables false
set_option linter.unusedSimpArgs false

def E0 : Env := ⟨[], [], [], false, 0, 0⟩
theorem good0 : goodE E0 := fun s hs => by simp [E0] at hs
/-- The numbers, as bytes. -/
def byteL (zs : List Int) : List UInt8 := zs.map fun z => UInt8.ofNat z.toNat
theorem u8_wf {z : Int} (h : (Lit.int .u8 z).wf = true) : 0 ≤ z ∧ z < 256 := by
  simp [Lit.wf] at h
  have h1 : IntKind.u8.min = 0 := rfl
  have h2 : IntKind.u8.max = 255 := rfl
  omega
theorem nsAt_of_ints {w : World} {v : Value} {zs : List Int} (h : IntsAt w .u8 v zs) (hz : ∀ n ∈ zs, (Lit.int .u8 n).wf = true) (m : Nat) (hm : m ≤ zs.length) :
    ∃ ao cap, v = .slice ao zs.length cap ∧ zs.length ≤ cap ∧ NsAt w.heap.size w (.slice ao m cap) ((byteL zs).take m) := by
  obtain ⟨ao, cap, rfl, hc, hcm, hl, hi⟩ := h
  refine ⟨ao, cap, rfl, hc, ao, cap, by simp [byteL]; omega, by simp [byteL]; omega, by unfold maxLen at hcm; omega, fun i x hx => ?_⟩
  have him : i < m := by
    rcases Nat.lt_or_ge i m with h | h
    · exact h
    · rw [List.getElem?_eq_none (by simp; omega)] at hx; cases hx
  obtain ⟨b, off, rfl, hb, hcell⟩ := hi i (by omega)
  refine ⟨b, off, rfl, hb, ?_⟩
  have hx' : (byteL zs)[i]? = some x := by rw [List.getElem?_take, if_pos him] at hx; exact hx
  have hiz : i < zs.length := by omega
  simp [byteL, hiz] at hx'
  have hw := u8_wf (hz zs[i] (List.getElem_mem hiz))
  have hg : zs.getD i 0 = zs[i] := by simp [hiz]
  rw [hcell, hg, ← hx']
  congr 2
  simp
  omega
theorem maker_new {B : Nat} {w : World} {v : Value} {ns : List UInt8} (hB : B ≤ w.heap.size) (h : NsAt B w v ns) :
    MakerAt B w.heap.size E0 ns (w.alloc (.cells #[v, .slice none 0 0, .slice none 0 0, .slice none 0 0, .bool false, .int .i64 0, .int .i64 0] 51)) :=
  ⟨hB, v, _, _, _, heap_alloc_new w _, h.on fun k hk => Lib.alloc_old w _ k (by omega), World.ownsRow_nil _ _ _ _, World.ownsRow_nil _ _ _ _, World.ownsRow_nil _ _ _ _, by simp [E0], by simp [E0], by simp [E0]⟩
theorem cat3 (X : List UInt8) : (⟨#[40]⟩ : ByteArray) ++ bstr X ++ ⟨#[41]⟩ = bstr ([40] ++ X ++ [41]) := by
  apply ByteArray.ext; simp [ByteArray.data_append, bstr]
theorem bstr_inj {a b : List UInt8} (h : bstr a = bstr b) : a = b := by rw [← bys_bstr a, h, bys_bstr]
theorem str_ne {a b : ByteArray} (h : ¬ a = b) : (a.toList == b.toList) = false := by
  rw [ByteArray.toList_eq, ByteArray.toList_eq, beq_eq_false_iff_ne]
  exact fun e => h (bys_inj e)
theorem brackets_ne (X : List UInt8) : ¬ bstr ([40] ++ X ++ [41]) = bstr X := fun h => by
  have := congrArg List.length (bstr_inj h)
  simp at this
  omega

/-- What TreeTight asks of one expression. -/
theorem tight_text {n : Nat} {t : Tree} (h : wfT (n + 1) t) (q : Nat) :
    (bstr (etext (n + 1) t q) = bstr (etext (n + 1) t 0) ∧ (t.kind = 3 → ¬ tightN t.op < q)) ∨ (bstr (etext (n + 1) t q) = bstr ([40] ++ etext (n + 1) t 0 ++ [41]) ∧ t.kind = 3 ∧ tightN t.op < q) := by
  rw [etext_at n t q]
  by_cases h3 : t.kind = 3
  · have h0 := tightN_pos t.op (h.1 h3).1 (h.1 h3).2
    by_cases hq : tightN t.op < q
    · rw [if_pos ⟨h3, h0, hq⟩]; exact .inr ⟨rfl, h3, hq⟩
    · rw [if_neg (fun hh => hq hh.2.2)]; exact .inl ⟨rfl, fun _ => hq⟩
  · rw [if_neg (fun hh => h3 hh.1)]; exact .inl ⟨rfl, fun hh => absurd hh h3⟩

@[reducible] def boxOf (K : Int) (t : Tree) (kv : Value) : Obj := .cells #[.int .i64 K, .int .i64 t.op, .string t.name, .int .u64 t.value, kv, .int .i64 t.at_] 44
theorem rounds_box {K : Int} {t : Tree} {kv : Value} {w2 wr : World} (h : Below (w2.alloc (boxOf K t kv)).heap.size (w2.alloc (boxOf K t kv)) wr) : wr.heap[w2.heap.size]? = some (.cells #[.int .i64 K, .int .i64 t.op, .string t.name, .int .u64 t.value, kv, .int .i64 t.at_] 44 (0, 0)) :=
  (h.block _ (by rw [alloc_size]; omega)).trans (heap_alloc_new w2 _)
theorem rounds_on {a b c : World} (h : Below a.heap.size a b) (k : Below b.heap.size b c) : Below a.heap.size a c := h.trans (k.mono h.size)
theorem pow13 : 100 * 4 ^ 13 ≤ 70368744177664 := by decide
theorem expr_rounds {n lo : Nat} {t : Tree} {v : Value} {w w2 : World} (o : Obj) (hE : ERep lo w2.heap.size w2 (n + 1) v t) (hwf : wfT (n + 1) t) (hn : 100 * 4 ^ (n + 1) ≤ 70368744177664) (hb : Below w.heap.size w w2) (hV : Vars w.heap.size w) (q : Nat) (b : ByteArray) (hq : q ≤ 100) (ht : bstr (etext (n + 1) t q) = b) (wr : World) (hr : Below (w2.alloc o).heap.size (w2.alloc o) wr) :
    Calls Tryd.prog 8 #[v, .int .i64 q] wr fun e w' => e = .returned (.string b) ∧ Below wr.heap.size wr w' := by
  have h2 : Below w2.heap.size w2 wr := ((Below.refl _ _).alloc (Nat.le_refl _) o).trans (hr.mono (by rw [alloc_size]; omega))
  have hE' : ERep 0 wr.heap.size wr (n + 1) v t := (hE.carry (Nat.zero_le _) (Nat.le_refl _) (Same35.refl _ _ _)).mono h2.size h2
  have hbr : Below w.heap.size w wr := hb.trans (h2.mono hb.size)
  subst ht
  exact treeExpr_any (n + 1) t v q wr hE' ((hV.on hbr).mono hbr.size) hq (etext_some n t q hwf) (Nat.le_trans (etext_len _ _ _ hwf) hn)
end Go.Proofs.YtiieghaibcbddaaDoor
